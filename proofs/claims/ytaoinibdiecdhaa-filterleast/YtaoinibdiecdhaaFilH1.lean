import Derived.Test.YtaoinibdiecdhaaGHeap3
import Derived.Test.YtaoinibdiecdhaaFilC4
import Derived.StillTailTactics
import Derived.BigRegion
import Derived.Laws.Externs
namespace Go.Proofs.Ytaoinibdiecdhaa
open Go.RowKit Go.Proofs Go.Proofs.PipeA Go.Proofs.HeapM
set_option maxRecDepth 100000

/-- A sum, and a trial: a number of indices and a sum. -/
def sizeV (s : Nat) : Value := .agg #[.int .u64 0, .int .u64 (s : Nat)]
def trialV (x : Nat × Nat) : Value := .agg #[.int .i64 (x.1 : Nat), .int .u64 0, .int .u64 (x.2 : Nat)]

theorem run_add (x y : Int) (hx : 0 ≤ x ∧ x ≤ 4611686018427387904) (hy : 0 ≤ y ∧ y ≤ 4611686018427387904) (w : World) :
    (callFunc 50 #[.int .u64 x, .int .u64 y, .int .u64 0]).run Try.prog w = .ok (.value (.tuple #[.int .u64 (x + y), .int .u64 0])) w := by
  rw [run_callFunc_extern (show Try.prog.funcs[50]? = some _ from rfl) (by kernel_rfl) (by kernel_rfl) (by kernel_rfl) (e := add64Entry) (by kernel_rfl), run_add64 x y 0 (by omega) (by omega) (by omega) (by omega)]
  simp only [Result.andThen]
  rw [show (x + y + 0) % 18446744073709551616 = x + y by omega, show (x + y + 0) / 18446744073709551616 = 0 by omega]

set_option maxHeartbeats 800000 in
theorem cPlus (s : Nat) (n : Int) (w : World) (hs : s ≤ 4000000000000000000) (hn : -4000000000000000000 ≤ n ∧ n ≤ 4000000000000000000) :
    Calls Try.prog 40 #[sizeV s, .int .i64 n] w fun e w' => e = .returned (sizeV (s + n.natAbs)) ∧ Below w.heap.size w w' := by
  obtain ⟨y, hy⟩ : ∃ y : Int, y = (n.natAbs : Int) := ⟨_, rfl⟩
  have hadd := fun W => run_add (s : Int) y (by omega) (by omega) W
  obtain ⟨z, hz⟩ : ∃ z : Int, z = (s : Int) + y := ⟨_, rfl⟩
  rw [← hz] at hadd
  have hzz : ((s + n.natAbs : Nat) : Int) = z := by rw [hz, hy]; simp
  have hyb : 0 ≤ y ∧ y ≤ 4000000000000000000 := by omega
  have hzb : 0 ≤ z ∧ z ≤ 8000000000000000000 := by omega
  unfold sizeV
  rw [hzz]
  clear hzz hz
  rcases Int.lt_trichotomy n 0 with h | h | h
  · obtain rfl : y = -n := by omega
    clear hy
    go_enter Try.func40, Try.ntmps40
    go_wp2
    refine bodyPost_ret (v := .agg #[.int .u64 0, .int .u64 z]) (by simp [results, Try.results40, go_sem]) rfl ?_
    exact ⟨rfl, below2 _ _ _⟩
  · obtain rfl : y = 0 := by omega
    subst h
    clear hy
    go_enter Try.func40, Try.ntmps40
    go_wp2
    refine bodyPost_ret (v := .agg #[.int .u64 0, .int .u64 z]) (by simp [results, Try.results40, go_sem]) rfl ?_
    exact ⟨rfl, below2 _ _ _⟩
  · obtain rfl : y = n := by omega
    clear hy
    go_enter Try.func40, Try.ntmps40
    go_wp2
    refine bodyPost_ret (v := .agg #[.int .u64 0, .int .u64 z]) (by simp [results, Try.results40, go_sem]) rfl ?_
    exact ⟨rfl, below2 _ _ _⟩

set_option maxHeartbeats 400000 in
theorem cSLess (a b : Nat) (w : World) : Calls Try.prog 75 #[sizeV a, sizeV b] w fun e w' => e = .returned (.bool (decide (a < b))) ∧ Below w.heap.size w w' := by
  unfold sizeV
  go_enter Try.func75, Try.ntmps75
  go_wp2
  go_ret
  exact ⟨rfl, below2 _ _ _⟩

/-- Is one trial better than another? -/
def tBefore (a b : Nat × Nat) : Bool := if a.2 ≠ b.2 then decide (a.2 < b.2) else decide (a.1 < b.1)

set_option maxHeartbeats 800000 in
theorem tBetter (a b : Nat × Nat) (w : World) : Calls Try.prog 74 #[trialV a, trialV b] w fun e w' => e = .returned (.bool (tBefore a b)) ∧ Below w.heap.size w w' := by
  obtain ⟨n, s⟩ := a
  obtain ⟨m, t⟩ := b
  have HL := fun W => Lib.hid (cSLess s t W)
  unfold sizeV at HL
  unfold trialV
  simp only
  by_cases h : s = t
  · subst h
    have HT : Hid (tBefore (n, s) (m, s) = decide (n < m)) := by show _ = _; unfold tBefore; rw [if_neg (by simp)]
    rw [HT.out]
    go_enter Try.func74, Try.ntmps74
    go_wp2
    go_ret
    exact ⟨rfl, below2 _ _ _⟩
  · have HT : Hid (tBefore (n, s) (m, t) = decide (s < t)) := by show _ = _; unfold tBefore; rw [if_pos (by simpa using h)]
    have t1 : ((s : Int) != (t : Int)) = true := by simpa using by omega
    rw [HT.out]
    clear h
    go_enter Try.func74, Try.ntmps74
    go_wp2_with fail
    · rename_i hh; exact absurd t1 (by simp [hh])
    refine (HL _).out.mono ?_
    rintro e w1 ⟨rfl, hb1⟩
    have hb0 := below2 w (.cells #[.int .i64 (n : Nat), .int .u64 0, .int .u64 (s : Nat)] 56) (.cells #[.int .i64 (m : Nat), .int .u64 0, .int .u64 (t : Nat)] 56)
    have HB := Lib.hid (hb0.trans (hb1.mono hb0.size))
    clear hb1 hb0
    go_wp2
    go_ret
    exact ⟨rfl, HB.out⟩
end Go.Proofs.Ytaoinibdiecdhaa
