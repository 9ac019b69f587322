import Derived.Test.YtcgkalfclammfaaGHeap3
import Derived.Test.YtcgkalfclammfaaFilC4
import Derived.StillTailTactics
import Derived.BigRegion
import Derived.Test.YtcgkalfclammfaaWideC
namespace Go.Proofs.Ytcgkalfclammfaa
open Go.RowKit Go.Proofs Go.Proofs.PipeA Go.Proofs.HeapM
set_option maxRecDepth 100000

/-- A trial: a number of indices and a sum. -/
def trialV (x : Nat × Nat) : Value := .agg #[.int .i64 (x.1 : Nat), .int .u64 0, .int .u64 (x.2 : Nat)]

/-- Is one trial better than another? -/
def tBefore (a b : Nat × Nat) : Bool := if a.2 ≠ b.2 then decide (a.2 < b.2) else decide (a.1 < b.1)

set_option maxHeartbeats 800000 in
theorem tBetter (a b : Nat × Nat) (w : World) : Calls Try.prog 74 #[trialV a, trialV b] w fun e w' => e = .returned (.bool (tBefore a b)) ∧ Below w.heap.size w w' := by
  obtain ⟨n, s⟩ := a
  obtain ⟨m, t⟩ := b
  have HL := fun W => Lib.hid (cSLess s t W)
  unfold sizeV at HL
  unfold trialV
  simp only
  by_cases h : s = t
  · subst h
    have HT : Hid (tBefore (n, s) (m, s) = decide (n < m)) := by show _ = _; unfold tBefore; rw [if_neg (by simp)]
    rw [HT.out]
    go_enter Try.func74, Try.ntmps74
    go_wp2
    go_ret
    exact ⟨rfl, below2 _ _ _⟩
  · have HT : Hid (tBefore (n, s) (m, t) = decide (s < t)) := by show _ = _; unfold tBefore; rw [if_pos (by simpa using h)]
    have t1 : ((s : Int) != (t : Int)) = true := by simpa using by omega
    rw [HT.out]
    clear h
    go_enter Try.func74, Try.ntmps74
    go_wp2_with fail
    · rename_i hh; exact absurd t1 (by simp [hh])
    refine (HL _).out.mono ?_
    rintro e w1 ⟨rfl, hb1⟩
    have hb0 := below2 w (.cells #[.int .i64 (n : Nat), .int .u64 0, .int .u64 (s : Nat)] 56) (.cells #[.int .i64 (m : Nat), .int .u64 0, .int .u64 (t : Nat)] 56)
    have HB := Lib.hid (hb0.trans (hb1.mono hb0.size))
    clear hb1 hb0
    go_wp2
    go_ret
    exact ⟨rfl, HB.out⟩
end Go.Proofs.Ytcgkalfclammfaa
