import Derived.Test.YtcgkalfclammfabInts
import Derived.Laws.Externs
namespace Go.Proofs.Ytcgkalfclammfab
open Go.RowKit Go.Proofs Go.Proofs.PipeA
set_option maxRecDepth 100000

/-- A sum. -/
def sizeV (s : Nat) : Value := .agg #[.int .u64 0, .int .u64 (s : Nat)]

theorem run_add (x y : Int) (hx : 0 ≤ x ∧ x ≤ 4611686018427387904) (hy : 0 ≤ y ∧ y ≤ 4611686018427387904) (w : World) :
    (callFunc 30 #[.int .u64 x, .int .u64 y, .int .u64 0]).run Try.prog w = .ok (.value (.tuple #[.int .u64 (x + y), .int .u64 0])) w := by
  rw [run_callFunc_extern (show Try.prog.funcs[30]? = some _ from rfl) (by kernel_rfl) (by kernel_rfl) (by kernel_rfl) (e := add64Entry) (by kernel_rfl), run_add64 x y 0 (by omega) (by omega) (by omega) (by omega)]
  simp only [Result.andThen]
  rw [show (x + y + 0) % 18446744073709551616 = x + y by omega, show (x + y + 0) / 18446744073709551616 = 0 by omega]

set_option maxHeartbeats 800000 in
theorem cPlus (s : Nat) (n : Int) (w : World) (hs : s ≤ 4000000000000000000) (hn : -4000000000000000000 ≤ n ∧ n ≤ 4000000000000000000) :
    Calls Try.prog 29 #[sizeV s, .int .i64 n] w fun e w' => e = .returned (sizeV (s + n.natAbs)) ∧ Below w.heap.size w w' := by
  obtain ⟨y, hy⟩ : ∃ y : Int, y = (n.natAbs : Int) := ⟨_, rfl⟩
  have hadd := fun W => run_add (s : Int) y (by omega) (by omega) W
  obtain ⟨z, hz⟩ : ∃ z : Int, z = (s : Int) + y := ⟨_, rfl⟩
  rw [← hz] at hadd
  have hzz : ((s + n.natAbs : Nat) : Int) = z := by rw [hz, hy]; simp
  have hyb : 0 ≤ y ∧ y ≤ 4000000000000000000 := by omega
  have hzb : 0 ≤ z ∧ z ≤ 8000000000000000000 := by omega
  unfold sizeV
  rw [hzz]
  clear hzz hz
  rcases Int.lt_trichotomy n 0 with h | h | h
  · obtain rfl : y = -n := by omega
    clear hy
    go_enter Try.func29, Try.ntmps29
    go_wp2
    refine bodyPost_ret (v := .agg #[.int .u64 0, .int .u64 z]) (by simp [results, Try.results29, go_sem]) rfl ?_
    exact ⟨rfl, below2 _ _ _⟩
  · obtain rfl : y = 0 := by omega
    subst h
    clear hy
    go_enter Try.func29, Try.ntmps29
    go_wp2
    refine bodyPost_ret (v := .agg #[.int .u64 0, .int .u64 z]) (by simp [results, Try.results29, go_sem]) rfl ?_
    exact ⟨rfl, below2 _ _ _⟩
  · obtain rfl : y = n := by omega
    clear hy
    go_enter Try.func29, Try.ntmps29
    go_wp2
    refine bodyPost_ret (v := .agg #[.int .u64 0, .int .u64 z]) (by simp [results, Try.results29, go_sem]) rfl ?_
    exact ⟨rfl, below2 _ _ _⟩

set_option maxHeartbeats 400000 in
theorem cSLess (a b : Nat) (w : World) : Calls Try.prog 27 #[sizeV a, sizeV b] w fun e w' => e = .returned (.bool (decide (a < b))) ∧ Below w.heap.size w w' := by
  unfold sizeV
  go_enter Try.func27, Try.ntmps27
  go_wp2
  go_ret
  exact ⟨rfl, below2 _ _ _⟩

theorem cells_two {W : World} {b : Nat} {x y : Value} {t : TypeId} (h : W.heap[b]? = some (.cells #[x, y] t)) : W.cell? ⟨b, 0, none⟩ = some x ∧ W.cell? ⟨b, 1, none⟩ = some y ∧ W.frozen? ⟨b, 0, none⟩ = false ∧ W.frozen? ⟨b, 1, none⟩ = false :=
  ⟨by rw [cell_of_heap h]; rfl, by rw [cell_of_heap h]; rfl, frozen_of_heap h _, frozen_of_heap h _⟩
theorem set_two {W : World} {b : Nat} {x y : Value} {t : TypeId} (x' y' : Value) (h : W.heap[b]? = some (.cells #[x, y] t)) : ((W.setCell ⟨b, 0, none⟩ x').setCell ⟨b, 1, none⟩ y').heap[b]? = some (.cells #[x', y'] t) := by
  simp only [World.setCell, Array.getElem?_modify, if_pos, h]
  rfl
end Go.Proofs.Ytcgkalfclammfab
