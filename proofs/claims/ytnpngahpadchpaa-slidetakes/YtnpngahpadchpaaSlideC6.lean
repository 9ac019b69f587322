import Derived.Laws.MakeOwn
import Derived.Test.YtnpngahpadchpaaSlideC5
import Derived.Test.YtnpngahpadchpaaRiceBestC
namespace Go.Proofs.Ytnpngahpadchpaa
open Go.RowKit Go.Shelf Go.Proofs Go.Proofs.PipeM Go.Proofs.PipeA
set_option maxRecDepth 100000

/-- The best parameter, as a function. -/
def bestTo (l : List Int) : Nat → Nat
  | 0 => 0
  | i + 1 => if totalN l (i + 1) < totalN l (bestTo l i) then i + 1 else bestTo l i
theorem bestTo_is (l : List Int) : ∀ i, bestTo l i ≤ i ∧ ∀ p, p ≤ i → totalN l (bestTo l i) ≤ totalN l p ∧ (totalN l p = totalN l (bestTo l i) → bestTo l i ≤ p)
  | 0 => ⟨Nat.le_refl _, fun p hp => by have : p = 0 := by omega
                                        subst this; exact ⟨Nat.le_refl _, fun _ => Nat.le_refl _⟩⟩
  | i + 1 => by
    obtain ⟨h1, h2⟩ := bestTo_is l i
    unfold bestTo
    split
    · rename_i h
      refine ⟨Nat.le_refl _, fun p hp => ?_⟩
      by_cases e : p = i + 1
      · subst e; exact ⟨Nat.le_refl _, fun _ => Nat.le_refl _⟩
      · have h3 := h2 p (by omega)
        exact ⟨by omega, fun h4 => by omega⟩
    · rename_i h
      refine ⟨by omega, fun p hp => ?_⟩
      by_cases e : p = i + 1
      · subst e; exact ⟨by omega, fun _ => by omega⟩
      · exact h2 p (by omega)
def bestN (l : List Int) : Nat := bestTo l 24
theorem bestN_is (l : List Int) : IsBest l (bestN l) := by
  obtain ⟨h1, h2⟩ := bestTo_is l 24
  exact ⟨h1, h2⟩
theorem isBest_eq {l : List Int} {k : Nat} (h : IsBest l k) : k = bestN l := h.unique (bestN_is l)
def bestKs (size : Nat) (l : List Int) (m : Nat) : List Int := (List.range m).map fun j => ((bestN (partNo size l j) : Nat) : Int)
theorem bestKs_length (size : Nat) (l : List Int) (m : Nat) : (bestKs size l m).length = m := by simp [bestKs]
theorem bestKs_get (size : Nat) (l : List Int) (m j : Nat) (h : j < (bestKs size l m).length) : (bestKs size l m)[j] = ((bestN (partNo size l j) : Nat) : Int) := by simp [bestKs]
theorem bestKs_ok (size : Nat) (l : List Int) (m : Nat) : ∀ k ∈ bestKs size l m, 0 ≤ k ∧ k ≤ 24 := by
  intro k hk
  simp only [bestKs, List.mem_map] at hk
  obtain ⟨j, _, rfl⟩ := hk
  have := (bestN_is (partNo size l j)).1
  omega

theorem info_int : (Try.prog.info? 3).map (fun i => (i.zero, i.size, i.bytes)) = some (some (.int .i64 0), 1, 8) := by kernel_rfl
theorem makeInts (m : Nat) (hm : m ≤ 100000) : ∃ cs : Array Value, (∀ j, j < m → cs[j]? = some (.int .i64 0)) ∧ ∀ W, (Instr.makeSlice 22 (.int .i64 (m : Int)) (.int .i64 (m : Int))).run Try.prog W = .ok (.slice (some ⟨W.heap.size, 0, none⟩) m m) (W.alloc (.cells cs 3)) := by
  obtain ⟨i0, hi, hz0, hz1, hz2⟩ := info_parts info_int
  refine ⟨madeCells (Value.cells (.int .i64 0)) (m * i0.size), ?_, fun W => ?_⟩
  · intro j hj
    rw [hz1]
    simp [madeCells, Value.cells, hj]
    rw [Nat.mod_one]; rfl
  · have := run_make (P := Try.prog) W 22 3 i0 (.int .i64 0) Try.underlying22 hi hz0 .i64 .i64 m m (by omega) (Int.le_refl _) (by rw [hz2]; omega) (by omega)
    simpa using this
end Go.Proofs.Ytnpngahpadchpaa
