import Derived.Test.YtefbakhhlonafaaBlkQ2
import Derived.Test.YtefbakhhlonafaaBlkP4
import Derived.Maps.Own

namespace Go.Proofs.Ytefbakhhlonafaa
open Go.RowKit Go.Proofs Go.Proofs.BlkM Go.Proofs.BlkB Go.Maps
set_option maxRecDepth 100000

theorem int_key : Keyed Try.prog 3 := int_keyed Try.underlying3
theorem int_zero (w : World) : (zeroValue 3).run Try.prog w = .ok (.int .i64 0) w := by kernel_rfl

theorem wf_i64 {a : Int} (h1 : -9223372036854775808 ≤ a) (h2 : a ≤ 9223372036854775807) : (Lit.int .i64 a).wf = true := by
  simp [Lit.wf, IntKind.min, IntKind.max, IntKind.signed, IntKind.bits]
  omega

/-- What the law's table holds. -/
theorem map_three (w : World) (p q k v : Int) (hp : (Lit.int .i64 p).wf = true) (hq : (Lit.int .i64 q).wf = true) (hv : (k = 0 ∧ v = 2) ∨ (k = 1 ∧ v = p) ∨ (k = 3 ∧ v = q)) :
    ∃ w2 w3 w4, (Instr.mapUpdate 39 (.map (some w.heap.size)) (.int .i64 0) (.int .i64 2)).run Try.prog (w.alloc (.map #[] 0)) = .ok () w2 ∧
      (Instr.mapUpdate 39 (.map (some w.heap.size)) (.int .i64 1) (.int .i64 p)).run Try.prog w2 = .ok () w3 ∧
      (Instr.mapUpdate 39 (.map (some w.heap.size)) (.int .i64 3) (.int .i64 q)).run Try.prog w3 = .ok () w4 ∧
      (Instr.lookup 39 (.map (some w.heap.size)) (.int .i64 k) false).run Try.prog w4 = .ok (.int .i64 v) w4 ∧ Below w.heap.size w w4 := by
  have h1 := World.ownsMap_made (H := Unit) w Try.prog 3 (plainElem Try.prog 3)
  obtain ⟨w2, r2, h2, g2⟩ := h1.update int_key Try.underlying39 (by decide) (key := .int .i64 0) (keyOf_int_mk Try.underlying3 (by decide)) (plainElem_int Try.underlying3 (show (Lit.int .i64 2).wf = true by decide))
  obtain ⟨w3, r3, h3, g3⟩ := h2.update int_key Try.underlying39 (by decide) (key := .int .i64 1) (keyOf_int_mk Try.underlying3 (by decide)) (plainElem_int Try.underlying3 hp)
  obtain ⟨w4, r4, h4, g4⟩ := h3.update int_key Try.underlying39 (by decide) (key := .int .i64 3) (keyOf_int_mk Try.underlying3 (by decide)) (plainElem_int Try.underlying3 hq)
  refine ⟨w2, w3, w4, r2, r3, r4, ?_, ?_⟩
  · rcases hv with ⟨rfl, rfl⟩ | ⟨rfl, rfl⟩ | ⟨rfl, rfl⟩
    · obtain ⟨c, hrun, hat, _⟩ := h4.lookup_int int_key Try.underlying39 Try.underlying3 (int_zero w4) (key := .int .i64 0) (keyOf_int_mk Try.underlying3 (by decide))
      have e : (DataW.lit (.int .i64 2) : DataW Unit) = .lit (.int .i64 c) := hat
      cases e
      exact hrun
    · obtain ⟨c, hrun, hat, _⟩ := h4.lookup_int int_key Try.underlying39 Try.underlying3 (int_zero w4) (key := .int .i64 1) (keyOf_int_mk Try.underlying3 (by decide))
      have e : (DataW.lit (.int .i64 v) : DataW Unit) = .lit (.int .i64 c) := hat
      cases e
      exact hrun
    · obtain ⟨c, hrun, hat, _⟩ := h4.lookup_int int_key Try.underlying39 Try.underlying3 (int_zero w4) (key := .int .i64 3) (keyOf_int_mk Try.underlying3 (by decide))
      have e : (DataW.lit (.int .i64 v) : DataW Unit) = .lit (.int .i64 c) := hat
      cases e
      exact hrun
  · have hb1 := box_below w (.map #[] 0)
    have s1 := hb1.size
    exact ((hb1.grown g2 hb1.size (fun j hj => by cases hj; exact Nat.le_refl _)).grown g3 (by have := g2.size; omega) (fun j hj => by cases hj; exact Nat.le_refl _)).grown g4 (by have := g2.size; have := g3.size; omega) (fun j hj => by cases hj; exact Nat.le_refl _)
end Go.Proofs.Ytefbakhhlonafaa
