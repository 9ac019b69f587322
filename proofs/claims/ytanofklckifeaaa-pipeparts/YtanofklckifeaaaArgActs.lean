import Derived.Test.YtanofklckifeaaaRows
import Derived.Test.YtanofklckifeaaaLawPuts
import Derived.ProofKit
import Derived.OpenShut
import Derived.ChangeOld
import Derived.Deep.Slices
import Derived.Deep.Strs
namespace Go.Proofs.Ytanofklckifeaaa
open Go.ChangeShapes Go.WideShapes Go.ChangeAt Go.RowKit Go.Deep Go.Proofs.PipeM

theorem cells_act : Try.prog.cellsOf 28 = 3 := by kernel_rfl
theorem cells_int : Try.prog.cellsOf 3 = 1 := by kernel_rfl

/-- A slice of acts that came in. -/
theorem acts_of {H : Type} {enc : TypeId × Value → H} {W : World} {base : Nat} {spare : Nat → Bool} {held : Bool} {fuel : Nat} {cs : List Value} {x : DataW H × List MemPlace}
    (h : DataW.trod enc Try.prog W base spare held fuel 22 cs = some x) :
    ∃ ao cap xs, cs = [.slice ao xs.length cap] ∧ ActsFit xs ∧ ActsAt W ao xs := by
  rcases open_slice Try.underlying22 h with ⟨rfl, _⟩ | ⟨a, len, cap, m, n, D, Pl, rfl, _, hl, _, hm, _, hi⟩
  · exact ⟨none, 0, [], rfl, fun a ha => by simp at ha, fun i hi => by simp at hi⟩
  · have hlm : len ≤ m := by rw [hm]; split <;> omega
    have key : ∀ i, i < len → ∃ t : Int × Int × Int, (W.cell? (a.add (i * 3)) = some (.int .i64 t.1) ∧ W.cell? (a.add (i * 3 + 1)) = some (.int .i64 t.2.1) ∧ W.cell? (a.add (i * 3 + 2)) = some (.int .i64 t.2.2)) ∧ -9223372036854775808 ≤ t.2.1 ∧ t.2.1 ≤ 9223372036854775807 := by
      intro i hil
      obtain ⟨cs', hc, ht'⟩ := hi i (by omega)
      rw [cells_act] at hc
      obtain ⟨_, hcl, hat⟩ := World.cells?_some hc
      obtain ⟨y0, y1, y2, n', _, _, h0, h1, h2⟩ := trod_struct3 Try.underlying28 ht'
      match cs', hcl with
      | [c0, c1, c2], _ =>
        simp only [cells_int, List.drop_zero, List.take_succ_cons, List.take_zero, List.drop_succ_cons] at h0 h1 h2
        obtain ⟨k0, e0, _, _⟩ := DataW.trod_int Try.underlying3 h0
        obtain ⟨k1, e1, _, w1⟩ := DataW.trod_int Try.underlying3 h1
        obtain ⟨k2, e2, _, _⟩ := DataW.trod_int Try.underlying3 h2
        simp only [List.cons.injEq, and_true] at e0 e1 e2
        subst e0 e1 e2
        refine ⟨(k0, k1, k2), ⟨?_, ?_, ?_⟩, ?_⟩
        · have := hat 0 (by omega); simpa [add_add] using this
        · have := hat 1 (by omega); simpa [add_add] using this
        · have := hat 2 (by omega); simpa [add_add] using this
        · simpa [Lit.wf, IntKind.min, IntKind.max, IntKind.signed, IntKind.bits] using w1
    obtain ⟨T, hT⟩ := choose_lt key
    refine ⟨some a, cap, (List.range len).map T, by simp, ?_, ?_⟩
    · intro t ht
      simp only [List.mem_map, List.mem_range] at ht
      obtain ⟨i, hil, rfl⟩ := ht
      exact (hT i hil).2
    · intro i hil
      have hil' : i < len := by simpa using hil
      obtain ⟨⟨q0, q1, q2⟩, _⟩ := hT i hil'
      obtain ⟨g, off, spot⟩ := a
      have hspot : spot = none := by
        have := (hT 0 (by omega)).1.1
        simpa [Addr.add] using World.cell?_spot this
      subst hspot
      rw [Go.WideShapes.add_plain] at q0 q1 q2
      refine ⟨g, off, rfl, World.block_lt_of_cell? _ _ q0, ?_, ?_, ?_⟩
      · simpa using q0
      · simpa [Nat.add_assoc] using q1
      · simpa [Nat.add_assoc] using q2
end Go.Proofs.Ytanofklckifeaaa
