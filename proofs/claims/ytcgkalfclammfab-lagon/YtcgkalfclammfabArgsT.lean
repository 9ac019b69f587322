import Derived.Test.YtcgkalfclammfabArgsI
import Derived.ChangeSame
import Derived.Deep.Matrix
namespace Go.Proofs.Ytcgkalfclammfab
open Go.ChangeShapes Go.WideShapes Go.ChangeAt Go.RowKit
set_option maxRecDepth 100000

theorem cells_i : Try.prog.cellsOf 3 = 1 := by kernel_rfl
theorem cells_t : Try.prog.cellsOf 23 = 2 := by kernel_rfl

/-- A term that came in. -/
theorem term_of {H : Type} {enc : TypeId × Value → H} {W : World} {base : Nat} {held : Bool} {cs : Array Value} {d : DataW H} {ps : List MemPlace} (hsz : cs.size = Try.prog.cellsOf 23)
    (h : DataW.Trod enc Try.prog W base (fun _ => true) held 23 (.agg cs) d ps) :
    ∃ A G, cs = #[.int .i64 A, .int .i64 G] ∧ (Lit.int .i64 A).wf = true ∧ (Lit.int .i64 G).wf = true := by
  obtain ⟨fuel, hf⟩ := h
  rw [cells_t] at hsz
  obtain ⟨c0, c1, rfl⟩ : ∃ c0 c1, cs = #[c0, c1] := by
    obtain ⟨l⟩ := cs
    match l, hsz with
    | [c0, c1], _ => exact ⟨c0, c1, rfl⟩
  obtain ⟨y0, y1, n', _, _, h0, h1⟩ := trod_struct2 Try.underlying23 hf
  simp only [Value.cells, cells_i, List.drop_zero, List.take_succ_cons, List.take_zero, List.drop_succ_cons] at h0 h1
  obtain ⟨k0, e0, _, w0⟩ := DataW.trod_int Try.underlying3 h0
  simp only [List.cons.injEq, and_true] at e0
  subst e0
  obtain ⟨k1, e1, _, w1⟩ := DataW.trod_int Try.underlying3 h1
  simp only [List.cons.injEq, and_true] at e1
  subst e1
  exact ⟨k0, k1, rfl, w0, w1⟩
end Go.Proofs.Ytcgkalfclammfab
