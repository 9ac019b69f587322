import Derived.Test.YtbbcemgcanclnaaArgsI9
import Derived.Test.YtbbcemgcanclnaaWefF1
namespace Go.Proofs.Ytbbcemgcanclnaa
open Go.ChangeShapes Go.WideShapes Go.ChangeAt Go.RowKit Go.Proofs.WefM
set_option maxRecDepth 100000

theorem trod_struct_3w {H : Type} {enc : TypeId × Value → H} {P : Program} {w : World} {base : Nat} {spare : Nat → Bool} {held : Bool} {t : TypeId} {f0 f1 f2 : Field} {fuel : Nat} {cs : List Value} {x : DataW H × List MemPlace} (ht : P.underlying t = some (.struct #[f0, f1, f2])) (h : DataW.trod enc P w base spare held fuel t cs = some x) :
    ∃ y0 y1 y2 n, DataW.trod enc P w base spare held n f0.type ((cs.drop f0.offset).take (P.cellsOf f0.type)) = some y0 ∧ DataW.trod enc P w base spare held n f1.type ((cs.drop f1.offset).take (P.cellsOf f1.type)) = some y1 ∧ DataW.trod enc P w base spare held n f2.type ((cs.drop f2.offset).take (P.cellsOf f2.type)) = some y2 := by
  obtain ⟨xs, n, _, rfl, hl, hlen, hf⟩ := DataW.trod_struct ht h
  match xs, hlen with
  | [y0, y1, y2], _ => exact ⟨y0, y1, y2, n, by simpa using hf 0 f0 rfl, by simpa using hf 1 f1 rfl, by simpa using hf 2 f2 rfl⟩
theorem trod_struct_2w {H : Type} {enc : TypeId × Value → H} {P : Program} {w : World} {base : Nat} {spare : Nat → Bool} {held : Bool} {t : TypeId} {f0 f1 : Field} {fuel : Nat} {cs : List Value} {x : DataW H × List MemPlace} (ht : P.underlying t = some (.struct #[f0, f1])) (h : DataW.trod enc P w base spare held fuel t cs = some x) :
    ∃ y0 y1 n, DataW.trod enc P w base spare held n f0.type ((cs.drop f0.offset).take (P.cellsOf f0.type)) = some y0 ∧ DataW.trod enc P w base spare held n f1.type ((cs.drop f1.offset).take (P.cellsOf f1.type)) = some y1 := by
  obtain ⟨xs, n, _, rfl, hl, hlen, hf⟩ := DataW.trod_struct ht h
  match xs, hlen with
  | [y0, y1], _ => exact ⟨y0, y1, n, by simpa using hf 0 f0 rfl, by simpa using hf 1 f1 rfl⟩
theorem wcells_i : Try.prog.cellsOf 3 = 1 := by kernel_rfl
theorem wcells_b : Try.prog.cellsOf 4 = 1 := by kernel_rfl
theorem wcells_s : Try.prog.cellsOf 25 = 1 := by kernel_rfl
theorem wcells_a : Try.prog.cellsOf 22 = 3 := by kernel_rfl
/-- A row in a cell of a struct. -/
theorem row_of1w {H : Type} {enc : TypeId × Value → H} {W : World} {base fuel : Nat} {held : Bool} {c : Value} {y : DataW H × List MemPlace} (h : DataW.trod enc Try.prog W base (fun _ => true) held fuel 25 [c] = some y) :
    ∃ a len cap zs, c = .slice a len cap ∧ IsRow .i64 W a len cap zs := by
  rcases open_ints Try.underlying25 Try.underlying3 (by kernel_rfl) h with ⟨hcs, _⟩ | ⟨x, l, c', zs, hcs, _, hl, hm, hz, _, hcell, hwz⟩
  · simp only [List.cons.injEq, and_true] at hcs
    exact ⟨none, 0, 0, [], hcs, .inl ⟨rfl, rfl, rfl, rfl⟩⟩
  · simp only [List.cons.injEq, and_true] at hcs
    exact ⟨some x, l, c', zs, hcs, .inr ⟨_, rfl, hl, hm, by simpa using hz, hcell, hwz⟩⟩
/-- A weave that came in. -/
theorem weave_of {H : Type} {enc : TypeId × Value → H} {W : World} {base : Nat} {held : Bool} {cs : Array Value} {d : DataW H} {ps : List MemPlace} (hsz : cs.size = Try.prog.cellsOf 24)
    (h : DataW.Trod enc Try.prog W base (fun _ => true) held 24 (.agg cs) d ps) :
    ∃ s i1 i2 i3 i4, cs = #[.bool s, .int .i64 i1, .int .i64 i2, .int .i64 i3, .int .i64 i4] ∧ (Lit.int .i64 i1).wf = true ∧ (Lit.int .i64 i2).wf = true ∧ (Lit.int .i64 i3).wf = true ∧ (Lit.int .i64 i4).wf = true := by
  obtain ⟨fuel, hf⟩ := h
  rw [show Try.prog.cellsOf 24 = 5 by kernel_rfl] at hsz
  obtain ⟨c0, c1, c2, c3, c4, rfl⟩ : ∃ c0 c1 c2 c3 c4, cs = #[c0, c1, c2, c3, c4] := by
    obtain ⟨l⟩ := cs
    match l, hsz with
    | [c0, c1, c2, c3, c4], _ => exact ⟨c0, c1, c2, c3, c4, rfl⟩
  obtain ⟨_, _, _, n', h0, h1, h2⟩ := trod_struct_3w Try.underlying24 hf
  simp only [Value.cells, wcells_b, List.drop_zero, List.take_succ_cons, List.take_zero] at h0
  simp only [Value.cells, wcells_i, List.drop_zero, List.take_succ_cons, List.take_zero, List.drop_succ_cons] at h1
  simp only [Value.cells, wcells_a, List.drop_zero, List.take_succ_cons, List.take_zero, List.drop_succ_cons] at h2
  obtain ⟨b0, e0, _⟩ := DataW.trod_bool Try.underlying4 h0
  simp only [List.cons.injEq, and_true] at e0
  subst e0
  obtain ⟨k1, e1, _, w1⟩ := DataW.trod_int Try.underlying3 h1
  simp only [List.cons.injEq, and_true] at e1
  subst e1
  obtain ⟨xs, m, _, _, _, hlen, hel⟩ := DataW.trod_array Try.underlying22 h2
  have g0 := hel 0 (by decide)
  have g1 := hel 1 (by decide)
  have g2 := hel 2 (by decide)
  rw [List.getElem?_eq_getElem (by omega)] at g0 g1 g2
  simp only [wcells_i, Nat.mul_one, List.drop_zero, List.take_succ_cons, List.take_zero, List.drop_succ_cons] at g0 g1 g2
  obtain ⟨k2, e2, _, w2⟩ := DataW.trod_int Try.underlying3 g0
  obtain ⟨k3, e3, _, w3⟩ := DataW.trod_int Try.underlying3 g1
  obtain ⟨k4, e4, _, w4⟩ := DataW.trod_int Try.underlying3 g2
  simp only [List.cons.injEq, and_true] at e2 e3 e4
  subst e2 e3 e4
  exact ⟨b0, k1, k2, k3, k4, rfl, w1, w2, w3, w4⟩
/-- Two channels that came in. -/
theorem two_of {H : Type} {enc : TypeId × Value → H} {W : World} {base : Nat} {held : Bool} {cs : Array Value} {d : DataW H} {ps : List MemPlace} (hsz : cs.size = Try.prog.cellsOf 36)
    (h : DataW.Trod enc Try.prog W base (fun _ => true) held 36 (.agg cs) d ps) :
    ∃ a0 len0 cap0 zs0 a1 len1 cap1 zs1, cs = #[.slice a0 len0 cap0, .slice a1 len1 cap1] ∧ IsRow .i64 W a0 len0 cap0 zs0 ∧ IsRow .i64 W a1 len1 cap1 zs1 := by
  obtain ⟨fuel, hf⟩ := h
  rw [show Try.prog.cellsOf 36 = 2 by kernel_rfl] at hsz
  obtain ⟨c0, c1, rfl⟩ : ∃ c0 c1, cs = #[c0, c1] := by
    obtain ⟨l⟩ := cs
    match l, hsz with
    | [c0, c1], _ => exact ⟨c0, c1, rfl⟩
  obtain ⟨_, _, n', h0, h1⟩ := trod_struct_2w Try.underlying36 hf
  simp only [Value.cells, wcells_s, List.drop_zero, List.take_succ_cons, List.take_zero] at h0
  simp only [Value.cells, wcells_s, List.drop_zero, List.take_succ_cons, List.take_zero, List.drop_succ_cons] at h1
  obtain ⟨a0, l0, p0, z0, e0, w0⟩ := row_of1w h0
  subst e0
  obtain ⟨a1, l1, p1, z1, e1, w1⟩ := row_of1w h1
  subst e1
  exact ⟨a0, l0, p0, z0, a1, l1, p1, z1, rfl, w0, w1⟩
end Go.Proofs.Ytbbcemgcanclnaa
