import Derived.Test.YtefbakhhlonafaaGreatArgsS
import Derived.Test.YtefbakhhlonafaaGreatBlkC2

namespace Go.Proofs.YtefbakhhlonafaaGreat
open Go.ChangeShapes Go.WideShapes Go.ChangeAt Go.RowKit Go.Proofs.PipeM Go.Proofs.BlkM Go.Proofs.BlkB
set_option maxRecDepth 100000

theorem trod_struct_9 {H : Type} {enc : TypeId × Value → H} {P : Program} {w : World} {base : Nat} {spare : Nat → Bool} {held : Bool} {t : TypeId} {f0 f1 f2 f3 f4 f5 f6 f7 f8 : Field} {fuel : Nat} {cs : List Value} {x : DataW H × List MemPlace} (ht : P.underlying t = some (.struct #[f0, f1, f2, f3, f4, f5, f6, f7, f8])) (h : DataW.trod enc P w base spare held fuel t cs = some x) :
    ∃ y0 y1 y2 y3 y4 y5 y6 y7 y8 n, DataW.trod enc P w base spare held n f0.type ((cs.drop f0.offset).take (P.cellsOf f0.type)) = some y0 ∧ DataW.trod enc P w base spare held n f1.type ((cs.drop f1.offset).take (P.cellsOf f1.type)) = some y1 ∧ DataW.trod enc P w base spare held n f2.type ((cs.drop f2.offset).take (P.cellsOf f2.type)) = some y2 ∧ DataW.trod enc P w base spare held n f3.type ((cs.drop f3.offset).take (P.cellsOf f3.type)) = some y3 ∧ DataW.trod enc P w base spare held n f4.type ((cs.drop f4.offset).take (P.cellsOf f4.type)) = some y4 ∧ DataW.trod enc P w base spare held n f5.type ((cs.drop f5.offset).take (P.cellsOf f5.type)) = some y5 ∧ DataW.trod enc P w base spare held n f6.type ((cs.drop f6.offset).take (P.cellsOf f6.type)) = some y6 ∧ DataW.trod enc P w base spare held n f7.type ((cs.drop f7.offset).take (P.cellsOf f7.type)) = some y7 ∧ DataW.trod enc P w base spare held n f8.type ((cs.drop f8.offset).take (P.cellsOf f8.type)) = some y8 := by
  obtain ⟨xs, n, _, rfl, hl, hlen, hf⟩ := DataW.trod_struct ht h
  match xs, hlen with
  | [y0, y1, y2, y3, y4, y5, y6, y7, y8], _ => exact ⟨y0, y1, y2, y3, y4, y5, y6, y7, y8, n, by simpa using hf 0 f0 rfl, by simpa using hf 1 f1 rfl, by simpa using hf 2 f2 rfl, by simpa using hf 3 f3 rfl, by simpa using hf 4 f4 rfl, by simpa using hf 5 f5 rfl, by simpa using hf 6 f6 rfl, by simpa using hf 7 f7 rfl, by simpa using hf 8 f8 rfl⟩
/-- A row in a cell of a struct. -/
theorem row_of1 {H : Type} {enc : TypeId × Value → H} {W : World} {base fuel : Nat} {held : Bool} {c : Value} {y : DataW H × List MemPlace} (h : DataW.trod enc Tryz.prog W base (fun _ => true) held fuel 22 [c] = some y) :
    ∃ a len cap zs, c = .slice a len cap ∧ IsRow .i64 W a len cap zs := by
  rcases open_ints Tryz.underlying22 Tryz.underlying3 (by kernel_rfl) h with ⟨hcs, _⟩ | ⟨x, l, c', zs, hcs, _, hl, hm, hz, _, hcell, hwz⟩
  · simp only [List.cons.injEq, and_true] at hcs
    exact ⟨none, 0, 0, [], hcs, .inl ⟨rfl, rfl, rfl, rfl⟩⟩
  · simp only [List.cons.injEq, and_true] at hcs
    exact ⟨some x, l, c', zs, hcs, .inr ⟨_, rfl, hl, hm, by simpa using hz, hcell, hwz⟩⟩
theorem i64_in_b {n : Int} (h : (Lit.int .i64 n).wf = true) : In64 n := by
  have : -9223372036854775808 ≤ n ∧ n ≤ 9223372036854775807 := by simpa [Lit.wf, IntKind.min, IntKind.max, IntKind.signed, IntKind.bits] using h
  exact this

/-- A block that came in. -/
theorem block_of {H : Type} {enc : TypeId × Value → H} {W : World} {base : Nat} {held : Bool} {cs : Array Value} {d : DataW H} {ps : List MemPlace} (hsz : cs.size = Tryz.prog.cellsOf 24)
    (h : DataW.Trod enc Tryz.prog W base (fun _ => true) held 24 (.agg cs) d ps) :
    ∃ i0 i1 i2 a3 len3 cap3 zs3 i4 i5 i6 a7 len7 cap7 zs7 a8 len8 cap8 zs8, cs = #[.int .i64 i0, .int .i64 i1, .int .i64 i2, .slice a3 len3 cap3, .int .i64 i4, .int .i64 i5, .int .i64 i6, .slice a7 len7 cap7, .slice a8 len8 cap8] ∧ (Lit.int .i64 i0).wf = true ∧ (Lit.int .i64 i1).wf = true ∧ (Lit.int .i64 i2).wf = true ∧ IsRow .i64 W a3 len3 cap3 zs3 ∧ (Lit.int .i64 i4).wf = true ∧ (Lit.int .i64 i5).wf = true ∧ (Lit.int .i64 i6).wf = true ∧ IsRow .i64 W a7 len7 cap7 zs7 ∧ IsRow .i64 W a8 len8 cap8 zs8 := by
  obtain ⟨fuel, hf⟩ := h
  rw [show Tryz.prog.cellsOf 24 = 9 by kernel_rfl] at hsz
  obtain ⟨c0, c1, c2, c3, c4, c5, c6, c7, c8, rfl⟩ : ∃ c0 c1 c2 c3 c4 c5 c6 c7 c8, cs = #[c0, c1, c2, c3, c4, c5, c6, c7, c8] := by
    obtain ⟨l⟩ := cs
    match l, hsz with
    | [c0, c1, c2, c3, c4, c5, c6, c7, c8], _ => exact ⟨c0, c1, c2, c3, c4, c5, c6, c7, c8, rfl⟩
  obtain ⟨_, _, _, _, _, _, _, _, _, n', h0, h1, h2, h3, h4, h5, h6, h7, h8⟩ := trod_struct_9 Tryz.underlying24 hf
  simp only [Value.cells, cells_i, List.drop_zero, List.take_succ_cons, List.take_zero] at h0
  simp only [Value.cells, cells_i, List.drop_zero, List.take_succ_cons, List.take_zero, List.drop_succ_cons] at h1
  simp only [Value.cells, cells_i, List.drop_zero, List.take_succ_cons, List.take_zero, List.drop_succ_cons] at h2
  simp only [Value.cells, cells_s, List.drop_zero, List.take_succ_cons, List.take_zero, List.drop_succ_cons] at h3
  simp only [Value.cells, cells_i, List.drop_zero, List.take_succ_cons, List.take_zero, List.drop_succ_cons] at h4
  simp only [Value.cells, cells_i, List.drop_zero, List.take_succ_cons, List.take_zero, List.drop_succ_cons] at h5
  simp only [Value.cells, cells_i, List.drop_zero, List.take_succ_cons, List.take_zero, List.drop_succ_cons] at h6
  simp only [Value.cells, cells_s, List.drop_zero, List.take_succ_cons, List.take_zero, List.drop_succ_cons] at h7
  simp only [Value.cells, cells_s, List.drop_zero, List.take_succ_cons, List.take_zero, List.drop_succ_cons] at h8
  obtain ⟨k0, e0, _, w0⟩ := DataW.trod_int Tryz.underlying3 h0
  simp only [List.cons.injEq, and_true] at e0
  subst e0
  obtain ⟨k1, e1, _, w1⟩ := DataW.trod_int Tryz.underlying3 h1
  simp only [List.cons.injEq, and_true] at e1
  subst e1
  obtain ⟨k2, e2, _, w2⟩ := DataW.trod_int Tryz.underlying3 h2
  simp only [List.cons.injEq, and_true] at e2
  subst e2
  obtain ⟨a3, len3, cap3, zs3, e3, w3⟩ := row_of1 h3
  subst e3
  obtain ⟨k4, e4, _, w4⟩ := DataW.trod_int Tryz.underlying3 h4
  simp only [List.cons.injEq, and_true] at e4
  subst e4
  obtain ⟨k5, e5, _, w5⟩ := DataW.trod_int Tryz.underlying3 h5
  simp only [List.cons.injEq, and_true] at e5
  subst e5
  obtain ⟨k6, e6, _, w6⟩ := DataW.trod_int Tryz.underlying3 h6
  simp only [List.cons.injEq, and_true] at e6
  subst e6
  obtain ⟨a7, len7, cap7, zs7, e7, w7⟩ := row_of1 h7
  subst e7
  obtain ⟨a8, len8, cap8, zs8, e8, w8⟩ := row_of1 h8
  subst e8
  exact ⟨k0, k1, k2, a3, len3, cap3, zs3, k4, k5, k6, a7, len7, cap7, zs7, a8, len8, cap8, zs8, rfl, w0, w1, w2, w3, w4, w5, w6, w7, w8⟩

/-- A block that came in, by its lists. -/
theorem blk_in {W : World} {kind value shift lag gain part : Int} {ia ra da : Option Addr} {il ic rl rc dl dc : Nat} {zi zr zd : List Int} (hi : IsRow .i64 W ia il ic zi) (hr : IsRow .i64 W ra rl rc zr) (hd : IsRow .i64 W da dl dc zd) (h1 : il ≤ 1000000) (h2 : rl ≤ 1000000) (h3 : dl ≤ 1000000) :
    ∃ index rice data : List Int, il = index.length ∧ rl = rice.length ∧ dl = data.length ∧ BlkIn W ⟨kind, value, shift, index, lag, gain, part, rice, data⟩ ia ra da ic rc dc := by
  have ci := row_cap hi
  have cr := row_cap hr
  have cd := row_cap hd
  obtain ⟨index, rfl, _, xi⟩ := ints_of_row hi
  obtain ⟨rice, rfl, _, xr⟩ := ints_of_row hr
  obtain ⟨data, rfl, _, xd⟩ := ints_of_row hd
  exact ⟨index, rice, data, rfl, rfl, rfl, ⟨xi, xr, xd, h1, h2, h3, ci, cr, cd⟩⟩
end Go.Proofs.YtefbakhhlonafaaGreat
