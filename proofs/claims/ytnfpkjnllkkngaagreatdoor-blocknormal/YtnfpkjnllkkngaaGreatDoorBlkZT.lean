import Derived.Test.YtnfpkjnllkkngaaGreatDoorRiceC1
import Derived.Test.YtnfpkjnllkkngaaGreatDoorSlideC7
import Derived.Test.YtnfpkjnllkkngaaGreatDoorBlkC1
import Derived.Test.YtnfpkjnllkkngaaGreatDoorFxLatC1
import Derived.Test.YtnfpkjnllkkngaaGreatDoorGxLagC2
import Derived.Test.YtnfpkjnllkkngaaGreatDoorSlideC4
import Derived.Test.YtnfpkjnllkkngaaGreatDoorRef3b
import Derived.Test.YtnfpkjnllkkngaaGreatDoorRows
import Derived.Test.YtnfpkjnllkkngaaGreatDoorTie
import Derived.ProofKit
import Derived.LaidMore
import Derived.OpenShut
import Derived.ChangeOld
import Derived.Below
import Derived.Stop.Joined

section
namespace Go.Proofs.YtnfpkjnllkkngaaGreatDoor
open Go.RowKit Go.Proofs Go.Proofs.PipeM Go.Proofs.PipeA Go.Proofs.BlkM
open Go.Proofs.LatM (goodL)
open Go.Proofs.LagM (goodT)
set_option maxRecDepth 100000

theorem two_zero {value n : Int} {shift lag gain part : Int} {index rice data : List Int} (h : wrongData ⟨2, value, shift, index, lag, gain, part, rice, data⟩ n = false) : value = 0 ∧ (data.length : Int) = n := by
  unfold wrongData at h
  simp at h
  exact h

end Go.Proofs.YtnfpkjnllkkngaaGreatDoor
end

section
namespace Go.Proofs.YtnfpkjnllkkngaaGreatDoor
open Go.RowKit Go.Proofs Go.Proofs.PipeM Go.Proofs.PipeA Go.Proofs.BlkM Go.Proofs.BlkB
open Go.Proofs.LatM (goodL)
open Go.Proofs.LagM (goodT)
set_option maxRecDepth 100000

/-- Its numbers are numbers of 64 bits. -/
structure Wf9 (b : Blk) : Prop where
  v : In64 b.value
  s : In64 b.shift
  l : In64 b.lag
  g : In64 b.gain
  p : In64 b.part
theorem or5 {a b c d e : Int} (ha : In64 a) (hb : In64 b) (hc : In64 c) (hd : In64 d) (he : In64 e) : orI (orI (orI (orI a b) c) d) e = 0 ↔ a = 0 ∧ b = 0 ∧ c = 0 ∧ d = 0 ∧ e = 0 := by
  rw [or_zero (or_in _ _) he, or_zero (or_in _ _) hd, or_zero (or_in _ _) hc, or_zero ha hb]
  constructor
  · rintro ⟨⟨⟨⟨h1, h2⟩, h3⟩, h4⟩, h5⟩; exact ⟨h1, h2, h3, h4, h5⟩
  · rintro ⟨h1, h2, h3, h4, h5⟩; exact ⟨⟨⟨⟨h1, h2⟩, h3⟩, h4⟩, h5⟩
theorem in64_zero : In64 0 := ⟨by decide, by decide⟩
/-- Is there what a block of its Kind hasn't? -/
def moreN (v s a g p : Int) (n : Nat) : Bool := (orI (orI (orI (orI v s) a) g) p != 0) || decide (0 < n)
def moreB (b : Blk) : Bool :=
  if b.kind = 1 then moreN 0 b.shift b.lag b.gain b.part (b.index.length + b.rice.length + b.data.length)
  else if b.kind = 2 then decide (b.value ≠ 0)
  else if b.kind = 3 then moreN b.value b.shift b.lag b.gain b.part (b.index.length + b.rice.length)
  else moreN b.value b.shift b.lag b.gain b.part (b.index.length + b.rice.length + b.data.length)

set_option maxHeartbeats 1600000 in
theorem cHasMore (b : Blk) (ia ra da : Option Addr) (ic rc dc : Nat) (w : World) (hw : Wf9 b) (hil : b.index.length ≤ 1000000) (hrl : b.rice.length ≤ 1000000) (hdl : b.data.length ≤ 1000000) (hk : b.kind = 0 ∨ b.kind = 1 ∨ b.kind = 2 ∨ b.kind = 3) :
    Calls Tryz.prog 56 #[blkV b ia ra da ic rc dc] w fun e w' => e = .returned (.bool (moreB b)) ∧ Below w.heap.size w w' := by
  have hz := hw.v
  obtain ⟨kind, value, shift, index, lag, gain, part, rice, data⟩ := b
  have HB : Hid (∀ o, Below w.heap.size w (w.alloc o)) := fun o => box_below w o
  unfold blkV
  unfold moreB moreN
  clear hw
  dsimp only at *
  generalize index.length = il at *
  generalize rice.length = rl at *
  generalize data.length = dl at *
  rcases hk with rfl | rfl | rfl | rfl
  · rw [if_neg (by decide), if_neg (by decide), if_neg (by decide)]
    obtain ⟨x1, hx1⟩ : ∃ x, bits BinOp.or IntKind.i64 value shift = x := ⟨_, rfl⟩
    obtain ⟨x2, hx2⟩ : ∃ x, bits BinOp.or IntKind.i64 x1 lag = x := ⟨_, rfl⟩
    obtain ⟨x3, hx3⟩ : ∃ x, bits BinOp.or IntKind.i64 x2 gain = x := ⟨_, rfl⟩
    obtain ⟨x4, hx4⟩ : ∃ x, bits BinOp.or IntKind.i64 x3 part = x := ⟨_, rfl⟩
    unfold orI
    rw [hx1, hx2, hx3, hx4]
    have HT : Hid (decide (0 < wrap64 (wrap64 ((il : Int) + (rl : Int)) + (dl : Int))) = decide (0 < il + rl + dl)) := by
      show _ = _
      rw [show wrap64 ((il : Int) + (rl : Int)) = (il : Int) + (rl : Int) from IntWalk.wrap64_in _ (by omega), IntWalk.wrap64_in _ (by omega)]
      exact decide_eq_decide.2 (by omega)
    clear hil hrl hdl
    cases t1 : (x4 != 0) with
    | true =>
      go_enter Tryz.func56, Tryz.ntmps56
      go_wp2
      go_ret
      exact ⟨rfl, HB.out _⟩
    | false =>
      go_enter Tryz.func56, Tryz.ntmps56
      go_wp2
      go_ret
      exact ⟨congrArg (fun x => Ending.returned (Value.bool x)) HT.out, HB.out _⟩
  · rw [if_pos rfl]
    obtain ⟨x1, hx1⟩ : ∃ x, bits BinOp.or IntKind.i64 0 shift = x := ⟨_, rfl⟩
    obtain ⟨x2, hx2⟩ : ∃ x, bits BinOp.or IntKind.i64 x1 lag = x := ⟨_, rfl⟩
    obtain ⟨x3, hx3⟩ : ∃ x, bits BinOp.or IntKind.i64 x2 gain = x := ⟨_, rfl⟩
    obtain ⟨x4, hx4⟩ : ∃ x, bits BinOp.or IntKind.i64 x3 part = x := ⟨_, rfl⟩
    unfold orI
    rw [hx1, hx2, hx3, hx4]
    have HT : Hid (decide (0 < wrap64 (wrap64 ((il : Int) + (rl : Int)) + (dl : Int))) = decide (0 < il + rl + dl)) := by
      show _ = _
      rw [show wrap64 ((il : Int) + (rl : Int)) = (il : Int) + (rl : Int) from IntWalk.wrap64_in _ (by omega), IntWalk.wrap64_in _ (by omega)]
      exact decide_eq_decide.2 (by omega)
    clear hil hrl hdl
    cases t1 : (x4 != 0) with
    | true =>
      go_enter Tryz.func56, Tryz.ntmps56
      go_wp2
      go_ret
      exact ⟨rfl, HB.out _⟩
    | false =>
      go_enter Tryz.func56, Tryz.ntmps56
      go_wp2
      go_ret
      exact ⟨congrArg (fun x => Ending.returned (Value.bool x)) HT.out, HB.out _⟩
  · rw [if_neg (by decide), if_pos rfl]
    have hx1 : bits BinOp.or IntKind.i64 value 0 = value := or_nought hz
    clear hil hrl hdl hz
    by_cases h0 : value = 0
    · have HT : Hid (decide (value ≠ 0) = false) := decide_eq_false (by omega)
      have t1 : (value != 0) = false := bne_eq_false_iff_eq.2 h0
      rw [HT.out]
      clear h0
      go_enter Tryz.func56, Tryz.ntmps56
      go_wp2
      go_ret
      exact ⟨rfl, HB.out _⟩
    · have HT : Hid (decide (value ≠ 0) = true) := decide_eq_true h0
      have t1 : (value != 0) = true := bne_iff_ne.2 h0
      rw [HT.out]
      clear h0
      go_enter Tryz.func56, Tryz.ntmps56
      go_wp2
      go_ret
      exact ⟨rfl, HB.out _⟩
  · rw [if_neg (by decide), if_neg (by decide), if_pos rfl]
    obtain ⟨x1, hx1⟩ : ∃ x, bits BinOp.or IntKind.i64 value shift = x := ⟨_, rfl⟩
    obtain ⟨x2, hx2⟩ : ∃ x, bits BinOp.or IntKind.i64 x1 lag = x := ⟨_, rfl⟩
    obtain ⟨x3, hx3⟩ : ∃ x, bits BinOp.or IntKind.i64 x2 gain = x := ⟨_, rfl⟩
    obtain ⟨x4, hx4⟩ : ∃ x, bits BinOp.or IntKind.i64 x3 part = x := ⟨_, rfl⟩
    unfold orI
    rw [hx1, hx2, hx3, hx4]
    have HT : Hid (decide (0 < wrap64 (wrap64 ((il : Int) + (rl : Int)))) = decide (0 < il + rl)) := by
      show _ = _
      rw [show wrap64 ((il : Int) + (rl : Int)) = (il : Int) + (rl : Int) from IntWalk.wrap64_in _ (by omega), IntWalk.wrap64_in _ (by omega)]
      exact decide_eq_decide.2 (by omega)
    clear hil hrl hdl
    cases t1 : (x4 != 0) with
    | true =>
      go_enter Tryz.func56, Tryz.ntmps56
      go_wp2
      go_ret
      exact ⟨rfl, HB.out _⟩
    | false =>
      go_enter Tryz.func56, Tryz.ntmps56
      go_wp2
      go_ret
      exact ⟨congrArg (fun x => Ending.returned (Value.bool x)) HT.out, HB.out _⟩

/-- Is what a block's Kind has as it must be? -/
def formedB (b : Blk) (n : Nat) (d : Int) : Bool :=
  if b.kind = 2 then shiftB d b.shift && goodL b.index && goodT b.lag b.gain && decide (b.data.length = n) && decide (0 < slideLen b.data b.part b.rice)
  else if b.kind = 3 then decide (b.data.length = n)
  else true

set_option maxHeartbeats 800000 in
theorem cTermOf (b : Blk) (ia ra da : Option Addr) (ic rc dc : Nat) (w : World) :
    Calls Tryz.prog 63 #[blkV b ia ra da ic rc dc] w fun e w' => e = .returned (.agg #[.int .i64 b.lag, .int .i64 b.gain]) ∧ Below w.heap.size w w' := by
  have HB := fun o1 o2 => Lib.hid (below2 w o1 o2)
  obtain ⟨kind, value, shift, index, lag, gain, part, rice, data⟩ := b
  unfold blkV
  dsimp only
  generalize index.length = il
  generalize rice.length = rl
  generalize data.length = dl
  go_enter Tryz.func63, Tryz.ntmps63
  go_wp2
  refine bodyPost_ret (v := .agg #[.int .i64 lag, .int .i64 gain]) (by simp [results, Tryz.results63, go_sem]) rfl ?_
  exact ⟨rfl, (HB _ _).out⟩
set_option maxHeartbeats 800000 in
theorem cPartsOf (b : Blk) (ia ra da : Option Addr) (ic rc dc : Nat) (w : World) :
    Calls Tryz.prog 65 #[blkV b ia ra da ic rc dc] w fun e w' => e = .returned (.agg #[.int .i64 b.part, .slice ra b.rice.length rc]) ∧ Below w.heap.size w w' := by
  have HB := fun o1 o2 => Lib.hid (below2 w o1 o2)
  obtain ⟨kind, value, shift, index, lag, gain, part, rice, data⟩ := b
  unfold blkV
  dsimp only
  generalize index.length = il
  generalize rice.length = rl
  generalize data.length = dl
  go_enter Tryz.func65, Tryz.ntmps65
  go_wp2
  refine bodyPost_ret (v := .agg #[.int .i64 part, .slice ra rl rc]) (by simp [results, Tryz.results65, go_sem]) rfl ?_
  exact ⟨rfl, (HB _ _).out⟩
end Go.Proofs.YtnfpkjnllkkngaaGreatDoor
end

section
namespace Go.Proofs.YtnfpkjnllkkngaaGreatDoor
open Go.ChangeShapes Go.WideShapes Go.ChangeAt Go.RowKit Go.Proofs.PipeM Go.Proofs.BlkM Go.Proofs.BlkB
set_option maxRecDepth 100000

theorem trod_struct_5 {H : Type} {enc : TypeId × Value → H} {P : Program} {w : World} {base : Nat} {spare : Nat → Bool} {held : Bool} {t : TypeId} {f0 f1 f2 f3 f4 : Field} {fuel : Nat} {cs : List Value} {x : DataW H × List MemPlace} (ht : P.underlying t = some (.struct #[f0, f1, f2, f3, f4])) (h : DataW.trod enc P w base spare held fuel t cs = some x) :
    ∃ y0 y1 y2 y3 y4 n, DataW.trod enc P w base spare held n f0.type ((cs.drop f0.offset).take (P.cellsOf f0.type)) = some y0 ∧ DataW.trod enc P w base spare held n f1.type ((cs.drop f1.offset).take (P.cellsOf f1.type)) = some y1 ∧ DataW.trod enc P w base spare held n f2.type ((cs.drop f2.offset).take (P.cellsOf f2.type)) = some y2 ∧ DataW.trod enc P w base spare held n f3.type ((cs.drop f3.offset).take (P.cellsOf f3.type)) = some y3 ∧ DataW.trod enc P w base spare held n f4.type ((cs.drop f4.offset).take (P.cellsOf f4.type)) = some y4 := by
  obtain ⟨xs, n, _, rfl, hl, hlen, hf⟩ := DataW.trod_struct ht h
  match xs, hlen with
  | [y0, y1, y2, y3, y4], _ => exact ⟨y0, y1, y2, y3, y4, n, by simpa using hf 0 f0 rfl, by simpa using hf 1 f1 rfl, by simpa using hf 2 f2 rfl, by simpa using hf 3 f3 rfl, by simpa using hf 4 f4 rfl⟩
/-- A row in a cell of a struct. -/
theorem row_of1 {H : Type} {enc : TypeId × Value → H} {W : World} {base fuel : Nat} {held : Bool} {c : Value} {y : DataW H × List MemPlace} (h : DataW.trod enc Tryz.prog W base (fun _ => true) held fuel 22 [c] = some y) :
    ∃ a len cap zs, c = .slice a len cap ∧ IsRow .i64 W a len cap zs := by
  rcases open_ints Tryz.underlying22 Tryz.underlying3 (by kernel_rfl) h with ⟨hcs, _⟩ | ⟨x, l, c', zs, hcs, _, hl, hm, hz, _, hcell, hwz⟩
  · simp only [List.cons.injEq, and_true] at hcs
    exact ⟨none, 0, 0, [], hcs, .inl ⟨rfl, rfl, rfl, rfl⟩⟩
  · simp only [List.cons.injEq, and_true] at hcs
    exact ⟨some x, l, c', zs, hcs, .inr ⟨_, rfl, hl, hm, by simpa using hz, hcell, hwz⟩⟩
/-- How samples are told, that came in. -/
theorem how_of {H : Type} {enc : TypeId × Value → H} {W : World} {base : Nat} {held : Bool} {cs : Array Value} {d : DataW H} {ps : List MemPlace} (hsz : cs.size = Tryz.prog.cellsOf 24)
    (h : DataW.Trod enc Tryz.prog W base (fun _ => true) held 24 (.agg cs) d ps) :
    ∃ i0 i1 i2 i3 a4 len4 cap4 zs4, cs = #[.int .i64 i0, .int .i64 i1, .int .i64 i2, .int .i64 i3, .slice a4 len4 cap4] ∧ (Lit.int .i64 i0).wf = true ∧ (Lit.int .i64 i1).wf = true ∧ (Lit.int .i64 i2).wf = true ∧ (Lit.int .i64 i3).wf = true ∧ IsRow .i64 W a4 len4 cap4 zs4 := by
  obtain ⟨fuel, hf⟩ := h
  rw [show Tryz.prog.cellsOf 24 = 5 by kernel_rfl] at hsz
  obtain ⟨c0, c1, c2, c3, c4, rfl⟩ : ∃ c0 c1 c2 c3 c4, cs = #[c0, c1, c2, c3, c4] := by
    obtain ⟨l⟩ := cs
    match l, hsz with
    | [c0, c1, c2, c3, c4], _ => exact ⟨c0, c1, c2, c3, c4, rfl⟩
  obtain ⟨_, _, _, _, _, n', h0, h1, h2, h3, h4⟩ := trod_struct_5 Tryz.underlying24 hf
  simp only [Value.cells, cells_i, List.drop_zero, List.take_succ_cons, List.take_zero] at h0
  simp only [Value.cells, cells_i, List.drop_zero, List.take_succ_cons, List.take_zero, List.drop_succ_cons] at h1
  simp only [Value.cells, cells_i, List.drop_zero, List.take_succ_cons, List.take_zero, List.drop_succ_cons] at h2
  simp only [Value.cells, cells_i, List.drop_zero, List.take_succ_cons, List.take_zero, List.drop_succ_cons] at h3
  simp only [Value.cells, cells_s, List.drop_zero, List.take_succ_cons, List.take_zero, List.drop_succ_cons] at h4
  obtain ⟨k0, e0, _, w0⟩ := DataW.trod_int Tryz.underlying3 h0
  simp only [List.cons.injEq, and_true] at e0
  subst e0
  obtain ⟨k1, e1, _, w1⟩ := DataW.trod_int Tryz.underlying3 h1
  simp only [List.cons.injEq, and_true] at e1
  subst e1
  obtain ⟨k2, e2, _, w2⟩ := DataW.trod_int Tryz.underlying3 h2
  simp only [List.cons.injEq, and_true] at e2
  subst e2
  obtain ⟨k3, e3, _, w3⟩ := DataW.trod_int Tryz.underlying3 h3
  simp only [List.cons.injEq, and_true] at e3
  subst e3
  obtain ⟨a4, len4, cap4, zs4, e4, w4⟩ := row_of1 h4
  subst e4
  exact ⟨k0, k1, k2, k3, a4, len4, cap4, zs4, rfl, w0, w1, w2, w3, w4⟩

end Go.Proofs.YtnfpkjnllkkngaaGreatDoor
end

section
namespace Go.Proofs.YtnfpkjnllkkngaaGreatDoor
open Go.ChangeShapes Go.WideShapes Go.ChangeAt Go.RowKit Go.Proofs.BlkM Go.Proofs.BlkB
set_option maxRecDepth 100000

theorem gZ : Tryz.prog.globalNamed "math/bits.deBruijn64tab" = some 0 := by kernel_rfl
theorem tZ : (Tryz.prog.globals[0]?).map (·.type) = some 93 := by kernel_rfl
theorem undArrZ : Tryz.prog.underlying 93 = some (.array 64 5) := by kernel_rfl
theorem undU8Z : Tryz.prog.underlying 5 = some (.int .u8) := by kernel_rfl

theorem of_laid {W : World} (h : laidMetH Tryz.prog [("math/bits.deBruijn64tab", Rows.laid_math_bits_deBruijn64tab)] W) : TabZ W := by
  rw [MakeChecks.laidMetH_plain _ _ _ (by kernel_rfl)] at h
  obtain ⟨ps, ⟨g0, t0, cs0, f0, p0, q0, hg0, ht0, hv0, hd0, _⟩, _, _⟩ := h
  obtain rfl := Option.some.inj (gZ.symm.trans hg0)
  obtain rfl := Option.some.inj (tZ.symm.trans ht0)
  obtain ⟨xs, m1, rfl, hx1, hlen, hn3, hel⟩ := DataW.trod_array undArrZ hd0
  have c25 : Tryz.prog.cellsOf 5 = 1 := by kernel_rfl
  have hL : (Rows.laid_math_bits_deBruijn64tab : DataW Unit) = .agg (Lib.deBruijn64tab.map fun t => .lit (.int .u8 ((t : Nat) : Int))) := rfl
  simp only [Prod.mk.injEq, hL, DataW.agg.injEq] at hx1
  have hcell : ∀ k, k < 64 → W.cell? ⟨0, k, none⟩ = some (.int .u8 ((Lib.deBruijn64tab.getD k 0 : Nat) : Int)) := by
    intro k hk
    have hk2 : k < xs.length := by omega
    have hk3 : k < Lib.deBruijn64tab.length := hk
    have he := hel k hk
    rw [List.getElem?_eq_getElem hk2, c25, Nat.mul_one] at he
    obtain ⟨v, e1, e2, _⟩ := DataW.trod_int undU8Z he
    have h1 : (xs.map fun x => x.fst)[k]? = some (.lit (.int .u8 ((Lib.deBruijn64tab.getD k 0 : Nat) : Int))) := by
      rw [← hx1.1, List.getElem?_map, List.getElem?_eq_getElem hk3]
      simp [List.getD, hk3]
    rw [List.getElem?_map, List.getElem?_eq_getElem hk2, e2] at h1
    simp only [Option.map_some, Option.some.injEq, DataW.lit.injEq, Lit.int.injEq, true_and] at h1
    have h2 : cs0[k]? = some (.int .u8 v) := by
      have h3 := congrArg (·[0]?) e1
      simp only [List.getElem?_take, List.getElem?_drop] at h3
      simpa using h3
    have := World.var?_cell hg0 hv0 k
    rw [this, h2, h1]
  exact ⟨World.block_lt_of_cell? _ _ (hcell 0 (by decide)), hcell⟩

/-- The heap that the program's own start-up code leaves meets the condition. -/
theorem door_met (os : Os) (args : Array Value) : laidMetH Tryz.prog [("math/bits.deBruijn64tab", Rows.laid_math_bits_deBruijn64tab)] ((World.doorLaid Tryz.prog 400 os).forCall (fun _ _ => 0) ⟨#[], args, []⟩).memory :=
  laidMetH_of_parts3 (fuel := 8) (laidMet_of_run' 8 (by kernel_rfl) (by kernel_rfl)) (by kernel_rfl) (by kernel_rfl)
end Go.Proofs.YtnfpkjnllkkngaaGreatDoor
end
