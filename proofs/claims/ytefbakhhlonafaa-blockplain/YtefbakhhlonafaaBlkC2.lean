import Derived.Test.YtefbakhhlonafaaBlkC1
import Derived.Test.YtefbakhhlonafaaBlkF3
import Derived.Test.YtefbakhhlonafaaGxInts
import Derived.Test.YtefbakhhlonafaaGxLagC2
import Derived.Test.YtefbakhhlonafaaSlideC4

namespace Go.Proofs.Ytefbakhhlonafaa
open Go.RowKit Go.Proofs Go.Proofs.PipeM Go.Proofs.PipeA Go.Proofs.BlkM Go.Proofs.BlkB
open Go.Proofs.LatM (goodL)
open Go.Proofs.LagM (goodT)
set_option maxRecDepth 100000

/-- Its numbers are numbers of 64 bits. -/
structure Wf9 (b : Blk) : Prop where
  v : In64 b.value
  s : In64 b.shift
  l : In64 b.lag
  g : In64 b.gain
  p : In64 b.part
theorem or5 {a b c d e : Int} (ha : In64 a) (hb : In64 b) (hc : In64 c) (hd : In64 d) (he : In64 e) : orI (orI (orI (orI a b) c) d) e = 0 ↔ a = 0 ∧ b = 0 ∧ c = 0 ∧ d = 0 ∧ e = 0 := by
  rw [or_zero (or_in _ _) he, or_zero (or_in _ _) hd, or_zero (or_in _ _) hc, or_zero ha hb]
  constructor
  · rintro ⟨⟨⟨⟨h1, h2⟩, h3⟩, h4⟩, h5⟩; exact ⟨h1, h2, h3, h4, h5⟩
  · rintro ⟨h1, h2, h3, h4, h5⟩; exact ⟨⟨⟨⟨h1, h2⟩, h3⟩, h4⟩, h5⟩
theorem in64_zero : In64 0 := ⟨by decide, by decide⟩
/-- Is there what a block of its Kind hasn't? -/
def moreN (v s a g p : Int) (n : Nat) : Bool := (orI (orI (orI (orI v s) a) g) p != 0) || decide (0 < n)
def moreB (b : Blk) : Bool :=
  if b.kind = 1 then moreN 0 b.shift b.lag b.gain b.part (b.index.length + b.rice.length + b.data.length)
  else if b.kind = 2 then decide (b.value ≠ 0)
  else if b.kind = 3 then moreN b.value b.shift b.lag b.gain b.part (b.index.length + b.rice.length)
  else moreN b.value b.shift b.lag b.gain b.part (b.index.length + b.rice.length + b.data.length)

set_option maxHeartbeats 1600000 in
theorem cHasMore (b : Blk) (ia ra da : Option Addr) (ic rc dc : Nat) (w : World) (hw : Wf9 b) (hil : b.index.length ≤ 1000000) (hrl : b.rice.length ≤ 1000000) (hdl : b.data.length ≤ 1000000) (hk : b.kind = 0 ∨ b.kind = 1 ∨ b.kind = 2 ∨ b.kind = 3) :
    Calls Try.prog 40 #[blkV b ia ra da ic rc dc] w fun e w' => e = .returned (.bool (moreB b)) ∧ Below w.heap.size w w' := by
  have hz := hw.v
  obtain ⟨kind, value, shift, index, lag, gain, part, rice, data⟩ := b
  have HB : Hid (∀ o, Below w.heap.size w (w.alloc o)) := fun o => box_below w o
  unfold blkV
  unfold moreB moreN
  clear hw
  dsimp only at *
  generalize index.length = il at *
  generalize rice.length = rl at *
  generalize data.length = dl at *
  rcases hk with rfl | rfl | rfl | rfl
  · rw [if_neg (by decide), if_neg (by decide), if_neg (by decide)]
    obtain ⟨x1, hx1⟩ : ∃ x, bits BinOp.or IntKind.i64 value shift = x := ⟨_, rfl⟩
    obtain ⟨x2, hx2⟩ : ∃ x, bits BinOp.or IntKind.i64 x1 lag = x := ⟨_, rfl⟩
    obtain ⟨x3, hx3⟩ : ∃ x, bits BinOp.or IntKind.i64 x2 gain = x := ⟨_, rfl⟩
    obtain ⟨x4, hx4⟩ : ∃ x, bits BinOp.or IntKind.i64 x3 part = x := ⟨_, rfl⟩
    unfold orI
    rw [hx1, hx2, hx3, hx4]
    have HT : Hid (decide (0 < wrap64 (wrap64 ((il : Int) + (rl : Int)) + (dl : Int))) = decide (0 < il + rl + dl)) := by
      show _ = _
      rw [show wrap64 ((il : Int) + (rl : Int)) = (il : Int) + (rl : Int) from IntWalk.wrap64_in _ (by omega), IntWalk.wrap64_in _ (by omega)]
      exact decide_eq_decide.2 (by omega)
    clear hil hrl hdl
    cases t1 : (x4 != 0) with
    | true =>
      go_enter Try.func40, Try.ntmps40
      go_wp2
      go_ret
      exact ⟨rfl, HB.out _⟩
    | false =>
      go_enter Try.func40, Try.ntmps40
      go_wp2
      go_ret
      exact ⟨congrArg (fun x => Ending.returned (Value.bool x)) HT.out, HB.out _⟩
  · rw [if_pos rfl]
    obtain ⟨x1, hx1⟩ : ∃ x, bits BinOp.or IntKind.i64 0 shift = x := ⟨_, rfl⟩
    obtain ⟨x2, hx2⟩ : ∃ x, bits BinOp.or IntKind.i64 x1 lag = x := ⟨_, rfl⟩
    obtain ⟨x3, hx3⟩ : ∃ x, bits BinOp.or IntKind.i64 x2 gain = x := ⟨_, rfl⟩
    obtain ⟨x4, hx4⟩ : ∃ x, bits BinOp.or IntKind.i64 x3 part = x := ⟨_, rfl⟩
    unfold orI
    rw [hx1, hx2, hx3, hx4]
    have HT : Hid (decide (0 < wrap64 (wrap64 ((il : Int) + (rl : Int)) + (dl : Int))) = decide (0 < il + rl + dl)) := by
      show _ = _
      rw [show wrap64 ((il : Int) + (rl : Int)) = (il : Int) + (rl : Int) from IntWalk.wrap64_in _ (by omega), IntWalk.wrap64_in _ (by omega)]
      exact decide_eq_decide.2 (by omega)
    clear hil hrl hdl
    cases t1 : (x4 != 0) with
    | true =>
      go_enter Try.func40, Try.ntmps40
      go_wp2
      go_ret
      exact ⟨rfl, HB.out _⟩
    | false =>
      go_enter Try.func40, Try.ntmps40
      go_wp2
      go_ret
      exact ⟨congrArg (fun x => Ending.returned (Value.bool x)) HT.out, HB.out _⟩
  · rw [if_neg (by decide), if_pos rfl]
    have hx1 : bits BinOp.or IntKind.i64 value 0 = value := or_nought hz
    clear hil hrl hdl hz
    by_cases h0 : value = 0
    · have HT : Hid (decide (value ≠ 0) = false) := decide_eq_false (by omega)
      have t1 : (value != 0) = false := bne_eq_false_iff_eq.2 h0
      rw [HT.out]
      clear h0
      go_enter Try.func40, Try.ntmps40
      go_wp2
      go_ret
      exact ⟨rfl, HB.out _⟩
    · have HT : Hid (decide (value ≠ 0) = true) := decide_eq_true h0
      have t1 : (value != 0) = true := bne_iff_ne.2 h0
      rw [HT.out]
      clear h0
      go_enter Try.func40, Try.ntmps40
      go_wp2
      go_ret
      exact ⟨rfl, HB.out _⟩
  · rw [if_neg (by decide), if_neg (by decide), if_pos rfl]
    obtain ⟨x1, hx1⟩ : ∃ x, bits BinOp.or IntKind.i64 value shift = x := ⟨_, rfl⟩
    obtain ⟨x2, hx2⟩ : ∃ x, bits BinOp.or IntKind.i64 x1 lag = x := ⟨_, rfl⟩
    obtain ⟨x3, hx3⟩ : ∃ x, bits BinOp.or IntKind.i64 x2 gain = x := ⟨_, rfl⟩
    obtain ⟨x4, hx4⟩ : ∃ x, bits BinOp.or IntKind.i64 x3 part = x := ⟨_, rfl⟩
    unfold orI
    rw [hx1, hx2, hx3, hx4]
    have HT : Hid (decide (0 < wrap64 (wrap64 ((il : Int) + (rl : Int)))) = decide (0 < il + rl)) := by
      show _ = _
      rw [show wrap64 ((il : Int) + (rl : Int)) = (il : Int) + (rl : Int) from IntWalk.wrap64_in _ (by omega), IntWalk.wrap64_in _ (by omega)]
      exact decide_eq_decide.2 (by omega)
    clear hil hrl hdl
    cases t1 : (x4 != 0) with
    | true =>
      go_enter Try.func40, Try.ntmps40
      go_wp2
      go_ret
      exact ⟨rfl, HB.out _⟩
    | false =>
      go_enter Try.func40, Try.ntmps40
      go_wp2
      go_ret
      exact ⟨congrArg (fun x => Ending.returned (Value.bool x)) HT.out, HB.out _⟩

/-- Is what a block's Kind has as it must be? -/
def formedB (b : Blk) (n : Nat) (d : Int) : Bool :=
  if b.kind = 2 then shiftB d b.shift && goodL b.index && goodT b.lag b.gain && decide (b.data.length = n) && decide (0 < slideLen b.data b.part b.rice)
  else if b.kind = 3 then decide (b.data.length = n)
  else true

set_option maxHeartbeats 800000 in
theorem cTermOf (b : Blk) (ia ra da : Option Addr) (ic rc dc : Nat) (w : World) :
    Calls Try.prog 59 #[blkV b ia ra da ic rc dc] w fun e w' => e = .returned (.agg #[.int .i64 b.lag, .int .i64 b.gain]) ∧ Below w.heap.size w w' := by
  have HB := fun o1 o2 => Lib.hid (below2 w o1 o2)
  obtain ⟨kind, value, shift, index, lag, gain, part, rice, data⟩ := b
  unfold blkV
  dsimp only
  generalize index.length = il
  generalize rice.length = rl
  generalize data.length = dl
  go_enter Try.func59, Try.ntmps59
  go_wp2
  refine bodyPost_ret (v := .agg #[.int .i64 lag, .int .i64 gain]) (by simp [results, Try.results59, go_sem]) rfl ?_
  exact ⟨rfl, (HB _ _).out⟩
set_option maxHeartbeats 800000 in
theorem cPartsOf (b : Blk) (ia ra da : Option Addr) (ic rc dc : Nat) (w : World) :
    Calls Try.prog 54 #[blkV b ia ra da ic rc dc] w fun e w' => e = .returned (.agg #[.int .i64 b.part, .slice ra b.rice.length rc]) ∧ Below w.heap.size w w' := by
  have HB := fun o1 o2 => Lib.hid (below2 w o1 o2)
  obtain ⟨kind, value, shift, index, lag, gain, part, rice, data⟩ := b
  unfold blkV
  dsimp only
  generalize index.length = il
  generalize rice.length = rl
  generalize data.length = dl
  go_enter Try.func54, Try.ntmps54
  go_wp2
  refine bodyPost_ret (v := .agg #[.int .i64 part, .slice ra rl rc]) (by simp [results, Try.results54, go_sem]) rfl ?_
  exact ⟨rfl, (HB _ _).out⟩
end Go.Proofs.Ytefbakhhlonafaa
