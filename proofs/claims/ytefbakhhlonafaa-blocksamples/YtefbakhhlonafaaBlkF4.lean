import Derived.Test.YtefbakhhlonafaaSlideT2
import Derived.Test.YtefbakhhlonafaaSlideT4
import Derived.Test.YtefbakhhlonafaaBlkF3
import Derived.Test.YtefbakhhlonafaaFxFilF2
import Derived.Test.YtefbakhhlonafaaGxLagF3
import Derived.Test.YtefbakhhlonafaaSlideC7
import Derived.Test.YtefbakhhlonafaaSlideC4

section
namespace Go.Proofs.Ytefbakhhlonafaa
open Go.RowKit Go.Proofs Go.Proofs.PipeM Go.Proofs.PipeA
set_option maxRecDepth 100000

/-- Three cells of a block. -/
structure Box3 (w : World) (b : Nat) (v0 v1 v2 : Value) : Prop where
  lt : b < w.heap.size
  c0 : w.cell? ⟨b, 0, none⟩ = some v0
  c1 : w.cell? ⟨b, 1, none⟩ = some v1
  c2 : w.cell? ⟨b, 2, none⟩ = some v2
  f0 : w.frozen? ⟨b, 0, none⟩ = false
  f1 : w.frozen? ⟨b, 1, none⟩ = false
  f2 : w.frozen? ⟨b, 2, none⟩ = false

theorem Box3.keeps {w w' : World} {b : Nat} {bs : List Nat} {v0 v1 v2 : Value} (h : Box3 w b v0 v1 v2) (hk : Keeps bs w w') (hb : b ∉ bs) : Box3 w' b v0 v1 v2 :=
  ⟨Nat.lt_of_lt_of_le h.lt hk.size, (hk.cell (p := ⟨b, 0, none⟩) h.lt hb).trans h.c0, (hk.cell (p := ⟨b, 1, none⟩) h.lt hb).trans h.c1, (hk.cell (p := ⟨b, 2, none⟩) h.lt hb).trans h.c2,
    (hk.frozen (p := ⟨b, 0, none⟩) h.lt hb).trans h.f0, (hk.frozen (p := ⟨b, 1, none⟩) h.lt hb).trans h.f1, (hk.frozen (p := ⟨b, 2, none⟩) h.lt hb).trans h.f2⟩

theorem Box3.set3 {w : World} {b : Nat} {v0 v1 v2 : Value} (h : Box3 w b v0 v1 v2) (x0 x1 x2 : Value) :
    Box3 (((w.setCell ⟨b, 0, none⟩ x0).setCell ⟨b, 1, none⟩ x1).setCell ⟨b, 2, none⟩ x2) b x0 x1 x2 ∧ Keeps [b] w (((w.setCell ⟨b, 0, none⟩ x0).setCell ⟨b, 1, none⟩ x1).setCell ⟨b, 2, none⟩ x2) := by
  obtain ⟨q0, q1, q2⟩ := set3_cells h.c0 h.c1 h.c2 x0 x1 x2
  refine ⟨⟨by simpa using h.lt, q0, q1, q2, by simp [h.f0], by simp [h.f1], by simp [h.f2]⟩, rfl, rfl, rfl, by simp, fun k _ hn => ?_⟩
  simp at hn
  rw [Below.heap_setCell _ _ _ _ (by simp; omega), Below.heap_setCell _ _ _ _ (by simp; omega), Below.heap_setCell _ _ _ _ (by simp; omega)]

theorem Box3.new (w : World) (v0 v1 v2 : Value) (t : TypeId) : Box3 (w.alloc (.cells #[v0, v1, v2] t)) w.heap.size v0 v1 v2 :=
  ⟨by simp, by simp, by simp, by simp, by simp, by simp, by simp⟩

theorem rice_lenS (m : MR) (k : Int) : (m.rice k).1.bits.length ≤ m.bits.length := by
  have hg : ∀ (m : MR) (e : Int), (m.give e).bits.length ≤ m.bits.length := fun m e => by unfold MR.give; split <;> simp
  unfold MR.rice
  split
  · exact hg m 1
  · split
    · unfold MR.riceA
      split
      · exact Nat.le_trans (take_len _ _) (run_len _ _)
      · exact Nat.le_trans (take_len _ _) (run_len _ _)
    · unfold MR.riceB
      have hb := Nat.le_trans (take_len (m.run 24).1 34) (run_len m 24)
      by_cases hd : ((m.run 24).1.take 34).2 / 2 ^ k.toNat < 24
      · simp only [if_pos hd]
        have := Nat.le_trans (hg ((m.run 24).1.take 34).1 2) hb
        split <;> exact this
      · simp only [if_neg hd]
        split <;> exact hb

/-- Where the document's taking stands: the reader in its box, the parameters, the numbers. -/
structure TRel (W0 : World) (RB XB p : Nat) (m : MR) (lv kv : Value) (ls ks : List Int) (W : World) : Prop where
  kp : Keeps [RB, XB] W0 W
  r : Box3 W RB (.string (str m.bits)) (.int .i64 m.all) (.int .i64 m.fail)
  x0 : W.cell? ⟨XB, 0, none⟩ = some (.int .i64 (p : Int))
  x1 : W.cell? ⟨XB, 1, none⟩ = some kv
  xf : W.frozen? ⟨XB, 1, none⟩ = false
  lown : W.ownsRow W0.heap.size 3 1 lv ls.length (intsOf ls)
  kown : W.ownsRow W0.heap.size 3 1 kv ks.length (intsOf ks)
  sep : ∀ g, lv.ownBlock = some g → kv.ownBlock ≠ some g
  lt : RB < W0.heap.size ∧ XB < W0.heap.size ∧ RB ≠ XB

theorem TRel.far {W0 : World} {RB XB p : Nat} {m : MR} {lv kv : Value} {ls ks : List Int} {W W' : World} (h : TRel W0 RB XB p m lv kv ls ks W) (m' : MR) (hk : Keeps [RB] W W') (hr : Box3 W' RB (.string (str m'.bits)) (.int .i64 m'.all) (.int .i64 m'.fail)) :
    TRel W0 RB XB p m' lv kv ls ks W' := by
  have hx : XB < W.heap.size := Nat.lt_of_lt_of_le h.lt.2.1 h.kp.size
  have hne : XB ∉ [RB] := by have := h.lt.2.2; simp; omega
  refine ⟨h.kp.trans (hk.mono (by simp)), hr, (hk.cell (p := ⟨XB, 0, none⟩) hx hne).trans h.x0, (hk.cell (p := ⟨XB, 1, none⟩) hx hne).trans h.x1, (hk.frozen (p := ⟨XB, 1, none⟩) hx hne).trans h.xf, ?_, ?_, h.sep, h.lt⟩
  · refine ownsRow_keeps h.lown hk fun g hg hm => ?_
    have := (own_block_lt h.lown g hg).1; have := h.lt.1; simp at hm; omega
  · refine ownsRow_keeps h.kown hk fun g hg hm => ?_
    have := (own_block_lt h.kown g hg).1; have := h.lt.1; simp at hm; omega

theorem TRel.read {W0 : World} {RB XB p : Nat} {m : MR} {lv kv : Value} {ls ks : List Int} {W W1 : World} (h : TRel W0 RB XB p m lv kv ls ks W) (hb : Below W.heap.size W W1) (o : Obj) (m' : MR) :
    TRel W0 RB XB p m' lv kv ls ks ((((W1.alloc o).setCell ⟨RB, 0, none⟩ (.string (str m'.bits))).setCell ⟨RB, 1, none⟩ (.int .i64 m'.all)).setCell ⟨RB, 2, none⟩ (.int .i64 m'.fail)) := by
  have k1 : Keeps [] W (W1.alloc o) := (keeps_of_below hb []).trans (keeps_of_below (box_below W1 o) [])
  obtain ⟨hbx, hk⟩ := (h.r.keeps k1 (by simp)).set3 (.string (str m'.bits)) (.int .i64 m'.all) (.int .i64 m'.fail)
  exact h.far m' ((k1.mono (by simp)).trans hk) hbx

theorem TRel.pushK {W0 : World} {RB XB p : Nat} {m : MR} {lv kv kv' : Value} {ls ks : List Int} {k : Int} {W W1 : World} (h : TRel W0 RB XB p m lv kv ls ks W) (hk : Keeps kv.ownBlock.toList W W1)
    (ho : W1.ownsRow W0.heap.size 3 1 kv' (ks.length + 1) (intsOf ks ++ [.int .i64 k])) (hat : kv'.ownBlock = kv.ownBlock ∨ ∃ g, kv'.ownBlock = some g ∧ W.heap.size ≤ g) :
    TRel W0 RB XB p m lv kv' ls (ks ++ [k]) (W1.setCell ⟨XB, 1, none⟩ kv') := by
  have hge : ∀ g ∈ kv.ownBlock.toList, W0.heap.size ≤ g := fun g hg => (own_block_lt h.kown g (by simpa using hg)).1
  have hx : XB < W.heap.size := Nat.lt_of_lt_of_le h.lt.2.1 h.kp.size
  have hxn : XB ∉ kv.ownBlock.toList := fun hm => by have := hge XB hm; have := h.lt.2.1; omega
  have hrn : RB ∉ kv.ownBlock.toList := fun hm => by have := hge RB hm; have := h.lt.1; omega
  have ks2 := keeps_setCell W1 XB 1 kv'
  have hs1 := hk.size
  have x1 : W1.cell? ⟨XB, 1, none⟩ = some kv := (hk.cell (p := ⟨XB, 1, none⟩) hx hxn).trans h.x1
  have hl1 : W1.ownsRow W0.heap.size 3 1 lv ls.length (intsOf ls) := ownsRow_keeps h.lown hk fun g hg hm => h.sep g hg (by simpa using hm)
  refine ⟨(h.kp.trans_new hk (fun x hx => Or.inr (hge x hx))).trans (ks2.mono (by simp)), (h.r.keeps hk hrn).keeps ks2 (by have := h.lt.2.2; simp; exact this), ?_, ?_, ?_, ?_, ?_, ?_, h.lt⟩
  · rw [World.cell?_setCell_other _ _ _ _ (by simp)]
    exact (hk.cell (p := ⟨XB, 0, none⟩) hx hxn).trans h.x0
  · exact World.cell?_setCell_same' _ _ _ (by rw [x1]; rfl)
  · rw [World.frozen?_setCell]
    exact (hk.frozen (p := ⟨XB, 1, none⟩) hx hxn).trans h.xf
  · refine ownsRow_keeps hl1 ks2 fun g hg hm => ?_
    have := (own_block_lt hl1 g hg).1; have := h.lt.2.1; simp at hm; omega
  · rw [List.length_append, List.length_singleton, intsOf_snoc]
    refine ownsRow_keeps ho ks2 fun g hg hm => ?_
    have := (own_block_lt ho g hg).1; have := h.lt.2.1; simp at hm; omega
  · intro g hg
    rcases hat with e | ⟨g', e, hn⟩
    · rw [e]; exact h.sep g hg
    · rw [e]
      intro e2
      cases e2
      have := (own_block_lt h.lown g hg).2
      omega

theorem TRel.pushL {W0 : World} {RB XB p : Nat} {m : MR} {lv kv lv' : Value} {ls ks : List Int} {v : Int} {W W1 : World} (h : TRel W0 RB XB p m lv kv ls ks W) (hk : Keeps lv.ownBlock.toList W W1)
    (ho : W1.ownsRow W0.heap.size 3 1 lv' (ls.length + 1) (intsOf ls ++ [.int .i64 v])) (hat : lv'.ownBlock = lv.ownBlock ∨ ∃ g, lv'.ownBlock = some g ∧ W.heap.size ≤ g) :
    TRel W0 RB XB p m lv' kv (ls ++ [v]) ks W1 := by
  have hge : ∀ g ∈ lv.ownBlock.toList, W0.heap.size ≤ g := fun g hg => (own_block_lt h.lown g (by simpa using hg)).1
  have hx : XB < W.heap.size := Nat.lt_of_lt_of_le h.lt.2.1 h.kp.size
  have hxn : XB ∉ lv.ownBlock.toList := fun hm => by have := hge XB hm; have := h.lt.2.1; omega
  have hrn : RB ∉ lv.ownBlock.toList := fun hm => by have := hge RB hm; have := h.lt.1; omega
  refine ⟨h.kp.trans_new hk (fun x hx => Or.inr (hge x hx)), h.r.keeps hk hrn, (hk.cell (p := ⟨XB, 0, none⟩) hx hxn).trans h.x0, (hk.cell (p := ⟨XB, 1, none⟩) hx hxn).trans h.x1, (hk.frozen (p := ⟨XB, 1, none⟩) hx hxn).trans h.xf, ?_, ?_, ?_, h.lt⟩
  · rw [List.length_append, List.length_singleton, intsOf_snoc]; exact ho
  · exact ownsRow_keeps h.kown hk fun g hg hm => h.sep g (by simpa using hm) hg
  · intro g hg hk2
    rcases hat with e | ⟨g', e, hn⟩
    · rw [e] at hg; exact h.sep g hg hk2
    · rw [e] at hg
      cases hg
      have := (own_block_lt h.kown g hk2).2
      omega

/-- The results' cells, as they are laid first. -/
structure Outs (W : World) (B4 B6 : Nat) : Prop where
  b4 : Box3 W B4 (.string ⟨#[]⟩) (.int .i64 0) (.int .i64 0)
  c0 : W.cell? ⟨B6, 0, none⟩ = some (.int .i64 0)
  c1 : W.cell? ⟨B6, 1, none⟩ = some (.slice none 0 0)
  f0 : W.frozen? ⟨B6, 0, none⟩ = false
  f1 : W.frozen? ⟨B6, 1, none⟩ = false
  lt : B6 < W.heap.size
  ne : B4 ≠ B6
theorem Outs.keeps {W W' : World} {B4 B6 : Nat} {bs : List Nat} (h : Outs W B4 B6) (hk : Keeps bs W W') (h4 : B4 ∉ bs) (h6 : B6 ∉ bs) : Outs W' B4 B6 :=
  ⟨h.b4.keeps hk h4, (hk.cell (p := ⟨B6, 0, none⟩) h.lt h6).trans h.c0, (hk.cell (p := ⟨B6, 1, none⟩) h.lt h6).trans h.c1, (hk.frozen (p := ⟨B6, 0, none⟩) h.lt h6).trans h.f0, (hk.frozen (p := ⟨B6, 1, none⟩) h.lt h6).trans h.f1, Nat.lt_of_lt_of_le h.lt hk.size, h.ne⟩
def setM (W : World) (B4 B6 : Nat) (a0 a1 a2 x0 x1 : Value) : World := ((((W.setCell ⟨B4, 0, none⟩ a0).setCell ⟨B4, 1, none⟩ a1).setCell ⟨B4, 2, none⟩ a2).setCell ⟨B6, 0, none⟩ x0).setCell ⟨B6, 1, none⟩ x1
theorem setM_is {W : World} {B4 B6 : Nat} (h : Outs W B4 B6) (a0 a1 a2 x0 x1 : Value) : Keeps [B4, B6] W (setM W B4 B6 a0 a1 a2 x0 x1) ∧ (setM W B4 B6 a0 a1 a2 x0 x1).cell? ⟨B4, 0, none⟩ = some a0 ∧ (setM W B4 B6 a0 a1 a2 x0 x1).cell? ⟨B4, 1, none⟩ = some a1 ∧ (setM W B4 B6 a0 a1 a2 x0 x1).cell? ⟨B4, 2, none⟩ = some a2 ∧ (setM W B4 B6 a0 a1 a2 x0 x1).cell? ⟨B6, 0, none⟩ = some x0 ∧ (setM W B4 B6 a0 a1 a2 x0 x1).cell? ⟨B6, 1, none⟩ = some x1 := by
  obtain ⟨hb, hk⟩ := h.b4.set3 a0 a1 a2
  have hne := h.ne
  have h6 : B6 ∉ [B4] := by simp; omega
  have e0 := (hk.cell (p := ⟨B6, 0, none⟩) h.lt h6).trans h.c0
  have e1 := (hk.cell (p := ⟨B6, 1, none⟩) h.lt h6).trans h.c1
  unfold setM
  generalize ((W.setCell ⟨B4, 0, none⟩ a0).setCell ⟨B4, 1, none⟩ a1).setCell ⟨B4, 2, none⟩ a2 = V at hb hk e0 e1 ⊢
  have k2 : Keeps [B6] V ((V.setCell ⟨B6, 0, none⟩ x0).setCell ⟨B6, 1, none⟩ x1) := (keeps_setCell V B6 0 x0).trans (keeps_setCell _ B6 1 x1)
  have hb2 := hb.keeps k2 (by simp; omega)
  refine ⟨(hk.mono (by simp)).trans (k2.mono (by simp)), hb2.c0, hb2.c1, hb2.c2, ?_, ?_⟩
  · rw [World.cell?_setCell_other _ _ _ _ (by simp)]
    exact World.cell?_setCell_same' _ _ _ (by rw [e0]; rfl)
  · exact World.cell?_setCell_same' _ _ _ (by rw [World.cell?_setCell_other _ _ _ _ (by simp), e1]; rfl)
theorem outs_new (w : World) (o : Obj) (t u : TypeId) : Outs (((w.alloc o).alloc (.cells #[.string ⟨#[]⟩, .int .i64 0, .int .i64 0] t)).alloc (.cells #[.int .i64 0, .slice none 0 0] u)) (w.heap.size + 1) (w.heap.size + 1 + 1) := by
  obtain ⟨_, h2, h3, hz, _⟩ := alloc3h w o (.cells #[.string ⟨#[]⟩, .int .i64 0, .int .i64 0] t) (.cells #[.int .i64 0, .slice none 0 0] u)
  exact ⟨⟨by omega, cell_of_heap h2 0, cell_of_heap h2 1, cell_of_heap h2 2, frozen_of_heap h2 0, frozen_of_heap h2 1, frozen_of_heap h2 2⟩, cell_of_heap h3 0, cell_of_heap h3 1, frozen_of_heap h3 0, frozen_of_heap h3 1, by omega, by omega⟩

/-- A slice that wasn't there. -/
def FreshOf (w : World) (ao : Option Addr) : Prop := ∀ g off, ao = some ⟨g, off, none⟩ → w.heap.size ≤ g
theorem fresh_none (w : World) : FreshOf w none := fun g off h => by cases h
/-- What the document's Take leaves, and answers. -/
def MTakeIs (r : MR × List Int × Nat × List Int) (w : World) (e : Ending) (w' : World) : Prop :=
  ∃ la lc ka kc, e = .returned (.tuple #[r.1.val, .slice la r.2.1.length lc, .agg #[.int .i64 ((r.2.2.1 : Nat) : Int), .slice ka r.2.2.2.length kc]]) ∧ IntsAt w' la r.2.1 ∧ IntsAt w' ka r.2.2.2 ∧ Below w.heap.size w w' ∧ FreshOf w la ∧ FreshOf w ka ∧ r.2.1.length ≤ lc ∧ r.2.2.2.length ≤ kc

theorem MR.take_val (m : MR) : (m.take 2).2 < 4 ∧ (m.take 5).2 < 32 := by
  constructor
  · unfold MR.take
    split
    · simp
    · split
      · simp
      · split
        · simp
        · rename_i h _
          have := num_lt (m.bits.take (2 : Int).toNat)
          refine Nat.lt_of_lt_of_le this (Nat.le_trans (Nat.pow_le_pow_right (by decide) (List.length_take_le _ _)) (by decide))
  · unfold MR.take
    split
    · simp
    · split
      · simp
      · split
        · simp
        · have := num_lt (m.bits.take (5 : Int).toNat)
          refine Nat.lt_of_lt_of_le this (Nat.le_trans (Nat.pow_le_pow_right (by decide) (List.length_take_le _ _)) (by decide))

theorem Box3.at {W : World} {b : Nat} {v0 v1 v2 : Value} {t : TypeId} (h : W.heap[b]? = some (.cells #[v0, v1, v2] t)) : Box3 W b v0 v1 v2 :=
  ⟨(Array.getElem?_eq_some_iff.1 h).1, cell_of_heap h 0, cell_of_heap h 1, cell_of_heap h 2, frozen_of_heap h 0, frozen_of_heap h 1, frozen_of_heap h 2⟩

theorem new_one (W : World) (k : Int) {b : Nat} (hb : W.heap.size = b) : ∀ j u, [Value.int .i64 k][j]? = some u → (W.alloc (.cells #[.int .i64 k] 3)).cell? ((⟨b, 0, none⟩ : Addr).add j) = some u := by
  intro j u hj
  have hn := World.alloc_heap_new W (.cells #[.int .i64 k] 3)
  rw [hb] at hn
  match j, hj with
  | 0, hj => simp at hj; subst hj; rw [Addr.add_lit]; exact cell_of_heap hn 0

/-- The start of the loop. -/
theorem trel_start {w W5 : World} {RB B4 B6 p : Nat} {m : MR} (hr : Box3 W5 RB (.string (str m.bits)) (.int .i64 m.all) (.int .i64 m.fail)) (ho : Outs W5 B4 B6) (hb : Below w.heap.size w W5) :
    TRel (W5.alloc (.cells #[.int .i64 (p : Int), .slice none 0 0] 61)) RB W5.heap.size p m (.slice none 0 0) (.slice none 0 0) [] [] (W5.alloc (.cells #[.int .i64 (p : Int), .slice none 0 0] 61)) ∧
    Outs (W5.alloc (.cells #[.int .i64 (p : Int), .slice none 0 0] 61)) B4 B6 ∧ Below w.heap.size w (W5.alloc (.cells #[.int .i64 (p : Int), .slice none 0 0] 61)) := by
  have hbx := box_below W5 (.cells #[.int .i64 (p : Int), .slice none 0 0] 61)
  have hn := World.alloc_heap_new W5 (.cells #[.int .i64 (p : Int), .slice none 0 0] 61)
  have hlt := hr.lt
  refine ⟨⟨Keeps.refl _ _, hr.keeps (keeps_of_below hbx []) (by simp), cell_of_heap hn 0, cell_of_heap hn 1, frozen_of_heap hn 1, World.ownsRow_nil _ _ _ _, World.ownsRow_nil _ _ _ _, (fun g hg => by cases hg), by simp; omega, by simp, by omega⟩, ho.keeps (keeps_of_below hbx []) (by simp) (by simp), hb.trans (hbx.mono hb.size)⟩

end Go.Proofs.Ytefbakhhlonafaa
end

section
namespace Go.Proofs.Ytefbakhhlonafaa
open Go.RowKit Go.Proofs Go.Proofs.PipeM Go.Proofs.PipeA Go.Proofs.BlkM
open Go.Proofs.LatM (goodL)
open Go.Proofs.FilM (smp codeS)
open Go.Proofs.LagM (goodT codeT codeO onL)
set_option maxRecDepth 100000

theorem blk_take {l : List Int} {c : Nat} (h : c < l.length) : intsOf (l.take (c + 1)) = intsOf (l.take c) ++ [.int .i64 l[c]] := by
  rw [List.take_succ_eq_append_getElem h]; unfold intsOf; rw [List.map_append]; rfl
theorem samp_ok {n m : Nat} (h1 : 1 ≤ n) (h2 : n ≤ 1024) (h3 : 8 ≤ m) (h4 : m ≤ 26) : (sizeN (n : Int) && depthB (m : Int)) = true := by
  unfold sizeN depthB
  rw [decide_eq_true (by omega), decide_eq_true (by omega)]; rfl
/-- Samples that came out, in memory that is new, or what is wrong. -/
def SampIs (code : Int) (m : List Int) (w : World) (e : Ending) (w' : World) : Prop :=
  (code ≠ 0 ∧ e = .returned (.tuple #[.slice none 0 0, .int .i64 code]) ∧ Below w.heap.size w w') ∨
  (code = 0 ∧ ∃ ao cap, e = .returned (.tuple #[.slice ao m.length cap, .int .i64 0]) ∧ IntsAt w' ao m ∧ m.length ≤ cap ∧ Below w.heap.size w w' ∧ FreshOf w ao)
theorem SampIs.bad {c : Int} {m : List Int} {w w' : World} {k : Int} (h : c = k) (hk : k ≠ 0) (hb : Below w.heap.size w w') : SampIs c m w (.returned (.tuple #[.slice none 0 0, .int .i64 k])) w' := by
  subst h
  exact .inl ⟨hk, rfl, hb⟩

set_option maxHeartbeats 1600000 in
theorem rSamp_size (b : Blk) (ia ra da : Option Addr) (ic rc dc : Nat) (n d : Int) (w : World) (h : (sizeN n && depthB d) = false) :
    Calls Try.prog 8 #[blkV b ia ra da ic rc dc, .int .i64 n, .int .i64 d] w (SampIs (codeB b n d) (outB b n.toNat) w) := by
  have HF : Hid (∀ W, Below w.heap.size w W → SampIs (codeB b n d) (outB b n.toNat) w (.returned (.tuple #[.slice none 0 0, .int .i64 1])) W) := fun W hW => SampIs.bad (codeB_size h) (by omega) hW
  have HB := fun o => Lib.hid (box_below w o)
  have HD := fun W => Lib.hid (rDepth d W)
  generalize codeB b n d = cb at HF ⊢
  generalize outB b n.toNat = ob at HF ⊢
  obtain ⟨kind, value, shift, index, lag, gain, part, rice, data⟩ := b
  unfold blkV
  dsimp only
  generalize index.length = il
  generalize rice.length = rl
  generalize data.length = dl
  by_cases h1 : n < 1
  · have t1 : decide (n < 1) = true := decide_eq_true h1
    clear h h1
    go_enter Try.func8, Try.ntmps8
    go_wp2
    refine bodyPost_ret (v := .tuple #[.slice none 0 0, .int .i64 1]) (by simp [results, Try.results8, go_sem]) rfl ?_
    exact HF.out _ (HB _).out
  · have t1 : decide (n < 1) = false := decide_eq_false h1
    by_cases h2 : 1024 < n
    · have t2 : decide (1024 < n) = true := decide_eq_true h2
      clear h h1 h2
      go_enter Try.func8, Try.ntmps8
      go_wp2
      refine bodyPost_ret (v := .tuple #[.slice none 0 0, .int .i64 1]) (by simp [results, Try.results8, go_sem]) rfl ?_
      exact HF.out _ (HB _).out
    · have t2 : decide (1024 < n) = false := decide_eq_false h2
      have hd : depthB d = false := by
        have : sizeN n = true := decide_eq_true (by omega)
        rw [this] at h
        simpa using h
      rw [hd] at HD
      clear h h1 h2 hd
      go_enter Try.func8, Try.ntmps8
      go_wp2_with fail
      refine (HD _).out.mono ?_
      rintro e w1 ⟨rfl, rfl⟩
      go_wp2
      refine bodyPost_ret (v := .tuple #[.slice none 0 0, .int .i64 1]) (by simp [results, Try.results8, go_sem]) rfl ?_
      exact HF.out _ (HB _).out

set_option maxHeartbeats 1600000 in
theorem rSamp_form (b : Blk) (ia ra da : Option Addr) (ic rc dc : Nat) (n m : Nat) (w : World) (hn1 : 1 ≤ n) (hn : n ≤ 1024) (hm1 : 8 ≤ m) (hm2 : m ≤ 26) (hI : BlkIn w b ia ra da ic rc dc) (h : formB b n m ≠ 0) :
    Calls Try.prog 8 #[blkV b ia ra da ic rc dc, .int .i64 n, .int .i64 m] w (SampIs (codeB b n m) (outB b n) w) := by
  have hcd : codeB b n m = formB b n m := codeB_form (samp_ok hn1 hn hm1 hm2) h
  have HB := fun o => Lib.hid (box_below w o)
  have HFO : Hid (∀ o, Calls Try.prog 22 #[blkV b ia ra da ic rc dc, .int .i64 n, .int .i64 m] (w.alloc o) fun e w' => e = .returned (.int .i64 (formB b n m)) ∧ Below (w.alloc o).heap.size (w.alloc o) w') := fun o => rForm b ia ra da ic rc dc n m (w.alloc o) hn1 hn (hI.below (HB o).out)
  rw [hcd]
  have HD := fun W => Lib.hid (rDepth m W)
  have hdep : depthB m = true := decide_eq_true (by omega)
  rw [hdep] at HD
  generalize formB b n m = cb at *
  generalize outB b n = ob at *
  have tc : (cb != 0) = true := bne_iff_ne.2 h
  have HC := Lib.hid h
  obtain ⟨kind, value, shift, index, lag, gain, part, rice, data⟩ := b
  unfold blkV at HFO ⊢
  dsimp only at HFO ⊢
  generalize index.length = il at HFO ⊢
  generalize rice.length = rl at HFO ⊢
  generalize data.length = dl at HFO ⊢
  clear h hcd hdep hI
  go_enter Try.func8, Try.ntmps8
  go_wp2_with fail
  refine (HD _).out.mono ?_
  rintro e w1 ⟨rfl, rfl⟩
  go_wp2_with fail
  refine (HFO.out _).mono ?_
  rintro e w1 ⟨rfl, hb1⟩
  have HB1 := Lib.hid ((HB _).out.trans (hb1.mono (HB _).out.size))
  clear hb1
  go_wp2
  refine bodyPost_ret (v := .tuple #[.slice none 0 0, .int .i64 cb]) (by simp [results, Try.results8, go_sem]) rfl ?_
  exact SampIs.bad rfl HC.out HB1.out
end Go.Proofs.Ytefbakhhlonafaa
end
