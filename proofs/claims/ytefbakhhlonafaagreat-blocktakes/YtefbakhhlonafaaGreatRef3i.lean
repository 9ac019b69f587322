import Derived.Test.YtefbakhhlonafaaGreatSlideT4
import Derived.Test.YtefbakhhlonafaaGreatSlideT

namespace Go.Proofs.YtefbakhhlonafaaGreat
open Go.RowKit Go.Proofs Go.Proofs.PipeM Go.Proofs.PipeA
set_option maxRecDepth 100000

/-- Three cells of a block. -/
structure Box3 (w : World) (b : Nat) (v0 v1 v2 : Value) : Prop where
  lt : b < w.heap.size
  c0 : w.cell? ⟨b, 0, none⟩ = some v0
  c1 : w.cell? ⟨b, 1, none⟩ = some v1
  c2 : w.cell? ⟨b, 2, none⟩ = some v2
  f0 : w.frozen? ⟨b, 0, none⟩ = false
  f1 : w.frozen? ⟨b, 1, none⟩ = false
  f2 : w.frozen? ⟨b, 2, none⟩ = false

theorem Box3.keeps {w w' : World} {b : Nat} {bs : List Nat} {v0 v1 v2 : Value} (h : Box3 w b v0 v1 v2) (hk : Keeps bs w w') (hb : b ∉ bs) : Box3 w' b v0 v1 v2 :=
  ⟨Nat.lt_of_lt_of_le h.lt hk.size, (hk.cell (p := ⟨b, 0, none⟩) h.lt hb).trans h.c0, (hk.cell (p := ⟨b, 1, none⟩) h.lt hb).trans h.c1, (hk.cell (p := ⟨b, 2, none⟩) h.lt hb).trans h.c2,
    (hk.frozen (p := ⟨b, 0, none⟩) h.lt hb).trans h.f0, (hk.frozen (p := ⟨b, 1, none⟩) h.lt hb).trans h.f1, (hk.frozen (p := ⟨b, 2, none⟩) h.lt hb).trans h.f2⟩

theorem Box3.set3 {w : World} {b : Nat} {v0 v1 v2 : Value} (h : Box3 w b v0 v1 v2) (x0 x1 x2 : Value) :
    Box3 (((w.setCell ⟨b, 0, none⟩ x0).setCell ⟨b, 1, none⟩ x1).setCell ⟨b, 2, none⟩ x2) b x0 x1 x2 ∧ Keeps [b] w (((w.setCell ⟨b, 0, none⟩ x0).setCell ⟨b, 1, none⟩ x1).setCell ⟨b, 2, none⟩ x2) := by
  obtain ⟨q0, q1, q2⟩ := set3_cells h.c0 h.c1 h.c2 x0 x1 x2
  refine ⟨⟨by simpa using h.lt, q0, q1, q2, by simp [h.f0], by simp [h.f1], by simp [h.f2]⟩, rfl, rfl, rfl, by simp, fun k _ hn => ?_⟩
  simp at hn
  rw [Below.heap_setCell _ _ _ _ (by simp; omega), Below.heap_setCell _ _ _ _ (by simp; omega), Below.heap_setCell _ _ _ _ (by simp; omega)]

theorem Box3.new (w : World) (v0 v1 v2 : Value) (t : TypeId) : Box3 (w.alloc (.cells #[v0, v1, v2] t)) w.heap.size v0 v1 v2 :=
  ⟨by simp, by simp, by simp, by simp, by simp, by simp, by simp⟩

theorem rice_lenS (m : MR) (k : Int) : (m.rice k).1.bits.length ≤ m.bits.length := by
  have hg : ∀ (m : MR) (e : Int), (m.give e).bits.length ≤ m.bits.length := fun m e => by unfold MR.give; split <;> simp
  unfold MR.rice
  split
  · exact hg m 1
  · split
    · unfold MR.riceA
      split
      · exact Nat.le_trans (take_len _ _) (run_len _ _)
      · exact Nat.le_trans (take_len _ _) (run_len _ _)
    · unfold MR.riceB
      have hb := Nat.le_trans (take_len (m.run 24).1 34) (run_len m 24)
      by_cases hd : ((m.run 24).1.take 34).2 / 2 ^ k.toNat < 24
      · simp only [if_pos hd]
        have := Nat.le_trans (hg ((m.run 24).1.take 34).1 2) hb
        split <;> exact this
      · simp only [if_neg hd]
        split <;> exact hb

/-- Where the document's taking stands: the reader in its box, the parameters, the numbers. -/
structure TRel (W0 : World) (RB XB p : Nat) (m : MR) (lv kv : Value) (ls ks : List Int) (W : World) : Prop where
  kp : Keeps [RB, XB] W0 W
  r : Box3 W RB (.string (str m.bits)) (.int .i64 m.all) (.int .i64 m.fail)
  x0 : W.cell? ⟨XB, 0, none⟩ = some (.int .i64 (p : Int))
  x1 : W.cell? ⟨XB, 1, none⟩ = some kv
  xf : W.frozen? ⟨XB, 1, none⟩ = false
  lown : W.ownsRow W0.heap.size 3 1 lv ls.length (intsOf ls)
  kown : W.ownsRow W0.heap.size 3 1 kv ks.length (intsOf ks)
  sep : ∀ g, lv.ownBlock = some g → kv.ownBlock ≠ some g
  lt : RB < W0.heap.size ∧ XB < W0.heap.size ∧ RB ≠ XB

theorem TRel.far {W0 : World} {RB XB p : Nat} {m : MR} {lv kv : Value} {ls ks : List Int} {W W' : World} (h : TRel W0 RB XB p m lv kv ls ks W) (m' : MR) (hk : Keeps [RB] W W') (hr : Box3 W' RB (.string (str m'.bits)) (.int .i64 m'.all) (.int .i64 m'.fail)) :
    TRel W0 RB XB p m' lv kv ls ks W' := by
  have hx : XB < W.heap.size := Nat.lt_of_lt_of_le h.lt.2.1 h.kp.size
  have hne : XB ∉ [RB] := by have := h.lt.2.2; simp; omega
  refine ⟨h.kp.trans (hk.mono (by simp)), hr, (hk.cell (p := ⟨XB, 0, none⟩) hx hne).trans h.x0, (hk.cell (p := ⟨XB, 1, none⟩) hx hne).trans h.x1, (hk.frozen (p := ⟨XB, 1, none⟩) hx hne).trans h.xf, ?_, ?_, h.sep, h.lt⟩
  · refine ownsRow_keeps h.lown hk fun g hg hm => ?_
    have := (own_block_lt h.lown g hg).1; have := h.lt.1; simp at hm; omega
  · refine ownsRow_keeps h.kown hk fun g hg hm => ?_
    have := (own_block_lt h.kown g hg).1; have := h.lt.1; simp at hm; omega

theorem TRel.read {W0 : World} {RB XB p : Nat} {m : MR} {lv kv : Value} {ls ks : List Int} {W W1 : World} (h : TRel W0 RB XB p m lv kv ls ks W) (hb : Below W.heap.size W W1) (o : Obj) (m' : MR) :
    TRel W0 RB XB p m' lv kv ls ks ((((W1.alloc o).setCell ⟨RB, 0, none⟩ (.string (str m'.bits))).setCell ⟨RB, 1, none⟩ (.int .i64 m'.all)).setCell ⟨RB, 2, none⟩ (.int .i64 m'.fail)) := by
  have k1 : Keeps [] W (W1.alloc o) := (keeps_of_below hb []).trans (keeps_of_below (box_below W1 o) [])
  obtain ⟨hbx, hk⟩ := (h.r.keeps k1 (by simp)).set3 (.string (str m'.bits)) (.int .i64 m'.all) (.int .i64 m'.fail)
  exact h.far m' ((k1.mono (by simp)).trans hk) hbx

theorem TRel.pushK {W0 : World} {RB XB p : Nat} {m : MR} {lv kv kv' : Value} {ls ks : List Int} {k : Int} {W W1 : World} (h : TRel W0 RB XB p m lv kv ls ks W) (hk : Keeps kv.ownBlock.toList W W1)
    (ho : W1.ownsRow W0.heap.size 3 1 kv' (ks.length + 1) (intsOf ks ++ [.int .i64 k])) (hat : kv'.ownBlock = kv.ownBlock ∨ ∃ g, kv'.ownBlock = some g ∧ W.heap.size ≤ g) :
    TRel W0 RB XB p m lv kv' ls (ks ++ [k]) (W1.setCell ⟨XB, 1, none⟩ kv') := by
  have hge : ∀ g ∈ kv.ownBlock.toList, W0.heap.size ≤ g := fun g hg => (own_block_lt h.kown g (by simpa using hg)).1
  have hx : XB < W.heap.size := Nat.lt_of_lt_of_le h.lt.2.1 h.kp.size
  have hxn : XB ∉ kv.ownBlock.toList := fun hm => by have := hge XB hm; have := h.lt.2.1; omega
  have hrn : RB ∉ kv.ownBlock.toList := fun hm => by have := hge RB hm; have := h.lt.1; omega
  have ks2 := keeps_setCell W1 XB 1 kv'
  have hs1 := hk.size
  have x1 : W1.cell? ⟨XB, 1, none⟩ = some kv := (hk.cell (p := ⟨XB, 1, none⟩) hx hxn).trans h.x1
  have hl1 : W1.ownsRow W0.heap.size 3 1 lv ls.length (intsOf ls) := ownsRow_keeps h.lown hk fun g hg hm => h.sep g hg (by simpa using hm)
  refine ⟨(h.kp.trans_new hk (fun x hx => Or.inr (hge x hx))).trans (ks2.mono (by simp)), (h.r.keeps hk hrn).keeps ks2 (by have := h.lt.2.2; simp; exact this), ?_, ?_, ?_, ?_, ?_, ?_, h.lt⟩
  · rw [World.cell?_setCell_other _ _ _ _ (by simp)]
    exact (hk.cell (p := ⟨XB, 0, none⟩) hx hxn).trans h.x0
  · exact World.cell?_setCell_same' _ _ _ (by rw [x1]; rfl)
  · rw [World.frozen?_setCell]
    exact (hk.frozen (p := ⟨XB, 1, none⟩) hx hxn).trans h.xf
  · refine ownsRow_keeps hl1 ks2 fun g hg hm => ?_
    have := (own_block_lt hl1 g hg).1; have := h.lt.2.1; simp at hm; omega
  · rw [List.length_append, List.length_singleton, intsOf_snoc]
    refine ownsRow_keeps ho ks2 fun g hg hm => ?_
    have := (own_block_lt ho g hg).1; have := h.lt.2.1; simp at hm; omega
  · intro g hg
    rcases hat with e | ⟨g', e, hn⟩
    · rw [e]; exact h.sep g hg
    · rw [e]
      intro e2
      cases e2
      have := (own_block_lt h.lown g hg).2
      omega

theorem TRel.pushL {W0 : World} {RB XB p : Nat} {m : MR} {lv kv lv' : Value} {ls ks : List Int} {v : Int} {W W1 : World} (h : TRel W0 RB XB p m lv kv ls ks W) (hk : Keeps lv.ownBlock.toList W W1)
    (ho : W1.ownsRow W0.heap.size 3 1 lv' (ls.length + 1) (intsOf ls ++ [.int .i64 v])) (hat : lv'.ownBlock = lv.ownBlock ∨ ∃ g, lv'.ownBlock = some g ∧ W.heap.size ≤ g) :
    TRel W0 RB XB p m lv' kv (ls ++ [v]) ks W1 := by
  have hge : ∀ g ∈ lv.ownBlock.toList, W0.heap.size ≤ g := fun g hg => (own_block_lt h.lown g (by simpa using hg)).1
  have hx : XB < W.heap.size := Nat.lt_of_lt_of_le h.lt.2.1 h.kp.size
  have hxn : XB ∉ lv.ownBlock.toList := fun hm => by have := hge XB hm; have := h.lt.2.1; omega
  have hrn : RB ∉ lv.ownBlock.toList := fun hm => by have := hge RB hm; have := h.lt.1; omega
  refine ⟨h.kp.trans_new hk (fun x hx => Or.inr (hge x hx)), h.r.keeps hk hrn, (hk.cell (p := ⟨XB, 0, none⟩) hx hxn).trans h.x0, (hk.cell (p := ⟨XB, 1, none⟩) hx hxn).trans h.x1, (hk.frozen (p := ⟨XB, 1, none⟩) hx hxn).trans h.xf, ?_, ?_, ?_, h.lt⟩
  · rw [List.length_append, List.length_singleton, intsOf_snoc]; exact ho
  · exact ownsRow_keeps h.kown hk fun g hg hm => h.sep g (by simpa using hm) hg
  · intro g hg hk2
    rcases hat with e | ⟨g', e, hn⟩
    · rw [e] at hg; exact h.sep g hg hk2
    · rw [e] at hg
      cases hg
      have := (own_block_lt h.kown g hk2).2
      omega

/-- The results' cells, as they are laid first. -/
structure Outs (W : World) (B4 B6 : Nat) : Prop where
  b4 : Box3 W B4 (.string ⟨#[]⟩) (.int .i64 0) (.int .i64 0)
  c0 : W.cell? ⟨B6, 0, none⟩ = some (.int .i64 0)
  c1 : W.cell? ⟨B6, 1, none⟩ = some (.slice none 0 0)
  f0 : W.frozen? ⟨B6, 0, none⟩ = false
  f1 : W.frozen? ⟨B6, 1, none⟩ = false
  lt : B6 < W.heap.size
  ne : B4 ≠ B6
theorem Outs.keeps {W W' : World} {B4 B6 : Nat} {bs : List Nat} (h : Outs W B4 B6) (hk : Keeps bs W W') (h4 : B4 ∉ bs) (h6 : B6 ∉ bs) : Outs W' B4 B6 :=
  ⟨h.b4.keeps hk h4, (hk.cell (p := ⟨B6, 0, none⟩) h.lt h6).trans h.c0, (hk.cell (p := ⟨B6, 1, none⟩) h.lt h6).trans h.c1, (hk.frozen (p := ⟨B6, 0, none⟩) h.lt h6).trans h.f0, (hk.frozen (p := ⟨B6, 1, none⟩) h.lt h6).trans h.f1, Nat.lt_of_lt_of_le h.lt hk.size, h.ne⟩
def setM (W : World) (B4 B6 : Nat) (a0 a1 a2 x0 x1 : Value) : World := ((((W.setCell ⟨B4, 0, none⟩ a0).setCell ⟨B4, 1, none⟩ a1).setCell ⟨B4, 2, none⟩ a2).setCell ⟨B6, 0, none⟩ x0).setCell ⟨B6, 1, none⟩ x1
theorem setM_is {W : World} {B4 B6 : Nat} (h : Outs W B4 B6) (a0 a1 a2 x0 x1 : Value) : Keeps [B4, B6] W (setM W B4 B6 a0 a1 a2 x0 x1) ∧ (setM W B4 B6 a0 a1 a2 x0 x1).cell? ⟨B4, 0, none⟩ = some a0 ∧ (setM W B4 B6 a0 a1 a2 x0 x1).cell? ⟨B4, 1, none⟩ = some a1 ∧ (setM W B4 B6 a0 a1 a2 x0 x1).cell? ⟨B4, 2, none⟩ = some a2 ∧ (setM W B4 B6 a0 a1 a2 x0 x1).cell? ⟨B6, 0, none⟩ = some x0 ∧ (setM W B4 B6 a0 a1 a2 x0 x1).cell? ⟨B6, 1, none⟩ = some x1 := by
  obtain ⟨hb, hk⟩ := h.b4.set3 a0 a1 a2
  have hne := h.ne
  have h6 : B6 ∉ [B4] := by simp; omega
  have e0 := (hk.cell (p := ⟨B6, 0, none⟩) h.lt h6).trans h.c0
  have e1 := (hk.cell (p := ⟨B6, 1, none⟩) h.lt h6).trans h.c1
  unfold setM
  generalize ((W.setCell ⟨B4, 0, none⟩ a0).setCell ⟨B4, 1, none⟩ a1).setCell ⟨B4, 2, none⟩ a2 = V at hb hk e0 e1 ⊢
  have k2 : Keeps [B6] V ((V.setCell ⟨B6, 0, none⟩ x0).setCell ⟨B6, 1, none⟩ x1) := (keeps_setCell V B6 0 x0).trans (keeps_setCell _ B6 1 x1)
  have hb2 := hb.keeps k2 (by simp; omega)
  refine ⟨(hk.mono (by simp)).trans (k2.mono (by simp)), hb2.c0, hb2.c1, hb2.c2, ?_, ?_⟩
  · rw [World.cell?_setCell_other _ _ _ _ (by simp)]
    exact World.cell?_setCell_same' _ _ _ (by rw [e0]; rfl)
  · exact World.cell?_setCell_same' _ _ _ (by rw [World.cell?_setCell_other _ _ _ _ (by simp), e1]; rfl)
theorem outs_new (w : World) (o : Obj) (t u : TypeId) : Outs (((w.alloc o).alloc (.cells #[.string ⟨#[]⟩, .int .i64 0, .int .i64 0] t)).alloc (.cells #[.int .i64 0, .slice none 0 0] u)) (w.heap.size + 1) (w.heap.size + 1 + 1) := by
  obtain ⟨_, h2, h3, hz, _⟩ := alloc3h w o (.cells #[.string ⟨#[]⟩, .int .i64 0, .int .i64 0] t) (.cells #[.int .i64 0, .slice none 0 0] u)
  exact ⟨⟨by omega, cell_of_heap h2 0, cell_of_heap h2 1, cell_of_heap h2 2, frozen_of_heap h2 0, frozen_of_heap h2 1, frozen_of_heap h2 2⟩, cell_of_heap h3 0, cell_of_heap h3 1, frozen_of_heap h3 0, frozen_of_heap h3 1, by omega, by omega⟩

/-- A slice that wasn't there. -/
def FreshOf (w : World) (ao : Option Addr) : Prop := ∀ g off, ao = some ⟨g, off, none⟩ → w.heap.size ≤ g
theorem fresh_none (w : World) : FreshOf w none := fun g off h => by cases h
/-- What the document's Take leaves, and answers. -/
def MTakeIs (r : MR × List Int × Nat × List Int) (w : World) (e : Ending) (w' : World) : Prop :=
  ∃ la lc ka kc, e = .returned (.tuple #[r.1.val, .slice la r.2.1.length lc, .agg #[.int .i64 ((r.2.2.1 : Nat) : Int), .slice ka r.2.2.2.length kc]]) ∧ IntsAt w' la r.2.1 ∧ IntsAt w' ka r.2.2.2 ∧ Below w.heap.size w w' ∧ FreshOf w la ∧ FreshOf w ka ∧ r.2.1.length ≤ lc ∧ r.2.2.2.length ≤ kc

theorem MR.take_val (m : MR) : (m.take 2).2 < 4 ∧ (m.take 5).2 < 32 := by
  constructor
  · unfold MR.take
    split
    · simp
    · split
      · simp
      · split
        · simp
        · rename_i h _
          have := num_lt (m.bits.take (2 : Int).toNat)
          refine Nat.lt_of_lt_of_le this (Nat.le_trans (Nat.pow_le_pow_right (by decide) (List.length_take_le _ _)) (by decide))
  · unfold MR.take
    split
    · simp
    · split
      · simp
      · split
        · simp
        · have := num_lt (m.bits.take (5 : Int).toNat)
          refine Nat.lt_of_lt_of_le this (Nat.le_trans (Nat.pow_le_pow_right (by decide) (List.length_take_le _ _)) (by decide))

set_option maxHeartbeats 800000 in
theorem mSlide_no (m : MR) (n : Int) (w : World) (hn : n < 1 ∨ 1024 < n) :
    Calls Tryz.prog 54 #[m.val, .int .i64 n] w (MTakeIs (m.give 1, [], 0, []) w) := by
  have t : decide (n < 1) = true ∨ (decide (n < 1) = false ∧ decide (1024 < n) = true) := by
    by_cases h : n < 1
    · exact Or.inl (decide_eq_true h)
    · exact Or.inr ⟨decide_eq_false h, decide_eq_true (by omega)⟩
  have HG := fun W => Lib.hid (mGive m 1 W)
  have HV : Hid (m.val = .agg #[.string (str m.bits), .int .i64 m.all, .int .i64 m.fail]) := Lib.hid rfl
  rw [HV.out] at HG ⊢
  obtain ⟨gm, hgm⟩ : ∃ gm, gm = m.give 1 := ⟨_, rfl⟩
  rw [← hgm] at HG ⊢
  generalize str m.bits = st at HG ⊢
  generalize m.all = al at HG ⊢
  generalize m.fail = fa at HG ⊢
  clear hgm HV
  go_enter Tryz.func54, Tryz.ntmps54
  rcases t with t | ⟨t, t'⟩
  all_goals
    go_wp2_with fail
    refine (HG _).out.mono ?_
    rintro e w1 ⟨rfl, hb1⟩
    have ho := (outs_new w (.cells #[.string st, .int .i64 al, .int .i64 fa] 50) 50 71).keeps (keeps_of_below hb1 []) (by simp) (by simp)
    have HB1 : Hid (Below w.heap.size w w1) := Lib.hid (by
      have h3 := (alloc3h w (.cells #[.string st, .int .i64 al, .int .i64 fa] 50) (.cells #[.string ⟨#[]⟩, .int .i64 0, .int .i64 0] 50) (.cells #[.int .i64 0, .slice none 0 0] 71)).2.2.2.2
      exact h3.trans (hb1.mono h3.size))
    obtain ⟨⟨_, e0, e1, e2, g0, g1, g2⟩, e3, e4, g3, g4, _, _⟩ := id ho
    obtain ⟨hk, y0, y1, y2, y3, y4⟩ := setM_is ho (.string (str gm.bits)) (.int .i64 gm.all) (.int .i64 gm.fail) (.int .i64 0) (.slice none 0 0)
    have HF : Hid (MTakeIs (gm, [], 0, []) w (.returned (.tuple #[gm.val, .slice none 0 0, .agg #[.int .i64 0, .slice none 0 0]])) (setM w1 (w.heap.size + 1) (w.heap.size + 1 + 1) (.string (str gm.bits)) (.int .i64 gm.all) (.int .i64 gm.fail) (.int .i64 0) (.slice none 0 0))) :=
      Lib.hid ⟨none, 0, none, 0, rfl, (fun j hj => by simp at hj), (fun j hj => by simp at hj), HB1.out.trans (hk.below HB1.out.size (by intro x hx; simp at hx; omega)), fresh_none _, fresh_none _, Nat.le_refl _, Nat.le_refl _⟩
    unfold setM at y0 y1 y2 y3 y4 HF
    unfold MR.val
    unfold MR.val at HF
    clear hb1 ho hk
    generalize str gm.bits = gs at *
    generalize gm.all = ga at *
    generalize gm.fail = gf at *
    go_wp2_with fail
    refine bodyPost_ret (v := .tuple #[.agg #[.string gs, .int .i64 ga, .int .i64 gf], .slice none 0 0, .agg #[.int .i64 0, .slice none 0 0]]) ?_ rfl ?_
    · simp [results, Tryz.results54, go_sem, y0, y1, y2, y3, y4]
    · exact HF.out

theorem Box3.at {W : World} {b : Nat} {v0 v1 v2 : Value} {t : TypeId} (h : W.heap[b]? = some (.cells #[v0, v1, v2] t)) : Box3 W b v0 v1 v2 :=
  ⟨(Array.getElem?_eq_some_iff.1 h).1, cell_of_heap h 0, cell_of_heap h 1, cell_of_heap h 2, frozen_of_heap h 0, frozen_of_heap h 1, frozen_of_heap h 2⟩

theorem new_one (W : World) (k : Int) {b : Nat} (hb : W.heap.size = b) : ∀ j u, [Value.int .i64 k][j]? = some u → (W.alloc (.cells #[.int .i64 k] 3)).cell? ((⟨b, 0, none⟩ : Addr).add j) = some u := by
  intro j u hj
  have hn := World.alloc_heap_new W (.cells #[.int .i64 k] 3)
  rw [hb] at hn
  match j, hj with
  | 0, hj => simp at hj; subst hj; rw [Addr.add_lit]; exact cell_of_heap hn 0

/-- The start of the loop. -/
theorem trel_start {w W5 : World} {RB B4 B6 p : Nat} {m : MR} (hr : Box3 W5 RB (.string (str m.bits)) (.int .i64 m.all) (.int .i64 m.fail)) (ho : Outs W5 B4 B6) (hb : Below w.heap.size w W5) :
    TRel (W5.alloc (.cells #[.int .i64 (p : Int), .slice none 0 0] 71)) RB W5.heap.size p m (.slice none 0 0) (.slice none 0 0) [] [] (W5.alloc (.cells #[.int .i64 (p : Int), .slice none 0 0] 71)) ∧
    Outs (W5.alloc (.cells #[.int .i64 (p : Int), .slice none 0 0] 71)) B4 B6 ∧ Below w.heap.size w (W5.alloc (.cells #[.int .i64 (p : Int), .slice none 0 0] 71)) := by
  have hbx := box_below W5 (.cells #[.int .i64 (p : Int), .slice none 0 0] 71)
  have hn := World.alloc_heap_new W5 (.cells #[.int .i64 (p : Int), .slice none 0 0] 71)
  have hlt := hr.lt
  refine ⟨⟨Keeps.refl _ _, hr.keeps (keeps_of_below hbx []) (by simp), cell_of_heap hn 0, cell_of_heap hn 1, frozen_of_heap hn 1, World.ownsRow_nil _ _ _ _, World.ownsRow_nil _ _ _ _, (fun g hg => by cases hg), by simp; omega, by simp, by omega⟩, ho.keeps (keeps_of_below hbx []) (by simp) (by simp), hb.trans (hbx.mono hb.size)⟩

set_option maxHeartbeats 3200000 in
theorem mSlide_yes (m : MR) (n : Nat) (w : World) (hb : m.bits.length ≤ 1000000000) (hn1 : 1 ≤ n) (hn2 : n ≤ 1024) :
    Calls Tryz.prog 54 #[m.val, .int .i64 n] w (MTakeIs ((m.take 2).1.slideB n (m.take 2).2) w) := by
  have t1 : decide ((n : Int) < 1) = false := decide_eq_false (by omega)
  have t2 : decide ((1024 : Int) < (n : Int)) = false := decide_eq_false (by omega)
  have HT := fun W => Lib.hid (mTake m 2 W hb)
  have hlen1 := Nat.le_trans (take_len m 2) hb
  have hp4 := (MR.take_val m).1
  generalize (m.take 2).1 = m1 at HT hlen1 ⊢
  generalize (m.take 2).2 = p at HT hp4 ⊢
  have HP := fun W => Lib.hid (refPower p W (by omega))
  have HG := fun W => Lib.hid (mGive m1 2 W)
  obtain ⟨cnt, hcnt⟩ : ∃ cnt, cnt = 2 ^ p := ⟨_, rfl⟩
  have hc1 : 1 ≤ cnt := by rw [hcnt]; exact Nat.two_pow_pos p
  have hc8 : cnt ≤ 8 := by rw [hcnt]; exact Nat.le_trans (Nat.pow_le_pow_right (by decide) (show p ≤ 3 by omega)) (by decide)
  obtain ⟨size, hsize⟩ : ∃ size, size = n / cnt := ⟨_, rfl⟩
  have hdv : (n : Int) / (cnt : Int) = (size : Int) := by rw [hsize]; omega
  have hsz : size ≤ 1024 := by rw [hsize]; exact Nat.le_trans (Nat.div_le_self _ _) hn2
  have HSB : Hid (m1.slideB n p = if (MR.body size cnt (m1.form n p)).1.fail ≠ 0 then ((MR.body size cnt (m1.form n p)).1, [], 0, []) else ((MR.body size cnt (m1.form n p)).1, (MR.body size cnt (m1.form n p)).2.1, p, (MR.body size cnt (m1.form n p)).2.2)) := Lib.hid (by unfold MR.slideB; rw [← hcnt, ← hsize])
  rw [← hcnt] at HP
  have hmod : n % cnt < cnt := Nat.mod_lt _ hc1
  have HFM : Hid (m1.form n p = if n % cnt ≠ 0 then m1.give 2 else m1) := Lib.hid (by unfold MR.form; rw [← hcnt])
  have HV : Hid (m.val = .agg #[.string (str m.bits), .int .i64 m.all, .int .i64 m.fail]) := Lib.hid rfl
  rw [HV.out] at HT ⊢
  generalize str m.bits = st at HT ⊢
  generalize m.all = al at HT ⊢
  generalize m.fail = fa at HT ⊢
  obtain ⟨i0, hi, hz0, hz1, hz2⟩ := info_parts info_int
  clear HV hcnt hsize hb
  go_enter Tryz.func54, Tryz.ntmps54
  go_wp2_with fail
  refine (HT _).out.mono ?_
  rintro e w4 ⟨rfl, hb4⟩
  obtain ⟨h1, h2, h3, hz, hbl⟩ := alloc3h w (.cells #[.string st, .int .i64 al, .int .i64 fa] 50) (.cells #[.string ⟨#[]⟩, .int .i64 0, .int .i64 0] 50) (.cells #[.int .i64 0, .slice none 0 0] 71)
  have hr4 := (Box3.at h1).keeps (keeps_of_below hb4 []) (by simp)
  have ho4 := (outs_new w (.cells #[.string st, .int .i64 al, .int .i64 fa] 50) 50 71).keeps (keeps_of_below hb4 []) (by simp) (by simp)
  have hbw4 : Below w.heap.size w w4 := hbl.trans (hb4.mono hbl.size)
  obtain ⟨hr5, hk5⟩ := hr4.set3 (.string (str m1.bits)) (.int .i64 m1.all) (.int .i64 m1.fail)
  have ho5 := ho4.keeps hk5 (by simp) (by simp; omega)
  have hbw5 : Below w.heap.size w _ := hbw4.trans (hk5.below hbw4.size (by simp))
  have c0 := hr4.c0
  have c1 := hr4.c1
  have c2 := hr4.c2
  have f0 := hr4.f0
  have f1 := hr4.f1
  have f2 := hr4.f2
  unfold MR.val
  clear h1 h2 h3 hbl hb4 hr4 ho4 hk5 hbw4
  go_wp2_with fail
  generalize ((w4.setCell ⟨w.heap.size, 0, none⟩ (.string (str m1.bits))).setCell ⟨w.heap.size, 1, none⟩ (.int .i64 m1.all)).setCell ⟨w.heap.size, 2, none⟩ (.int .i64 m1.fail) = W5 at hr5 ho5 hbw5 ⊢
  clear c0 c1 c2 f0 f1 f2 hz
  have hRlt := hr5.lt
  unfold MR.val at HG
  have HPL : Hid (∃ (m2 : MR) (W6 : World), Hid (m1.form n p = m2) ∧ m2.bits.length ≤ 1000000000 ∧ True) := Lib.hid ⟨m1.form n p, W5, Lib.hid rfl, by rw [HFM.out]; split; exact (by unfold MR.give; split <;> exact hlen1); exact hlen1, trivial⟩
  by_cases hd : n % cnt = 0
  · have tm : ((n : Int) % (cnt : Int) != 0) = false := by rw [bne_eq_false_iff_eq]; omega
    go_wp2_with (go_at_call 29; refine (HP _).out.mono ?_; rintro e wz ⟨rfl, rfl⟩)
    obtain ⟨hR0, hO0, hBW⟩ := trel_start (p := p) hr5 ho5 hbw5
    have HFE : Hid (m1.form n p = m1) := Lib.hid (by rw [HFM.out, if_neg (by omega)])
    rw [HFE.out] at HSB
    have hXlt := ho5.lt
    clear hr5 ho5 hbw5 HPL HFM HG HT
    obtain ⟨XB, hXB⟩ : ∃ XB, XB = W5.heap.size := ⟨_, rfl⟩
    rw [← hXB] at hR0 hXlt ⊢
    generalize W5.alloc (.cells #[.int .i64 (p : Int), .slice none 0 0] 71) = W0 at hR0 hO0 hBW ⊢
    clear hXB
    have HR0 := Lib.hid hR0
    have HO0 := Lib.hid hO0
    have HBW := Lib.hid hBW
    have hlt0 := hR0.lt
    clear hR0 hO0 hBW
    go_loopg [9, 10] cnt (fun gk lv iv wr => ∃ (i : Nat) (mi : MR) (kv : Value) (ls ks : List Int), i ≤ cnt ∧ gk + i = cnt ∧ iv = .int .i64 i ∧ Hid (TRel W0 w.heap.size XB p mi lv kv ls ks wr) ∧ Hid (MR.body size cnt m1 = ((MR.body size (cnt - i) mi).1, ls ++ (MR.body size (cnt - i) mi).2.1, ks ++ (MR.body size (cnt - i) mi).2.2)) ∧ Hid (ls.length ≤ i * size ∧ ks.length = i ∧ mi.bits.length ≤ 1000000000))
    case atStart => exact ⟨0, m1, _, [], [], by omega, by omega, rfl, HR0, Lib.hid (by simp), Lib.hid ⟨by simp, rfl, hlen1⟩⟩
    case round =>
      obtain ⟨i, mi, kv, ls, ks, hic, hgk, rfl, HT, HB, HLs⟩ := hrel
      have HGK := Lib.hid hgk
      obtain ⟨hls, hks, hmb⟩ := HLs.out
      have hkl : ks.length ≤ 8 := by omega
      have hll : ls.length ≤ 8192 := Nat.le_trans hls (Nat.le_trans (Nat.mul_le_mul (show i ≤ 8 by omega) hsz) (by decide))
      have HKS := Lib.hid hks
      have HLL := Lib.hid hls
      have c0 := HT.out.r.c0
      have c1 := HT.out.r.c1
      have c2 := HT.out.r.c2
      have f0 := HT.out.r.f0
      have f1 := HT.out.r.f1
      have f2 := HT.out.r.f2
      have x1 := HT.out.x1
      have xf := HT.out.xf
      clear hgk hks hls HLs
      by_cases hlt : i < cnt
      · by_cases hf : mi.fail = 0
        · have t5 : (mi.fail == 0) = true := by rw [hf]; rfl
          have HT5 := fun W => Lib.hid (mTake mi 5 W hmb)
          have hk32 := (MR.take_val mi).2
          have hlen5 := Nat.le_trans (take_len mi 5) hmb
          have HBN : Hid (MR.body size (cnt - i) mi = ((MR.body size (cnt - (i + 1)) (mi.partM size).1).1, (mi.partM size).2 ++ (MR.body size (cnt - (i + 1)) (mi.partM size).1).2.1, (((mi.take 5).2 : Nat) : Int) :: (MR.body size (cnt - (i + 1)) (mi.partM size).1).2.2)) := Lib.hid (by
            rw [show cnt - i = (cnt - (i + 1)) + 1 by omega, MR.body, if_neg (by simpa using hf)])
          have HPM : Hid (mi.partM size = MR.many ((mi.take 5).2 : Nat) size (mi.take 5).1) := Lib.hid rfl
          generalize (mi.take 5).1 = m5 at HT5 hlen5 HPM
          generalize (mi.take 5).2 = k at HT5 hk32 HBN HPM
          unfold MR.val at HT5
          clear hf
          go_wp2_with (go_at_call 29; refine (HP _).out.mono ?_; rintro e wz ⟨rfl, rfl⟩)
          refine (HT5 _).out.mono ?_
          rintro e w5 ⟨rfl, hb5⟩
          unfold MR.val
          have hT6 := HT.out.read hb5 (.cells #[.string (str m5.bits), .int .i64 m5.all, .int .i64 m5.fail] 50) m5
          have hr6 := (HT.out.r.keeps (keeps_of_below hb5 []) (by simp)).keeps (keeps_of_below (box_below w5 (.cells #[.string (str m5.bits), .int .i64 m5.all, .int .i64 m5.fail] 50)) []) (by simp)
          have d0 := hr6.c0
          have d1 := hr6.c1
          have d2 := hr6.c2
          have g0 := hr6.f0
          have g1 := hr6.f1
          have g2 := hr6.f2
          have hx5 := hT6.x1
          have hnew := new_one (((((w5.alloc (.cells #[.string (str m5.bits), .int .i64 m5.all, .int .i64 m5.fail] 50)).setCell ⟨w.heap.size, 0, none⟩ (.string (str m5.bits))).setCell ⟨w.heap.size, 1, none⟩ (.int .i64 m5.all)).setCell ⟨w.heap.size, 2, none⟩ (.int .i64 m5.fail))) (k : Int) (b := w5.heap.size + 1) (by simp)
          have hT6k := hT6.kown
          have hszW := Nat.le_trans HT.out.kp.size hb5.size
          go_wp2_with (at_builtin; refine wpList_append_own2 _ rfl _ _ 22 rfl W0.heap.size 3 i0 (.int .i64 0) 1 8 Tryz.underlying22 hi hz0 hz1 hz2 rfl (by decide) _ _ _ rfl (hT6k.alloc _) ⟨w5.heap.size + 1, 0, none⟩ 1 1 [.int .i64 (k : Int)] rfl rfl hnew ?c2 ?c3 ?c4 ?c5 ?_)
          case c2 => intro u hu; simp at hu; subst hu; rfl
          case c3 => unfold maxLen; omega
          case c4 => omega
          case c5 => simp; omega
          intro kv' w7 hown7 hgrow7 hat7
          obtain ⟨ka7, kc7, rfl⟩ := own_slice hown7
          have hk7 : Keeps kv.ownBlock.toList (((((w5.alloc (.cells #[.string (str m5.bits), .int .i64 m5.all, .int .i64 m5.fail] 50)).setCell ⟨w.heap.size, 0, none⟩ (.string (str m5.bits))).setCell ⟨w.heap.size, 1, none⟩ (.int .i64 m5.all)).setCell ⟨w.heap.size, 2, none⟩ (.int .i64 m5.fail))) w7 := (keeps_of_below (box_below _ _) _).trans (keeps_grownBy hgrow7)
          have hT7 := hT6.pushK (k := (k : Int)) hk7 hown7 (hat7.imp id (fun ⟨g, e, h⟩ => ⟨g, e, Nat.le_trans (by simp) h⟩))
          have hxn : XB ∉ kv.ownBlock.toList := fun hm => by have := (own_block_lt hT6k XB (by simpa using hm)).1; omega
          have q1 := (hk7.cell (p := ⟨XB, 1, none⟩) (by simp; omega) hxn).trans hT6.x1
          have q2 := (hk7.frozen (p := ⟨XB, 1, none⟩) (by simp; omega) hxn).trans hT6.xf
          clear hnew hT6k hk7 hown7 hgrow7 hat7 hT6 hr6 d0 d1 d2 g0 g1 g2 hb5 hx5 hxn
          go_wp2_with fail
          generalize w7.setCell ⟨XB, 1, none⟩ (.slice ka7 (ks.length + 1) kc7) = W8 at hT7 ⊢
          have HT7 := Lib.hid hT7
          have HBw : Hid (TRel W0 w.heap.size XB p mi u9 kv ls ks wr) := HT
          clear hT7 c0 c1 c2 f0 f1 f2 x1 xf q1 q2 hszW HT5 t5 HT
          go_loopg [9, 13] size (fun gi lv iv w9 => ∃ (j : Nat) (mj : MR) (vs : List Int), j ≤ size ∧ gi + j = size ∧ iv = .int .i64 j ∧ Hid (TRel W0 w.heap.size XB p mj lv (.slice ka7 (ks.length + 1) kc7) (ls ++ vs) (ks ++ [(k : Int)]) w9) ∧ Hid (MR.many k size m5 = ((MR.many k (size - j) mj).1, vs ++ (MR.many k (size - j) mj).2)) ∧ Hid (vs.length ≤ j ∧ mj.bits.length ≤ 1000000000))
          case atStart => exact ⟨0, m5, [], by omega, by omega, rfl, by rw [List.append_nil]; exact HT7, Lib.hid (by simp), Lib.hid ⟨by simp, hlen5⟩⟩
          case round =>
            obtain ⟨j, mj, vs, hjs, hgi, rfl, HT, HMN, HVs⟩ := hrel
            have HGI := Lib.hid hgi
            obtain ⟨hvs, hmbj⟩ := HVs.out
            have c0 := HT.out.r.c0
            have c1 := HT.out.r.c1
            have c2 := HT.out.r.c2
            have f0 := HT.out.r.f0
            have f1 := HT.out.r.f1
            have f2 := HT.out.r.f2
            clear hgi HVs HT7
            have HEXIT : Hid (MR.many k (size - j) mj = (mj, []) → ∃ (mi' : MR) (kv' : Value) (ls' ks' : List Int), Hid (TRel W0 w.heap.size XB p mi' u9 kv' ls' ks' wr) ∧ Hid (MR.body size cnt m1 = ((MR.body size (cnt - (i + 1)) mi').1, ls' ++ (MR.body size (cnt - (i + 1)) mi').2.1, ks' ++ (MR.body size (cnt - (i + 1)) mi').2.2)) ∧ Hid (ls'.length ≤ (i + 1) * size ∧ ks'.length = i + 1 ∧ mi'.bits.length ≤ 1000000000)) := Lib.hid (by
              intro he
              refine ⟨mj, _, _, _, HT, Lib.hid ?_, Lib.hid ⟨?_, by simp [HKS.out], hmbj⟩⟩
              · have hpm : mi.partM size = (mj, vs) := by rw [HPM.out, HMN.out, he]; simp
                rw [HB.out, HBN.out, hpm]
                simp
              · have := HLL.out
                rw [List.length_append, Nat.add_mul]; omega)
            by_cases hjl : j < size
            · by_cases hfj : mj.fail = 0
              · have t6 : (mj.fail == 0) = true := by rw [hfj]; rfl
                have HRC := fun W => Lib.hid (mRice mj k W hmbj)
                have hlenr := Nat.le_trans (rice_lenS mj k) hmbj
                have HMN2 : Hid (MR.many k (size - j) mj = ((MR.many k (size - (j + 1)) (mj.rice k).1).1, (mj.rice k).2 :: (MR.many k (size - (j + 1)) (mj.rice k).1).2)) := Lib.hid (by
                  rw [show size - j = (size - (j + 1)) + 1 by omega, MR.many, if_neg (by simpa using hfj)])
                generalize (mj.rice k).1 = mr at HRC hlenr HMN2
                generalize (mj.rice k).2 = v at HRC HMN2
                unfold MR.val at HRC
                clear hfj HEXIT
                go_wp2_with (go_at_call 29; refine (HP _).out.mono ?_; rintro e wz ⟨rfl, rfl⟩)
                refine (HRC _).out.mono ?_
                rintro e w5 ⟨rfl, hb5⟩
                unfold MR.val
                have hT6 := HT.out.read hb5 (.cells #[.string (str mr.bits), .int .i64 mr.all, .int .i64 mr.fail] 50) mr
                have hr6 := (HT.out.r.keeps (keeps_of_below hb5 []) (by simp)).keeps (keeps_of_below (box_below w5 (.cells #[.string (str mr.bits), .int .i64 mr.all, .int .i64 mr.fail] 50)) []) (by simp)
                have d0 := hr6.c0
                have d1 := hr6.c1
                have d2 := hr6.c2
                have g0 := hr6.f0
                have g1 := hr6.f1
                have g2 := hr6.f2
                have hnew := new_one (((((w5.alloc (.cells #[.string (str mr.bits), .int .i64 mr.all, .int .i64 mr.fail] 50)).setCell ⟨w.heap.size, 0, none⟩ (.string (str mr.bits))).setCell ⟨w.heap.size, 1, none⟩ (.int .i64 mr.all)).setCell ⟨w.heap.size, 2, none⟩ (.int .i64 mr.fail))) v (b := w5.heap.size + 1) (by simp)
                have hT6l := hT6.lown
                have hszW := Nat.le_trans HT.out.kp.size hb5.size
                have hlv : (ls ++ vs).length ≤ 20000 := by rw [List.length_append]; omega
                go_wp2_with (at_builtin; refine wpList_append_own2 _ rfl _ _ 22 rfl W0.heap.size 3 i0 (.int .i64 0) 1 8 Tryz.underlying22 hi hz0 hz1 hz2 rfl (by decide) _ _ _ rfl (hT6l.alloc _) ⟨w5.heap.size + 1, 0, none⟩ 1 1 [.int .i64 v] rfl rfl hnew ?c2 ?c3 ?c4 ?c5 ?_)
                case c2 => intro u hu; simp at hu; subst hu; rfl
                case c3 => unfold maxLen; omega
                case c4 => omega
                case c5 => simp; omega
                intro lv' w7 hown7 hgrow7 hat7
                rw [← List.length_append] at hown7
                have hk7 : Keeps u9.ownBlock.toList (((((w5.alloc (.cells #[.string (str mr.bits), .int .i64 mr.all, .int .i64 mr.fail] 50)).setCell ⟨w.heap.size, 0, none⟩ (.string (str mr.bits))).setCell ⟨w.heap.size, 1, none⟩ (.int .i64 mr.all)).setCell ⟨w.heap.size, 2, none⟩ (.int .i64 mr.fail))) w7 := (keeps_of_below (box_below _ _) _).trans (keeps_grownBy hgrow7)
                have hT7 := hT6.pushL (v := v) hk7 hown7 (hat7.imp id (fun ⟨g, e, h⟩ => ⟨g, e, Nat.le_trans (by simp) h⟩))
                rw [List.append_assoc] at hT7
                have HT8 := Lib.hid hT7
                clear hnew hT6l hk7 hown7 hgrow7 hat7 hT6 hr6 d0 d1 d2 g0 g1 g2 hb5 c0 c1 c2 f0 f1 f2 hT7
                go_wp2
                go_roundg (size - (j + 1))
                case rel => exact ⟨j + 1, mr, vs ++ [v], by omega, by omega, by go_num, HT8, Lib.hid (by rw [HMN.out, HMN2.out]; simp), Lib.hid ⟨by rw [List.length_append]; simp; omega, hlenr⟩⟩
                case measure => have := HGI.out; omega
              · have t6 : (mj.fail == 0) = false := beq_eq_false_iff_ne.2 hfj
                have HEX := Lib.hid (HEXIT.out (by rw [show size - j = (size - (j + 1)) + 1 by omega, MR.many, if_pos hfj]))
                clear HEXIT hfj
                go_wp2_with (go_at_call 29; refine (HP _).out.mono ?_; rintro e wz ⟨rfl, rfl⟩)
                obtain ⟨mi', kv', ls', ks', H1, H2, H3⟩ := HEX.out
                go_roundg (cnt - (i + 1))
                case rel => exact ⟨i + 1, mi', kv', ls', ks', by omega, by omega, by go_num, H1, H2, H3⟩
                case measure => have := HGK.out; omega
            · obtain rfl : j = size := by omega
              have HEX := Lib.hid (HEXIT.out (by rw [Nat.sub_self]; rfl))
              clear HEXIT
              go_wp2_with (go_at_call 29; refine (HP _).out.mono ?_; rintro e wz ⟨rfl, rfl⟩)
              obtain ⟨mi', kv', ls', ks', H1, H2, H3⟩ := HEX.out
              go_roundg (cnt - (i + 1))
              case rel => exact ⟨i + 1, mi', kv', ls', ks', by omega, by omega, by go_num, H1, H2, H3⟩
              case measure => have := HGK.out; omega
        · have HSD : Hid (m1.slideB n p = (mi, [], 0, [])) := Lib.hid (by
            have hb : MR.body size (cnt - i) mi = (mi, [], []) := MR.body_spent hf size _
            rw [HSB.out, HB.out, hb, if_pos hf])
          have ho := HO0.out.keeps HT.out.kp (by simp; omega) (by simp; omega)
          obtain ⟨⟨_, e0, e1, e2, g0, g1, g2⟩, e3, e4, g3, g4, hB6, _⟩ := id ho
          obtain ⟨hk, y0, y1, y2, y3, y4⟩ := setM_is ho (.string (str mi.bits)) (.int .i64 mi.all) (.int .i64 mi.fail) (.int .i64 0) (.slice none 0 0)
          have hBr : Below w.heap.size w wr := HBW.out.trans (HT.out.kp.below HBW.out.size (by intro x hx; simp at hx; omega))
          have HF : Hid (MTakeIs (m1.slideB n p) w (.returned (.tuple #[mi.val, .slice none 0 0, .agg #[.int .i64 0, .slice none 0 0]])) (setM wr (w.heap.size + 1) (w.heap.size + 1 + 1) (.string (str mi.bits)) (.int .i64 mi.all) (.int .i64 mi.fail) (.int .i64 0) (.slice none 0 0))) := Lib.hid (by
            rw [HSD.out]
            exact ⟨none, 0, none, 0, rfl, (fun j hj => by simp at hj), (fun j hj => by simp at hj), hBr.trans (hk.below hBr.size (by intro x hx; simp at hx; omega)), fresh_none _, fresh_none _, Nat.le_refl _, Nat.le_refl _⟩)
          unfold setM at y0 y1 y2 y3 y4 HF
          unfold MR.val at HF
          have t5 : (mi.fail == 0) = false := beq_eq_false_iff_ne.2 hf
          have t7 : (mi.fail != 0) = true := bne_iff_ne.2 hf
          clear hf ho hk hBr HSD HB
          generalize str mi.bits = gs at *
          generalize mi.all = ga at *
          generalize mi.fail = gf at *
          go_wp2_with (go_at_call 29; refine (HP _).out.mono ?_; rintro e wz ⟨rfl, rfl⟩)
          refine bodyPost_ret (v := .tuple #[.agg #[.string gs, .int .i64 ga, .int .i64 gf], .slice none 0 0, .agg #[.int .i64 0, .slice none 0 0]]) ?_ rfl ?_
          · simp [results, Tryz.results54, go_sem, y0, y1, y2, y3, y4]
          · exact HF.out
      · obtain rfl : i = cnt := by omega
        by_cases hf : mi.fail = 0
        · have HSD : Hid (m1.slideB n p = (mi, ls, p, ks)) := Lib.hid (by
            have hb : MR.body size (i - i) mi = (mi, [], []) := by rw [Nat.sub_self]; rfl
            rw [HSB.out, HB.out, hb, if_neg (by simpa using hf)]
            simp)
          obtain ⟨la, lc, hlv⟩ := own_slice HT.out.lown
          obtain ⟨ka, kc, hkv⟩ := own_slice HT.out.kown
          subst hlv
          subst hkv
          have ho := HO0.out.keeps HT.out.kp (by simp; omega) (by simp; omega)
          obtain ⟨⟨_, e0, e1, e2, g0, g1, g2⟩, e3, e4, g3, g4, hB6, _⟩ := id ho
          obtain ⟨hk, y0, y1, y2, y3, y4⟩ := setM_is ho (.string (str mi.bits)) (.int .i64 mi.all) (.int .i64 mi.fail) (.int .i64 (p : Int)) (.slice ka ks.length kc)
          have hBr : Below w.heap.size w wr := HBW.out.trans (HT.out.kp.below HBW.out.size (by intro x hx; simp at hx; omega))
          have HF : Hid (MTakeIs (m1.slideB n p) w (.returned (.tuple #[mi.val, .slice la ls.length lc, .agg #[.int .i64 (p : Int), .slice ka ks.length kc]])) (setM wr (w.heap.size + 1) (w.heap.size + 1 + 1) (.string (str mi.bits)) (.int .i64 mi.all) (.int .i64 mi.fail) (.int .i64 (p : Int)) (.slice ka ks.length kc)).drew) := Lib.hid (by
            rw [HSD.out]
            have hkd := hk.trans (keeps_drew_b _ _)
            refine ⟨la, lc, ka, kc, rfl, (ints_own_any HT.out.lown).keeps hkd ?_, (ints_own_any HT.out.kown).keeps hkd ?_, hBr.trans (hkd.below hBr.size (by intro x hx; simp at hx; omega)), fun g off hh => ?_, fun g off hh => ?_, own_cap HT.out.lown, own_cap HT.out.kown⟩
            · intro g off hh
              subst hh
              have := (own_block_lt HT.out.lown g rfl).1
              simp; omega
            · intro g off hh
              subst hh
              have := (own_block_lt HT.out.kown g rfl).1
              simp; omega
            · subst hh
              have := (own_block_lt HT.out.lown g rfl).1
              have := HBW.out.size
              omega
            · subst hh
              have := (own_block_lt HT.out.kown g rfl).1
              have := HBW.out.size
              omega)
          have x0 := HT.out.x0
          unfold setM at y0 y1 y2 y3 y4 HF
          unfold MR.val at HF
          have t7 : (mi.fail != 0) = false := by rw [hf]; rfl
          clear hf ho hk hBr HSD HB HBW
          generalize str mi.bits = gs at *
          generalize mi.all = ga at *
          generalize mi.fail = gf at *
          generalize ls.length = lsl at *
          generalize ks.length = ksl at *
          go_wp2_with (go_at_call 29; refine (HP _).out.mono ?_; rintro e wz ⟨rfl, rfl⟩)
          go_region
          go_wp2
          refine bodyPost_ret (v := .tuple #[.agg #[.string gs, .int .i64 ga, .int .i64 gf], .slice la lsl lc, .agg #[.int .i64 (p : Int), .slice ka ksl kc]]) ?_ rfl ?_
          · simp [results, Tryz.results54, go_sem, y0, y1, y2, y3, y4]
          · exact HF.out
        · have HSD : Hid (m1.slideB n p = (mi, [], 0, [])) := Lib.hid (by
            have hb : MR.body size (i - i) mi = (mi, [], []) := MR.body_spent hf size _
            rw [HSB.out, HB.out, hb, if_pos hf])
          have ho := HO0.out.keeps HT.out.kp (by simp; omega) (by simp; omega)
          obtain ⟨⟨_, e0, e1, e2, g0, g1, g2⟩, e3, e4, g3, g4, hB6, _⟩ := id ho
          obtain ⟨hk, y0, y1, y2, y3, y4⟩ := setM_is ho (.string (str mi.bits)) (.int .i64 mi.all) (.int .i64 mi.fail) (.int .i64 0) (.slice none 0 0)
          have hBr : Below w.heap.size w wr := HBW.out.trans (HT.out.kp.below HBW.out.size (by intro x hx; simp at hx; omega))
          have HF : Hid (MTakeIs (m1.slideB n p) w (.returned (.tuple #[mi.val, .slice none 0 0, .agg #[.int .i64 0, .slice none 0 0]])) (setM wr (w.heap.size + 1) (w.heap.size + 1 + 1) (.string (str mi.bits)) (.int .i64 mi.all) (.int .i64 mi.fail) (.int .i64 0) (.slice none 0 0))) := Lib.hid (by
            rw [HSD.out]
            exact ⟨none, 0, none, 0, rfl, (fun j hj => by simp at hj), (fun j hj => by simp at hj), hBr.trans (hk.below hBr.size (by intro x hx; simp at hx; omega)), fresh_none _, fresh_none _, Nat.le_refl _, Nat.le_refl _⟩)
          unfold setM at y0 y1 y2 y3 y4 HF
          unfold MR.val at HF
          have t5 : (mi.fail == 0) = false := beq_eq_false_iff_ne.2 hf
          have t7 : (mi.fail != 0) = true := bne_iff_ne.2 hf
          clear hf ho hk hBr HSD HB
          generalize str mi.bits = gs at *
          generalize mi.all = ga at *
          generalize mi.fail = gf at *
          go_wp2_with (go_at_call 29; refine (HP _).out.mono ?_; rintro e wz ⟨rfl, rfl⟩)
          refine bodyPost_ret (v := .tuple #[.agg #[.string gs, .int .i64 ga, .int .i64 gf], .slice none 0 0, .agg #[.int .i64 0, .slice none 0 0]]) ?_ rfl ?_
          · simp [results, Tryz.results54, go_sem, y0, y1, y2, y3, y4]
          · exact HF.out
  · have tm : ((n : Int) % (cnt : Int) != 0) = true := by rw [bne_iff_ne]; omega
    have c0 := hr5.c0
    have c1 := hr5.c1
    have c2 := hr5.c2
    have f0 := hr5.f0
    have f1 := hr5.f1
    have f2 := hr5.f2
    go_wp2_with (go_at_call 29; refine (HP _).out.mono ?_; rintro e wz ⟨rfl, rfl⟩)
    have HFE : Hid (m1.form n p = m1.give 2) := Lib.hid (by rw [HFM.out, if_pos hd])
    rw [HFE.out] at HSB
    have hgf : (m1.give 2).fail ≠ 0 := give_fail _ 2 (by decide)
    generalize m1.give 2 = mi at HG HSB hgf
    refine (HG _).out.mono ?_
    rintro e w6 ⟨rfl, hb6⟩
    have hr6 := hr5.keeps (keeps_of_below hb6 []) (by simp)
    have ho6 := ho5.keeps (keeps_of_below hb6 []) (by simp) (by simp)
    have hbw6 := hbw5.trans (hb6.mono hbw5.size)
    obtain ⟨hr7, hk7⟩ := hr6.set3 (.string (str mi.bits)) (.int .i64 mi.all) (.int .i64 mi.fail)
    have ho7 := ho6.keeps hk7 (by simp) (by simp; omega)
    have hbw7 := hbw6.trans (hk7.below hbw6.size (by simp))
    obtain ⟨hR0, hO0, hBW⟩ := trel_start (p := p) hr7 ho7 hbw7
    have c0 := hr6.c0
    have c1 := hr6.c1
    have c2 := hr6.c2
    have f0 := hr6.f0
    have f1 := hr6.f1
    have f2 := hr6.f2
    have hXlt := ho7.lt
    clear hr5 ho5 hbw5 HPL HFM HG HT hr6 ho6 hbw6 hr7 ho7 hbw7 hk7 hb6
    go_wp2_with fail
    rw [show (((w6.setCell ⟨w.heap.size, 0, none⟩ (.string (str mi.bits))).setCell ⟨w.heap.size, 1, none⟩ (.int .i64 mi.all)).setCell ⟨w.heap.size, 2, none⟩ (.int .i64 mi.fail)).heap.size = w6.heap.size by simp] at hR0 hXlt
    generalize (((w6.setCell ⟨w.heap.size, 0, none⟩ (.string (str mi.bits))).setCell ⟨w.heap.size, 1, none⟩ (.int .i64 mi.all)).setCell ⟨w.heap.size, 2, none⟩ (.int .i64 mi.fail)).alloc (.cells #[.int .i64 (p : Int), .slice none 0 0] 71) = W0 at hR0 hO0 hBW ⊢
    have HSD : Hid (m1.slideB n p = (mi, [], 0, [])) := Lib.hid (by rw [HSB.out, MR.body_spent hgf, if_pos hgf])
    obtain ⟨⟨_, e0, e1, e2, g0, g1, g2⟩, e3, e4, g3, g4, hB6, _⟩ := id hO0
    obtain ⟨hk, y0, y1, y2, y3, y4⟩ := setM_is hO0 (.string (str mi.bits)) (.int .i64 mi.all) (.int .i64 mi.fail) (.int .i64 0) (.slice none 0 0)
    have HF : Hid (MTakeIs (m1.slideB n p) w (.returned (.tuple #[mi.val, .slice none 0 0, .agg #[.int .i64 0, .slice none 0 0]])) (setM W0 (w.heap.size + 1) (w.heap.size + 1 + 1) (.string (str mi.bits)) (.int .i64 mi.all) (.int .i64 mi.fail) (.int .i64 0) (.slice none 0 0))) := Lib.hid (by
      rw [HSD.out]
      exact ⟨none, 0, none, 0, rfl, (fun j hj => by simp at hj), (fun j hj => by simp at hj), hBW.trans (hk.below hBW.size (by intro x hx; simp at hx; omega)), fresh_none _, fresh_none _, Nat.le_refl _, Nat.le_refl _⟩)
    unfold setM at y0 y1 y2 y3 y4 HF
    unfold MR.val at HF
    have t5 : (mi.fail == 0) = false := beq_eq_false_iff_ne.2 hgf
    have t7 : (mi.fail != 0) = true := bne_iff_ne.2 hgf
    have d0 := hR0.r.c0
    have d1 := hR0.r.c1
    have d2 := hR0.r.c2
    clear hgf hO0 hk hBW HSD HSB hR0 c0 c1 c2 f0 f1 f2
    generalize str mi.bits = gs at *
    generalize mi.all = ga at *
    generalize mi.fail = gf at *
    go_loopg [10] 1 (fun gk iv wr => ∃ i : Nat, i < cnt ∧ iv = .int .i64 i ∧ wr = W0)
    case atStart => exact ⟨0, by omega, rfl, rfl⟩
    case round =>
      obtain ⟨i, hlt, rfl, rfl⟩ := hrel
      clear hXlt hd tm hmod
      go_wp2_with (go_at_call 29; refine (HP _).out.mono ?_; rintro e wz ⟨rfl, rfl⟩)
      refine bodyPost_ret (v := .tuple #[.agg #[.string gs, .int .i64 ga, .int .i64 gf], .slice none 0 0, .agg #[.int .i64 0, .slice none 0 0]]) ?_ rfl ?_
      · simp [results, Tryz.results54, go_sem, y0, y1, y2, y3, y4]
      · exact HF.out

/-- Take, of the document. -/
theorem mSlide (m : MR) (n : Int) (w : World) (hb : m.bits.length ≤ 1000000000) : Calls Tryz.prog 54 #[m.val, .int .i64 n] w (MTakeIs (m.slide n) w) := by
  unfold MR.slide
  by_cases hn : n < 1 ∨ 1024 < n
  · rw [if_pos hn]; exact mSlide_no m n w hn
  · rw [if_neg hn]
    obtain ⟨k, rfl⟩ := Int.eq_ofNat_of_zero_le (show 0 ≤ n by omega)
    rw [Int.toNat_natCast]
    exact mSlide_yes m k w hb (by omega) (by omega)
end Go.Proofs.YtefbakhhlonafaaGreat
