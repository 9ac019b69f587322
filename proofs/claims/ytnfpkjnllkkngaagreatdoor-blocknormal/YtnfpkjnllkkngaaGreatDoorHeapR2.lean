import Derived.Test.YtnfpkjnllkkngaaGreatDoorHeapR
import Derived.Deep.AppendLies
import Derived.Deep.RegionLaw

namespace Go.Proofs.YtnfpkjnllkkngaaGreatDoor
open Go.RowKit Go.Proofs Go.Proofs.PipeM Go.Proofs.PipeA Go.Proofs.HeapM
set_option maxRecDepth 100000

theorem own_less {w : World} {base g cap : Nat} {e : TypeId} {l : List (Nat × Nat)} {x : Nat × Nat} (h : w.ownsRow base e 2 (.slice (some ⟨g, 0, none⟩) (l ++ [x]).length cap) (l ++ [x]).length (tcells (l ++ [x]))) :
    w.ownsRow base e 2 (.slice (some ⟨g, 0, none⟩) l.length cap) l.length (tcells l) := by
  refine ⟨tcells_length l, ?_⟩
  rcases h.2 with ⟨h', _⟩ | ⟨g', cap', cur, h', hb, hg, hn, hm, hs, ht⟩
  · simp at h'
  · simp only [Value.slice.injEq, Option.some.injEq, Addr.mk.injEq, and_true, true_and] at h'
    obtain ⟨rfl, rfl⟩ := h'
    refine Or.inr ⟨g, cap, cur, rfl, hb, hg, by simp at hn; omega, hm, hs, ?_⟩
    have : (cur.toList.take ((l ++ [x]).length * 2)).take (l.length * 2) = (tcells (l ++ [x])).take (l.length * 2) := by rw [ht]
    rw [List.take_take, tcells_app] at this
    rw [show min (l.length * 2) ((l ++ [x]).length * 2) = l.length * 2 by simp, ← tcells_length, List.take_left' rfl] at this
    rw [← tcells_length]; exact this

theorem pop_at {w : World} {b g cap : Nat} {l : List (Nat × Nat)} {x : Nat × Nat} (o : Obj) (h : TrAt w b (.slice (some ⟨g, 0, none⟩) (l ++ [x]).length cap) (l ++ [x])) :
    TrAt ((w.setCell ⟨b, 0, none⟩ (.slice (some ⟨g, 0, none⟩) l.length cap)).alloc o) b (.slice (some ⟨g, 0, none⟩) l.length cap) l := by
  have hown := own_less h.own
  have hlt := h.lt
  have hb2 := (Below.refl (w.setCell ⟨b, 0, none⟩ (.slice (some ⟨g, 0, none⟩) l.length cap)).heap.size (w.setCell ⟨b, 0, none⟩ (.slice (some ⟨g, 0, none⟩) l.length cap))).alloc (Nat.le_refl _) o
  refine ⟨by simp; omega, ?_, ?_, ?_, (ownsRow_setCell_below (a := ⟨b, 0, none⟩) hown (Nat.lt_succ_self b) _).alloc _, by have := h.len; simp at this; omega⟩
  · rw [hb2.cell (p := ⟨b, 0, none⟩) (by simpa using hlt), World.cell?_setCell_same _ _ _ h.c0]
  · rw [hb2.cell (p := ⟨b, 1, none⟩) (by simpa using hlt), World.cell?_setCell_other _ _ _ _ (by simp), h.c1]
  · rw [hb2.frozen (p := ⟨b, 0, none⟩) (by simpa using hlt), World.frozen?_setCell, h.f0]

theorem push_at {w w1 : World} {b g cap : Nat} {v : Value} {l : List (Nat × Nat)} {x : Nat × Nat} (hl : l.length < 100) (h : TrAt w b v l) (hk : Keeps v.ownBlock.toList w w1)
    (hown : w1.ownsRow (b + 1) 123 2 (.slice (some ⟨g, 0, none⟩) (l.length + 1) cap) (l.length + 1) (tcells l ++ [.int .i64 (x.1 : Nat), .int .i64 (x.2 : Nat)])) :
    TrAt (w1.setCell ⟨b, 0, none⟩ (.slice (some ⟨g, 0, none⟩) (l.length + 1) cap)) b (.slice (some ⟨g, 0, none⟩) (l.length + 1) cap) (l ++ [x]) ∧ Keeps (b :: v.ownBlock.toList) w (w1.setCell ⟨b, 0, none⟩ (.slice (some ⟨g, 0, none⟩) (l.length + 1) cap)) := by
  have hge := ownBlock_ge h.own
  have hb : b ∉ v.ownBlock.toList := fun hm => by have := hge b hm; omega
  have hlt := h.lt
  have hsz := hk.size
  refine ⟨⟨by simp; omega, ?_, ?_, ?_, ?_, by simp; omega⟩, ?_⟩
  · exact World.cell?_setCell_same _ _ _ ((hk.cell (p := ⟨b, 0, none⟩) hlt hb).trans h.c0)
  · rw [World.cell?_setCell_other _ _ _ _ (by simp), hk.cell (p := ⟨b, 1, none⟩) hlt hb, h.c1]
  · rw [World.frozen?_setCell, hk.frozen (p := ⟨b, 0, none⟩) hlt hb, h.f0]
  · rw [tcells_app, List.length_append]
    exact ownsRow_setCell_below (a := ⟨b, 0, none⟩) hown (Nat.lt_succ_self b) _
  · refine ⟨hk.os, hk.tape, hk.output, by simpa using hk.size, fun k hk1 hn => ?_⟩
    simp only [List.mem_cons, not_or] at hn
    rw [Below.heap_setCell _ _ _ _ (by simpa using hn.1), hk.block k hk1 hn.2]

set_option maxHeartbeats 1600000 in
theorem tPop (b : Nat) (v : Value) (l : List (Nat × Nat)) (x : Nat × Nat) (w : World) (h : TrAt w b v (l ++ [x])) :
    Calls Tryz.prog 141 #[.pointer (some ⟨b, 0, none⟩)] w fun e w' => e = .returned (.iface 123 (.agg #[.int .i64 (x.1 : Nat), .int .i64 (x.2 : Nat)])) ∧ ∃ v', TrAt w' b v' l ∧ Turned w b v w' v' := by
  have hlen := h.len
  have H := Lib.hid h
  have hc0 := h.c0
  have hf0 := h.f0
  have hblt := h.lt
  obtain ⟨g, cap, rfl, hbg, hg, hlc, hcm, hcell, hfz⟩ := h.row (by simp)
  have hx := hcell l.length (by simp)
  rw [show (l ++ [x])[l.length]! = x by simp] at hx
  obtain ⟨c0, c1⟩ := hx
  obtain ⟨x1, x2⟩ := x
  simp only [List.length_append, List.length_singleton] at hc0 hlen hlc
  unfold maxLen at hcm
  obtain ⟨n, hn⟩ : ∃ n, n = l.length := ⟨_, rfl⟩
  rw [← hn] at hc0 c0 c1 hlen hlc
  have HN := Lib.hid hn
  clear hn hcell hfz h
  go_enter Tryz.func141, Tryz.ntmps141
  go_wp2
  go_ret
  have hn := HN.out
  rw [hn]
  refine ⟨rfl, _, pop_at _ H.out, ⟨rfl, rfl, rfl, by simp, fun k hk1 hn => ?_⟩, Or.inl rfl⟩
  simp only [List.mem_cons, not_or] at hn
  rw [Below.heap_alloc _ _ _ (by simpa using hk1), Below.heap_setCell _ _ _ _ (by simpa using hn.1)]

theorem und_trials : Tryz.prog.underlying 124 = some (.slice 123) := by kernel_rfl
theorem info_trial : (Tryz.prog.info? 123).map (fun i => (i.zero, i.size, i.bytes)) = some (some (.agg #[.int .i64 0, .int .i64 0]), 2, 16) := by kernel_rfl

set_option maxHeartbeats 1600000 in
theorem tPush (b : Nat) (v : Value) (l : List (Nat × Nat)) (x : Nat × Nat) (w : World) (hl : l.length < 100) (h : TrAt w b v l) :
    Calls Tryz.prog 142 #[.pointer (some ⟨b, 0, none⟩), .iface 123 (.agg #[.int .i64 (x.1 : Nat), .int .i64 (x.2 : Nat)])] w fun e w' => e = .returned (.tuple #[]) ∧ ∃ v', TrAt w' b v' (l ++ [x]) ∧ Turned w b v w' v' := by
  obtain ⟨i0, hi, hz0, hz1, hz2⟩ := info_parts info_trial
  have hown := h.own
  have hc0 := h.c0
  have hf0 := h.f0
  have hblt := h.lt
  have hge := ownBlock_ge hown
  have H := Lib.hid h
  have HGE := Lib.hid hge
  obtain ⟨x1, x2⟩ := x
  obtain ⟨n, hn⟩ : ∃ n, n = l.length := ⟨_, rfl⟩
  rw [← hn] at hown hl
  have HN := Lib.hid hn
  clear hn h hge
  go_enter Tryz.func142, Tryz.ntmps142
  have hta : ∀ W : World, (Instr.typeAssert (.iface 123 (.agg #[.int .i64 (x1 : Nat), .int .i64 (x2 : Nat)])) 20 123 false).run Tryz.prog W = .ok (.agg #[.int .i64 (x1 : Nat), .int .i64 (x2 : Nat)]) W := fun _ => by kernel_rfl
  have hob : some b ≠ v.ownBlock := fun e => by have := HGE.out b (by rw [← e]; simp); omega
  have HOB := Lib.hid hob
  have hbo := (Below.refl w.heap.size w).alloc (Nat.le_refl _) (.cells #[.int .i64 (x1 : Nat), .int .i64 (x2 : Nat)] 123)
  have HQ0 := Lib.hid ((hbo.cell (p := ⟨b, 0, none⟩) hblt).trans hc0)
  have HQF := Lib.hid ((hbo.frozen (p := ⟨b, 0, none⟩) hblt).trans hf0)
  have HKO := Lib.hid (keeps_of_below hbo.drew v.ownBlock.toList)
  clear hbo
  clear hob
  go_wp2
  go_region_law (refine step_append_lies _ rfl _ _ 124 rfl (b + 1) 123 i0 (.agg #[.int .i64 0, .int .i64 0]) 2 16 und_trials hi hz0 hz1 hz2 rfl (by decide) v n (tcells l) rfl (hown.alloc (.cells #[.int .i64 x1, .int .i64 x2] 123)) ⟨w.heap.size, 0, none⟩ 1 1 [.int .i64 x1, .int .i64 x2] rfl rfl (World.news_of_block (cs := #[.int .i64 x1, .int .i64 x2]) (t := 123) (fr := (0, 0)) (heap_alloc_new _ _)) (by intro u hu; simp at hu; rcases hu with rfl | rfl <;> rfl) (by decide) (by unfold maxLen; omega) (by omega) (by simp; omega) _ rfl ?_; intro g cap w1 hown1 hgrow hat hlt; have q0 : w1.cell? ⟨b, 0, none⟩ = some v := (hgrow.cell_far ⟨b, 0, none⟩ (by simp; omega) HOB.out).trans HQ0.out; have qf : w1.frozen? ⟨b, 0, none⟩ = false := (hgrow.frozen_far ⟨b, 0, none⟩ (by simp; omega) HOB.out).trans HQF.out; have HK : Hid (Keeps v.ownBlock.toList w w1) := HKO.out.trans (keeps_grownBy hgrow); have HO := Lib.hid hown1; have HAT : Hid (some g = v.ownBlock ∨ w.heap.size ≤ g) := (by rcases hat with h | h; exact Or.inl h.symm; exact Or.inr (by rw [h]; simp)); clear hown1 hgrow hat hlt)
  all_goals
    go_end0
    have h := push_at (x := (x1, x2)) (g := g) (cap := cap) (by have := HN.out; omega) H.out HK.out (by rw [← HN.out]; exact HO.out)
    rw [← HN.out] at h
    refine ⟨rfl, _, h.1, h.2, ?_⟩
    rcases HAT.out with h' | h'
    · exact Or.inl h'
    · exact Or.inr ⟨g, rfl, h'⟩

theorem TrAt.below {w w' : World} {b : Nat} {v : Value} {l : List (Nat × Nat)} (h : TrAt w b v l) (hb : Below w.heap.size w w') : TrAt w' b v l := by
  refine ⟨Nat.lt_of_lt_of_le h.lt hb.size, (hb.cell (p := ⟨b, 0, none⟩) h.lt).trans h.c0, (hb.cell (p := ⟨b, 1, none⟩) h.lt).trans h.c1, (hb.frozen (p := ⟨b, 0, none⟩) h.lt).trans h.f0, ?_, h.len⟩
  refine ⟨h.own.1, ?_⟩
  rcases h.own.2 with h2 | ⟨g, cap, cur, hv', hg, hh, r⟩
  · exact Or.inl h2
  · have hlt : g < w.heap.size := by
      rcases Nat.lt_or_ge g w.heap.size with h5 | h5
      · exact h5
      · rw [Array.getElem?_eq_none h5] at hh; cases hh
    exact Or.inr ⟨g, cap, cur, hv', hg, by rw [hb.block g hlt]; exact hh, r⟩

theorem tOrder : Order tBefore := by
  constructor
  · intro a b h
    unfold tBefore at *
    by_cases e : a.2 = b.2
    · rw [if_neg (by simpa using e)] at h
      rw [if_neg (by simpa using e.symm)]
      have := of_decide_eq_true h
      exact decide_eq_false (by omega)
    · rw [if_pos e] at h
      rw [if_pos (fun h' => e h'.symm)]
      have := of_decide_eq_true h
      exact decide_eq_false (by omega)
  · intro a b c h1 h2
    unfold tBefore at *
    by_cases e1 : b.2 = a.2
    · rw [if_neg (by simpa using e1)] at h1
      have h1' := of_decide_eq_false h1
      by_cases e2 : c.2 = b.2
      · rw [if_neg (by simpa using e2)] at h2
        have h2' := of_decide_eq_false h2
        rw [if_neg (by simpa using e2.trans e1)]
        exact decide_eq_false (by omega)
      · rw [if_pos e2] at h2
        have h2' := of_decide_eq_false h2
        rw [if_pos (by omega)]
        exact decide_eq_false (by omega)
    · rw [if_pos e1] at h1
      have h1' := of_decide_eq_false h1
      by_cases e2 : c.2 = b.2
      · rw [if_neg (by simpa using e2)] at h2
        rw [if_pos (by omega)]
        exact decide_eq_false (by omega)
      · rw [if_pos e2] at h2
        have h2' := of_decide_eq_false h2
        rw [if_pos (by omega)]
        exact decide_eq_false (by omega)

def trialV (x : Nat × Nat) : Value := .agg #[.int .i64 (x.1 : Nat), .int .i64 (x.2 : Nat)]
def trialsV (b : Nat) : Value := .pointer (some ⟨b, 0, none⟩)

/-- The heap at block b, of which the blocks of S are no part. -/
def TrS (S : Nat → Prop) (b : Nat) (l : List (Nat × Nat)) (w : World) : Prop :=
  ∃ v, TrAt w b v l ∧ ¬ S b ∧ (∀ k, S k → k < w.heap.size) ∧ ∀ g, v.ownBlock = some g → ¬ S g

theorem TrS.turned {S : Nat → Prop} {b : Nat} {w w' : World} {v v' : Value} {l' : List (Nat × Nat)} (h' : TrAt w' b v' l') (ht : Turned w b v w' v') (h1 : ¬ S b) (h2 : ∀ k, S k → k < w.heap.size) (h3 : ∀ g, v.ownBlock = some g → ¬ S g) : TrS S b l' w' ∧ HoldsS S w w' := by
  refine ⟨⟨v', h', h1, fun k hk => Nat.lt_of_lt_of_le (h2 k hk) ht.1.size, fun g hg hs => ?_⟩, HoldsS.of_keeps ht.1 fun k hk => ⟨h2 k hk, ?_⟩⟩
  · rcases ht.2 with h | ⟨g', h, hge⟩
    · exact h3 g (by rw [← h, hg]) hs
    · rw [hg] at h; simp at h; have := h2 g hs; omega
  · simp only [List.mem_cons, not_or, Option.mem_toList]
    exact ⟨fun e => h1 (e ▸ hk), fun e => h3 k e hk⟩

def riceOps (S : Nat → Prop) (b : Nat) : HeapOps 119 (trialsV b) 123 trialV tBefore 100 (TrS S b) (HoldsS S) where
  fLen := 139
  fLess := 140
  fSwap := 143
  fPush := 142
  fPop := 141
  refl := HoldsS.refl S
  trans := fun a b c h1 h2 => h1.trans h2
  order := tOrder
  room := fun l w ⟨v, h, _⟩ => h.len
  eLen := fun _ _ => by kernel_rfl
  eLess := fun _ _ => by kernel_rfl
  eSwap := fun _ _ => by kernel_rfl
  ePush := fun _ _ => by kernel_rfl
  ePop := fun _ _ => by kernel_rfl
  mLen := fun _ => by kernel_rfl
  mLess := fun _ => by kernel_rfl
  mSwap := fun _ => by kernel_rfl
  mPush := fun _ => by kernel_rfl
  mPop := fun _ => by kernel_rfl
  len := fun l w ⟨v, h, hr⟩ => (tLen b v l w h).mono fun e w' ⟨h1, h2⟩ => ⟨h1, by rw [← h2]; exact ⟨v, h, hr⟩, by rw [← h2]; exact HoldsS.refl _ _⟩
  less := fun l w i j hi hj ⟨v, h, h1, h2, h3⟩ => (tLess b v l i j w hi hj h).mono fun e w' ⟨q1, q2⟩ => ⟨q1, TrS.turned (v := v) (h.below q2) ⟨keeps_of_below q2 _, Or.inl rfl⟩ h1 h2 h3⟩
  swap := fun l w i j hi hj ⟨v, h, h1, h2, h3⟩ => (tSwap b v l i j w hi hj h).mono fun e w' ⟨q1, q2, q3⟩ => ⟨q1, TrS.turned q2 q3 h1 h2 h3⟩
  push := fun l w x hl ⟨v, h, h1, h2, h3⟩ => (tPush b v l x w hl h).mono fun e w' ⟨q1, v', q2, q3⟩ => ⟨q1, TrS.turned q2 q3 h1 h2 h3⟩
  pop := fun l w x ⟨v, h, h1, h2, h3⟩ => (tPop b v l x w h).mono fun e w' ⟨q1, v', q2, q3⟩ => ⟨q1, TrS.turned q2 q3 h1 h2 h3⟩
end Go.Proofs.YtnfpkjnllkkngaaGreatDoor
