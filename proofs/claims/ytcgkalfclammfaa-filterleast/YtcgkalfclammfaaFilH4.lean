import Derived.Test.YtcgkalfclammfaaFilH3
namespace Go.Proofs.Ytcgkalfclammfaa
open Go.RowKit Go.Proofs Go.Proofs.PipeA Go.Proofs.HeapM
set_option maxRecDepth 100000

theorem push_at {w w1 : World} {m b g cap : Nat} {v : Value} {l : List (Nat × Nat)} {x : Nat × Nat} (hl : l.length < 100) (h : TrAt w m b v l) (hk : Keeps v.ownBlock.toList w w1) (hgb : g ≠ b)
    (hown : w1.ownsRow m 56 3 (.slice (some ⟨g, 0, none⟩) (l.length + 1) cap) (l.length + 1) (tcells l ++ [.int .i64 (x.1 : Nat), .int .u64 0, .int .u64 (x.2 : Nat)])) :
    TrAt (w1.setCell ⟨b, 0, none⟩ (.slice (some ⟨g, 0, none⟩) (l.length + 1) cap)) m b (.slice (some ⟨g, 0, none⟩) (l.length + 1) cap) (l ++ [x]) ∧ Keeps (b :: v.ownBlock.toList) w (w1.setCell ⟨b, 0, none⟩ (.slice (some ⟨g, 0, none⟩) (l.length + 1) cap)) := by
  have hne := h.ne
  have hb : b ∉ v.ownBlock.toList := fun hm => hne (by cases hv : v.ownBlock with | none => rw [hv] at hm; simp at hm | some y => rw [hv] at hm; simp at hm; rw [hm])
  have hlt := h.lt
  have hsz := hk.size
  refine ⟨⟨by simp; omega, ?_, ?_, ?_, ?_, h.mb, by simp; omega⟩, ?_⟩
  · exact World.cell?_setCell_same _ _ _ ((hk.cell (p := ⟨b, 0, none⟩) hlt hb).trans h.c0)
  · rw [World.frozen?_setCell, hk.frozen (p := ⟨b, 0, none⟩) hlt hb, h.f0]
  · rw [tcells_app, List.length_append]
    exact ownsRow_far hown (fun k hk => Below.heap_setCell _ _ _ _ (fun e => by simp [Value.ownBlock] at hk; simp at e; omega))
  · intro e; simp [Value.ownBlock] at e; omega
  · refine ⟨hk.os, hk.tape, hk.output, by simpa using hk.size, fun k hk1 hn => ?_⟩
    simp only [List.mem_cons, not_or] at hn
    rw [Below.heap_setCell _ _ _ _ (by simpa using hn.1), hk.block k hk1 hn.2]

theorem und_trials : Try.prog.underlying 49 = some (.slice 56) := by kernel_rfl
theorem info_trial : (Try.prog.info? 56).map (fun i => (i.zero, i.size, i.bytes)) = some (some (.agg #[.int .i64 0, .int .u64 0, .int .u64 0]), 3, 24) := by kernel_rfl
theorem keeps_grownBy {w w' : World} {row : Option Nat} (h : w.grownBy w' row) : Keeps row.toList w w' :=
  ⟨h.os, h.tape, h.output, h.size, fun k hk hn => h.block k hk (fun e => hn (by simp [← e]))⟩

set_option maxHeartbeats 1600000 in
theorem tPush (m b : Nat) (v : Value) (l : List (Nat × Nat)) (x : Nat × Nat) (w : World) (hl : l.length < 100) (h : TrAt w m b v l) :
    Calls Try.prog 72 #[.pointer (some ⟨b, 0, none⟩), .iface 56 (trialV x)] w fun e w' => e = .returned (.tuple #[]) ∧ ∃ v', TrAt w' m b v' (l ++ [x]) ∧ Turned w b v w' v' := by
  obtain ⟨i0, hi, hz0, hz1, hz2⟩ := info_parts info_trial
  have hown := h.own
  have hc0 := h.c0
  have hf0 := h.f0
  have hblt := h.lt
  have hmb := h.mb
  have HOB := Lib.hid h.ne
  have H := Lib.hid h
  obtain ⟨x1, x2⟩ := x
  obtain ⟨n, hn⟩ : ∃ n, n = l.length := ⟨_, rfl⟩
  rw [← hn] at hown hl
  have HN := Lib.hid hn
  unfold trialV
  clear hn h
  go_enter Try.func72, Try.ntmps72
  have hta : ∀ W : World, (Instr.typeAssert (.iface 56 (.agg #[.int .i64 (x1 : Nat), .int .u64 0, .int .u64 (x2 : Nat)])) 20 56 false).run Try.prog W = .ok (.agg #[.int .i64 (x1 : Nat), .int .u64 0, .int .u64 (x2 : Nat)]) W := fun _ => by kernel_rfl
  have hbo := box_below w (.cells #[.int .i64 (x1 : Nat), .int .u64 0, .int .u64 (x2 : Nat)] 56)
  have HQ0 := Lib.hid ((hbo.cell (p := ⟨b, 0, none⟩) hblt).trans hc0)
  have HQF := Lib.hid ((hbo.frozen (p := ⟨b, 0, none⟩) hblt).trans hf0)
  have HKO := Lib.hid (keeps_of_below hbo.drew v.ownBlock.toList)
  clear hbo
  go_wp2
  go_region_law (refine step_append_lies _ rfl _ _ 49 rfl m 56 i0 (.agg #[.int .i64 0, .int .u64 0, .int .u64 0]) 3 24 und_trials hi hz0 hz1 hz2 rfl (by decide) v n (tcells l) rfl (hown.alloc (.cells #[.int .i64 x1, .int .u64 0, .int .u64 x2] 56)) ⟨w.heap.size, 0, none⟩ 1 1 [.int .i64 x1, .int .u64 0, .int .u64 x2] rfl rfl (World.news_of_block (cs := #[.int .i64 x1, .int .u64 0, .int .u64 x2]) (t := 56) (fr := (0, 0)) (World.alloc_heap_new _ _)) (by intro u hu; simp at hu; rcases hu with rfl | rfl | rfl <;> rfl) (by decide) (by unfold maxLen; omega) (by omega) (by simp; omega) _ rfl ?_; intro g cap w1 hown1 hgrow hat hlt; have q0 : w1.cell? ⟨b, 0, none⟩ = some v := (hgrow.cell_far ⟨b, 0, none⟩ (by simp; omega) HOB.out).trans HQ0.out; have qf : w1.frozen? ⟨b, 0, none⟩ = false := (hgrow.frozen_far ⟨b, 0, none⟩ (by simp; omega) HOB.out).trans HQF.out; have HK : Hid (Keeps v.ownBlock.toList w w1) := HKO.out.trans (keeps_grownBy hgrow); have HO := Lib.hid hown1; have HAT : Hid (some g = v.ownBlock ∨ w.heap.size ≤ g) := (by rcases hat with h | h; exact Or.inl h.symm; exact Or.inr (by rw [h]; simp)); clear hown1 hgrow hat hlt)
  all_goals
    go_end0
    have h := push_at (x := (x1, x2)) (g := g) (cap := cap) (by have := HN.out; omega) H.out HK.out (by rcases HAT.out with h | h; exact fun e => HOB.out (by rw [← e]; exact h); omega) (by rw [← HN.out]; exact HO.out)
    rw [← HN.out] at h
    refine ⟨rfl, _, h.1, h.2, ?_⟩
    rcases HAT.out with h' | h'
    · exact Or.inl h'
    · exact Or.inr ⟨g, rfl, h'⟩

theorem tOrder : Order tBefore := by
  constructor
  · intro a b h
    unfold tBefore at *
    by_cases e : a.2 = b.2
    · rw [if_neg (by simpa using e)] at h
      rw [if_neg (by simpa using e.symm)]
      have := of_decide_eq_true h
      exact decide_eq_false (by omega)
    · rw [if_pos e] at h
      rw [if_pos (fun h' => e h'.symm)]
      have := of_decide_eq_true h
      exact decide_eq_false (by omega)
  · intro a b c h1 h2
    unfold tBefore at *
    by_cases e1 : b.2 = a.2
    · rw [if_neg (by simpa using e1)] at h1
      have h1' := of_decide_eq_false h1
      by_cases e2 : c.2 = b.2
      · rw [if_neg (by simpa using e2)] at h2
        have h2' := of_decide_eq_false h2
        rw [if_neg (by simpa using e2.trans e1)]
        exact decide_eq_false (by omega)
      · rw [if_pos e2] at h2
        have h2' := of_decide_eq_false h2
        rw [if_pos (by omega)]
        exact decide_eq_false (by omega)
    · rw [if_pos e1] at h1
      have h1' := of_decide_eq_false h1
      by_cases e2 : c.2 = b.2
      · rw [if_neg (by simpa using e2)] at h2
        rw [if_pos (by omega)]
        exact decide_eq_false (by omega)
      · rw [if_pos e2] at h2
        have h2' := of_decide_eq_false h2
        rw [if_pos (by omega)]
        exact decide_eq_false (by omega)

def trialsV (b : Nat) : Value := .pointer (some ⟨b, 0, none⟩)

/-- The heap at block b, of which the blocks of S are no part. -/
def TrS (S : Nat → Prop) (m b : Nat) (l : List (Nat × Nat)) (w : World) : Prop :=
  ∃ v, TrAt w m b v l ∧ ¬ S b ∧ (∀ k, S k → k < w.heap.size) ∧ ∀ g, v.ownBlock = some g → ¬ S g

theorem TrS.turned {S : Nat → Prop} {m b : Nat} {w w' : World} {v v' : Value} {l' : List (Nat × Nat)} (h' : TrAt w' m b v' l') (ht : Turned w b v w' v') (h1 : ¬ S b) (h2 : ∀ k, S k → k < w.heap.size) (h3 : ∀ g, v.ownBlock = some g → ¬ S g) : TrS S m b l' w' ∧ HoldsS S w w' := by
  refine ⟨⟨v', h', h1, fun k hk => Nat.lt_of_lt_of_le (h2 k hk) ht.1.size, fun g hg hs => ?_⟩, HoldsS.of_keeps ht.1 fun k hk => ⟨h2 k hk, ?_⟩⟩
  · rcases ht.2 with h | ⟨g', h, hge⟩
    · exact h3 g (by rw [← h, hg]) hs
    · rw [hg] at h; simp at h; have := h2 g hs; omega
  · simp only [List.mem_cons, not_or, Option.mem_toList]
    exact ⟨fun e => h1 (e ▸ hk), fun e => h3 k e hk⟩

def filterOps (S : Nat → Prop) (m b : Nat) : HeapOps 47 (trialsV b) 56 trialV tBefore 100 (TrS S m b) (HoldsS S) where
  fLen := 69
  fLess := 70
  fSwap := 73
  fPush := 72
  fPop := 71
  refl := HoldsS.refl S
  trans := fun a b c h1 h2 => h1.trans h2
  order := tOrder
  room := fun l w ⟨v, h, _⟩ => h.len
  eLen := fun _ _ => by kernel_rfl
  eLess := fun _ _ => by kernel_rfl
  eSwap := fun _ _ => by kernel_rfl
  ePush := fun _ _ => by kernel_rfl
  ePop := fun _ _ => by kernel_rfl
  mLen := fun _ => by kernel_rfl
  mLess := fun _ => by kernel_rfl
  mSwap := fun _ => by kernel_rfl
  mPush := fun _ => by kernel_rfl
  mPop := fun _ => by kernel_rfl
  len := fun l w ⟨v, h, hr⟩ => (tLen m b v l w h).mono fun e w' ⟨h1, h2⟩ => ⟨h1, by rw [← h2]; exact ⟨v, h, hr⟩, by rw [← h2]; exact HoldsS.refl _ _⟩
  less := fun l w i j hi hj ⟨v, h, h1, h2, h3⟩ => (tLess m b v l i j w hi hj h).mono fun e w' ⟨q1, q2⟩ => ⟨q1, TrS.turned (v := v) (h.below q2) ⟨keeps_of_below q2 _, Or.inl rfl⟩ h1 h2 h3⟩
  swap := fun l w i j hi hj ⟨v, h, h1, h2, h3⟩ => (tSwap m b v l i j w hi hj h).mono fun e w' ⟨q1, q2, q3⟩ => ⟨q1, TrS.turned q2 q3 h1 h2 h3⟩
  push := fun l w x hl ⟨v, h, h1, h2, h3⟩ => (tPush m b v l x w hl h).mono fun e w' ⟨q1, v', q2, q3⟩ => ⟨q1, TrS.turned q2 q3 h1 h2 h3⟩
  pop := fun l w x ⟨v, h, h1, h2, h3⟩ => (tPop m b v l x w h).mono fun e w' ⟨q1, v', q2, q3⟩ => ⟨q1, TrS.turned q2 q3 h1 h2 h3⟩
end Go.Proofs.Ytcgkalfclammfaa
