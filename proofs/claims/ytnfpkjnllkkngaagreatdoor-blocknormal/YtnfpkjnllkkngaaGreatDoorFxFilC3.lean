import Derived.Test.YtnfpkjnllkkngaaGreatDoorFxFilI

namespace Go.Proofs.YtnfpkjnllkkngaaGreatDoor.Fx
open Go.RowKit Go.Shelf Go.Proofs Go.Proofs.PipeA Go.Proofs.LatM Go.Proofs.FilM
set_option maxRecDepth 100000

attribute [local go_sem] Oper.semAt_some

theorem info_sl : (Tryz.prog.info? 22).map (fun i => (i.zero, i.size, i.bytes)) = some (some (.slice none 0 0), 1, 24) := by kernel_rfl

/-- The coefficients behind each number of indices, told so far: each in memory of its own, which isn't that of the slices. -/
def RowsP (B : Nat) (W : World) (v : Value) (cs : List Value) (l : List Int) (j : Nat) : Prop :=
  ∀ i, i < j → ∃ ro rc, cs[i]? = some (.slice ro i rc) ∧ IntsAt W ro (cf l i) ∧ ∀ a, ro = some a → B ≤ a.block ∧ a.block < W.heap.size ∧ some a.block ≠ v.ownBlock

theorem RowsP.keeps {B : Nat} {W W' : World} {v : Value} {cs : List Value} {l : List Int} {j : Nat} {bs : List Nat} (h : RowsP B W v cs l j) (hk : Keeps bs W W') (hb : ∀ x ∈ bs, x < B) : RowsP B W' v cs l j := by
  intro i hi
  obtain ⟨ro, rc, h1, h2, h3⟩ := h i hi
  exact ⟨ro, rc, h1, h2.keeps hk (fun g off he hg => by have := (h3 _ he).1; have := hb _ hg; simp only at *; omega), fun a ha => ⟨(h3 a ha).1, Nat.lt_of_lt_of_le (h3 a ha).2.1 hk.size, (h3 a ha).2.2⟩⟩

theorem ownsRow_keeps {w w' : World} {base size : Nat} {e : TypeId} {v : Value} {n : Nat} {xs : List Value} {bs : List Nat} (h : w.ownsRow base e size v n xs) (hk : Keeps bs w w') (hb : ∀ x ∈ bs, x < base) : w'.ownsRow base e size v n xs := by
  refine ⟨h.1, ?_⟩
  rcases h.2 with h2 | ⟨g, cap, cur, hv', hg, hh, r⟩
  · exact Or.inl h2
  · exact Or.inr ⟨g, cap, cur, hv', hg, by rw [hk.block g (Array.getElem?_eq_some_iff.1 hh).1 (fun hm => by have := hb g hm; omega)]; exact hh, r⟩

/-- Where predictorOf stands when a number of yields are done. -/
structure PredIs (W0 : World) (B L D : Nat) (r : Loop) (l : List Int) (j Z : Nat) (W : World) : Prop where
  loop : W.heap[L]? = some (.loop r)
  mark : W.heap[D]? = some (.deferred (some []))
  row : ∃ v cs, W.heap[B]? = some (.cells #[v] 97) ∧ W.ownsRow W0.heap.size 22 1 v j cs ∧ RowsP W0.heap.size W v cs l j ∧ ∀ g, v.ownBlock = some g → g < Z
  keeps : Keeps [B, L] W0 W
theorem PredIs.below {W0 A C : World} {B L D j Z : Nat} {r : Loop} {l : List Int} (h : PredIs W0 B L D r l j Z A) (hb : Below A.heap.size A C) : PredIs W0 B L D r l j Z C := by
  obtain ⟨v, cs, h1, h2, h3, h4⟩ := h.row
  exact ⟨(hb.block L (Array.getElem?_eq_some_iff.1 h.loop).1).trans h.loop, (hb.block D (Array.getElem?_eq_some_iff.1 h.mark).1).trans h.mark, ⟨v, cs, (hb.block B (Array.getElem?_eq_some_iff.1 h1).1).trans h1, ownsRow_below h2 hb, h3.keeps (keeps_of_below hb []) (by simp), h4⟩, h.keeps.trans (keeps_of_below hb _)⟩

/-- What an append of one slice to them makes. -/
theorem push_row {B base Z : Nat} {W : World} {v : Value} {cs : List Value} {l : List Int} {j : Nat} {ro : Option Addr} {rc : Nat} (hj : j ≤ 16) (hB : base ≤ W.heap.size) (hBB : B = base) (h1 : W.ownsRow base 22 1 v j cs) (h2 : RowsP B W v cs l j) (h3 : ∀ g, v.ownBlock = some g → g < Z) (hi : IntsAt W ro (cf l j)) (hro : Lies Z W.heap.size ro) (hBZ : base ≤ Z) :
    ∃ v' W', (Builtin.append_ #[97, 97] 97 #[v, .slice (some ⟨W.heap.size, 0, none⟩) 1 1]).run Tryz.prog (W.alloc (.cells #[.slice ro j rc] 22)) = .ok v' W' ∧
      W'.ownsRow base 22 1 v' (j + 1) (cs ++ [.slice ro j rc]) ∧ RowsP B W' v' (cs ++ [.slice ro j rc]) l (j + 1) ∧ W.grownBy W' v.ownBlock := by
  subst hBB
  obtain ⟨i0, hii, hz0, hz1, hz2⟩ := info_parts info_sl
  have ho := h1.alloc (.cells #[.slice ro j rc] 22)
  have hn : ∀ k u, [Value.slice ro j rc][k]? = some u → (W.alloc (.cells #[.slice ro j rc] 22)).cell? ((⟨W.heap.size, 0, none⟩ : Addr).add k) = some u := by
    intro k u hk
    match k, hk with
    | 0, hk => simp at hk; subst hk; simp [Addr.add]
  have hone : ∀ u ∈ [Value.slice ro j rc], u.oneCell' = true := by intro u hu; simp at hu; subst hu; rfl
  obtain ⟨v', W', hr, o1, o2, _⟩ := run_append_own (P := Tryz.prog) (W.alloc (.cells #[.slice ro j rc] 22)) B 97 97 22 i0 (.slice none 0 0) 1 24 Tryz.underlying97 hii hz0 hz1 hz2 rfl (by decide) v j cs ho ⟨W.heap.size, 0, none⟩ 1 1 [.slice ro j rc] rfl hn hone (by unfold maxLen; omega) (by omega) (by simp; omega)
  have hat := append_where (P := Tryz.prog) (W.alloc (.cells #[.slice ro j rc] 22)) B 97 97 22 i0 (.slice none 0 0) 1 24 Tryz.underlying97 hii hz0 hz1 hz2 rfl (by decide) v j cs ho ⟨W.heap.size, 0, none⟩ 1 1 [.slice ro j rc] rfl hn hone (by unfold maxLen; omega) (by omega) v' W' hr
  have hsz : W.heap.size + 1 ≤ W'.heap.size := by have := o2.size; simpa using this
  have hg : W.grownBy W' v.ownBlock := ⟨o2.os, o2.tape, o2.output, by omega, fun k hk hn => by rw [o2.block k (by simp; omega) hn]; exact Below.heap_alloc _ _ _ (by omega)⟩
  have hk : Keeps v.ownBlock.toList W W' := ⟨hg.os, hg.tape, hg.output, hg.size, fun k hk hn => hg.block k hk (fun e => hn (by simp [← e]))⟩
  have hcl : cs.length = j := by have := h1.1; omega
  have hne : ∀ b, b < W.heap.size → some b ≠ v.ownBlock → some b ≠ v'.ownBlock := by
    intro b hb hn e
    rcases hat with h | ⟨g, h, hge⟩
    · rw [h] at e; exact hn e
    · rw [h] at e; cases e; simp at hge; omega
  have hki : ∀ {ro' : Option Addr} {m : List Int}, (∀ a, ro' = some a → some a.block ≠ v.ownBlock) → IntsAt W ro' m → IntsAt W' ro' m := fun hd hm => hm.keeps hk (fun g off he hm' => by
    have := hd _ he
    cases hv : v.ownBlock with
    | none => rw [hv] at hm'; simp at hm'
    | some y => rw [hv] at hm' this; simp at hm' this; exact this hm')
  refine ⟨v', W', hr, o1, ?_, hg⟩
  intro i hi'
  by_cases hlt : i < j
  · obtain ⟨ro', rc', e1, e2, e3⟩ := h2 i hlt
    exact ⟨ro', rc', by rw [List.getElem?_append_left (by omega)]; exact e1, hki (fun a ha => (e3 a ha).2.2) e2, fun a ha => ⟨(e3 a ha).1, by have := (e3 a ha).2.1; omega, hne _ (e3 a ha).2.1 (e3 a ha).2.2⟩⟩
  · obtain rfl : i = j := by omega
    have hd : ∀ a, ro = some a → some a.block ≠ v.ownBlock := fun a ha e => by have := h3 _ e.symm; have := (hro a ha).1; omega
    exact ⟨ro, rc, by rw [List.getElem?_append_right (by omega)]; simp [hcl], hki hd hi, fun a ha => ⟨by have := (hro a ha).1; omega, by have := (hro a ha).2; omega, hne _ (hro a ha).2 (hd a ha)⟩⟩

theorem predAt_of {W : World} {base g n cap : Nat} {cs : List Value} {l : List Int} (h1 : W.ownsRow base 22 1 (.slice (some ⟨g, 0, none⟩) n cap) n cs) (hn : n = l.length + 1) (h2 : RowsP base W (.slice (some ⟨g, 0, none⟩) n cap) cs l n) : PredAt W g l l.length := by
  refine ⟨(own_lt h1).2.1, fun j hj => ?_⟩
  obtain ⟨ro, rc, e1, e2, _⟩ := h2 j (by omega)
  have := h1.1
  have h3 := List.getElem?_eq_some_iff.1 e1
  refine ⟨ro, rc, ?_, e2⟩
  have := h1.cellAt j (by have := h3.1; omega)
  rw [this, e1]

/-- A predictor in new memory. -/
def PredNew (l : List Int) (w : World) (e : Ending) (w' : World) : Prop :=
  ∃ G cap, e = .returned (.slice (some ⟨G, 0, none⟩) (l.length + 1) cap) ∧ PredAt w' G l l.length ∧ w.heap.size ≤ G ∧ l.length + 1 ≤ cap ∧ Below w.heap.size w w'

set_option maxHeartbeats 3200000 in
theorem cPredictorOf (ao : Option Addr) (cap : Nat) (l : List Int) (w : World) (hgd : goodL l = true) (hi : IntsAt w ao l) :
    Calls Tryz.prog 70 #[.slice ao l.length cap] w (PredNew l w) := by
  have hl16 := good_len hgd
  obtain ⟨wa, hwa⟩ : ∃ wa, wa = w.alloc (.cells #[.slice none 0 0] 97) := ⟨_, rfl⟩
  have hba : Below w.heap.size w wa := by rw [hwa]; exact box_below _ _
  have hboxa : wa.heap[w.heap.size]? = some (.cells #[.slice none 0 0] 97) := by rw [hwa]; exact World.alloc_heap_new _ _
  have HST := Lib.hid (cSteps ao cap l wa hgd (hi.below hba))
  have HGD := Lib.hid hgd
  have hlta := (Array.getElem?_eq_some_iff.1 hboxa).1
  have HBA := Lib.hid hba
  clear hi hgd hba
  refine (callsIn_wide (n := 6)).1 ?_
  refine callsIn_of_wp_marks Tryz.func70 rfl trivial ?_ rfl
  simp only [Tryz.ntmps70, List.size_toArray, List.length_cons, List.length_nil, Nat.reduceAdd, Nat.reduceSub, Array.replicate_succ, Array.replicate_zero, List.push_toArray, List.append_toArray, List.nil_append, List.cons_append]
  gi_wp2_with fail
  rw [← hwa]
  refine ⟨trivial, (callsIn_wide.2 HST.out).mono ?_⟩
  rintro e w2 ⟨B, H, rfl, hS, hB, hH, hb2⟩
  have hbox : w2.heap[w.heap.size]? = some (.cells #[.slice none 0 0] 97) := (hb2.block _ hlta).trans hboxa
  have HB2 := Lib.hid (HBA.out.trans (hb2.mono HBA.out.size))
  have HS := Lib.hid hS
  have hBlt : B < w2.heap.size := (Array.getElem?_eq_some_iff.1 hS.box).1
  have hHlt := hS.lt
  clear hwa hboxa HST hS hb2 HBA
  generalize hB5 : w.heap.size = B5 at *
  gi_wp2_with fail
  refine range_told rfl (by omega) (gf := 109) (lb := #[.pointer (some ⟨B, 0, none⟩)]) rfl trivial (enters_of Tryz.func109 (by kernel_rfl) rfl) ?_
  intro r fn hfn hr
  have HRE := Lib.hid hr
  clear hr
  obtain ⟨W0, hW0⟩ : ∃ W0, (w2.alloc (.deferred (some []))).alloc (.loop (r .ready none)) = W0 := ⟨_, rfl⟩
  have hL0 : W0.heap[w2.heap.size + 1]? = some (.loop (r .ready none)) := by
    rw [← hW0]; have := World.alloc_heap_new (w2.alloc (.deferred (some []))) (.loop (r .ready none)); rwa [World.size_alloc] at this
  have hD0 : W0.heap[w2.heap.size]? = some (.deferred (some [])) := by
    rw [← hW0]; exact (Below.heap_alloc _ _ _ (by simp)).trans (World.alloc_heap_new w2 _)
  have hb0 : Below w2.heap.size w2 W0 := by rw [← hW0]; exact below2 w2 _ _
  have hz0 : W0.heap.size = w2.heap.size + 2 := by rw [← hW0]; simp
  rw [hW0]
  have hB5lt : B5 < w2.heap.size := (Array.getElem?_eq_some_iff.1 hbox).1
  have hS0 : StepsAt W0 B H l := ⟨(hb0.block _ hBlt).trans HS.out.box, HS.out.ints.below hb0, by omega⟩
  have hbox0 := (hb0.block _ hB5lt).trans hbox
  clear hW0
  refine (steps2_tellsO 5 B H (w2.heap.size + 1) l W0 [B5, w2.heap.size + 1] (PredIs W0 B5 (w2.heap.size + 1) w2.heap.size (r .ready none) l) (by omega) HGD.out hS0 (by simp; omega) (by simp; omega) (by simp; omega) (fun j Z A C hA hb => hA.below hb) ?rnd ?st).mono ?fin
  case st => exact ⟨hL0, hD0, ⟨.slice none 0 0, [], hbox0, World.ownsRow_nil _ _ _ _, fun i hi => by omega, fun g hg => by cases hg⟩, Keeps.refl _ _⟩
  case rnd =>
    intro j ao' cap' Z W1 hj hcap' hZ0 hZ1 hJ hi hF
    obtain ⟨v, cs, hbx, hown, hrows, hvZ⟩ := hJ.row
    refine round_told hfn HRE.out hJ.loop rfl ?_
    have hlt1 := (Array.getElem?_eq_some_iff.1 hJ.loop).1
    have hlt5 := (Array.getElem?_eq_some_iff.1 hbx).1
    have hq1 : (W1.putObj (w2.heap.size + 1) (.loop (r .busy none))).heap[B5]? = some (.cells #[v] 97) := (World.putObj_heap_other (by omega)).trans hbx
    have hq2 : (W1.putObj (w2.heap.size + 1) (.loop (r .busy none))).heap[w2.heap.size + 1]? = some (.loop (r .busy none)) := World.putObj_heap_same hlt1
    have hk1 := keeps_putObj W1 (w2.heap.size + 1) (.loop (r .busy none))
    have hs1 : (W1.putObj (w2.heap.size + 1) (.loop (r .busy none))).heap.size = W1.heap.size := by simp [World.putObj]
    generalize W1.putObj (w2.heap.size + 1) (.loop (r .busy none)) = W2 at hq1 hq2 hk1 hs1 ⊢
    obtain ⟨v', W3, hrun, hown3, hrows3, hgr3⟩ := push_row (rc := cap') (Z := Z) (by omega) (by omega) rfl (ownsRow_keeps hown hk1 (by simp; omega)) (hrows.keeps hk1 (by simp; omega)) hvZ (hi.keeps hk1 (fun g off he hg => by have := (hF _ he).1; simp at hg this; omega)) (fun a ha => ⟨(hF a ha).1, by have := (hF a ha).2; omega⟩) (by omega)
    obtain ⟨g', rcap, rfl⟩ : ∃ g cap, v' = .slice (some ⟨g, 0, none⟩) (j + 1) cap := by
      rcases hown3.2 with ⟨_, h2⟩ | ⟨g, cap, cur, h1, _⟩
      · omega
      · exact ⟨g, cap, h1⟩
    have hvb := own_block_lt hown
    have hne5 : some B5 ≠ v.ownBlock := fun e => by have := (hvb _ e.symm).1; omega
    have hneL : some (w2.heap.size + 1) ≠ v.ownBlock := fun e => by have := (hvb _ e.symm).1; omega
    have hq13 := (hgr3.block B5 (by omega) hne5).trans hq1
    have hq23 := (hgr3.block (w2.heap.size + 1) (by omega) hneL).trans hq2
    have kc0 := cell_of_heap hq1 0
    have kc := cell_of_heap hq13 0
    have kf := frozen_of_heap hq13 0
    simp only [List.getElem?_toArray, List.getElem?_cons_zero] at kc kc0
    have HEND : Hid ((fun W3 => W3.heap[w2.heap.size + 1]? = some (.loop (r .busy none)) ∧ PredIs W0 B5 (w2.heap.size + 1) w2.heap.size (r .ready none) l (j + 1) (W3.putObj (w2.heap.size + 1) (.loop (r .ready none))).heap.size (W3.putObj (w2.heap.size + 1) (.loop (r .ready none))) ∧ KeepsO [B5, w2.heap.size + 1] W0.heap.size Z W1 (W3.putObj (w2.heap.size + 1) (.loop (r .ready none)))) (W3.setCell ⟨B5, 0, none⟩ (.slice (some ⟨g', 0, none⟩) (j + 1) rcap))) := by
      have hk3 : Keeps [B5, w2.heap.size + 1] W3 ((W3.setCell ⟨B5, 0, none⟩ (.slice (some ⟨g', 0, none⟩) (j + 1) rcap)).putObj (w2.heap.size + 1) (.loop (r .ready none))) :=
        ((keeps_setCell W3 B5 0 _).wide (by simp)).trans ((keeps_putObj _ _ _).wide (by simp))
      have hsz3 : W2.heap.size ≤ W3.heap.size := hgr3.size
      have hl3 : (W3.setCell ⟨B5, 0, none⟩ (.slice (some ⟨g', 0, none⟩) (j + 1) rcap)).heap[w2.heap.size + 1]? = some (.loop (r .busy none)) := (Below.heap_setCell _ _ _ _ (by simp; omega)).trans hq23
      have hb3 : ((W3.setCell ⟨B5, 0, none⟩ (.slice (some ⟨g', 0, none⟩) (j + 1) rcap)).putObj (w2.heap.size + 1) (.loop (r .ready none))).heap[B5]? = some (.cells #[.slice (some ⟨g', 0, none⟩) (j + 1) rcap] 97) := (World.putObj_heap_other (by omega)).trans (box_set _ hq13)
      have hmk : (W3.setCell ⟨B5, 0, none⟩ (.slice (some ⟨g', 0, none⟩) (j + 1) rcap)).heap[w2.heap.size]? = some (.deferred (some [])) := by
        have e1 := hJ.mark
        have lt := (Array.getElem?_eq_some_iff.1 e1).1
        rw [Below.heap_setCell _ _ _ _ (by simp; omega), hgr3.block w2.heap.size (by omega) (fun e => by have := (hvb _ e.symm).1; omega), hk1.block w2.heap.size lt (by simp)]
        exact e1
      have hko : KeepsO [B5, w2.heap.size + 1] W0.heap.size Z W1 ((W3.setCell ⟨B5, 0, none⟩ (.slice (some ⟨g', 0, none⟩) (j + 1) rcap)).putObj (w2.heap.size + 1) (.loop (r .ready none))) := by
        refine ⟨by rw [hk3.os, hgr3.os, hk1.os], by rw [hk3.tape, hgr3.tape, hk1.tape], by rw [hk3.output, hgr3.output, hk1.output], by have := hk3.size; omega, fun k hk hn hbz => ?_⟩
        rw [hk3.block k (by omega) hn, hgr3.block k (by omega) (fun e => by have h1 := (hvb _ e.symm).1; have h2 := hvZ _ e.symm; omega), hk1.block k hk (fun hm => hn (by simp at hm; simp [hm]))]
      have hown5 := ownsRow_keeps hown3 hk3 (by simp; omega)
      refine ⟨hl3, ⟨World.putObj_heap_same (Array.getElem?_eq_some_iff.1 hl3).1, (World.putObj_heap_other (by omega)).trans hmk, ⟨_, _, hb3, hown5, hrows3.keeps hk3 (by simp; omega), fun g hg => (own_block_lt hown5 g hg).2⟩, hko.keeps hJ.keeps (Nat.le_refl _)⟩, hko⟩
    clear hs1 hk1 hJ hi hown hrows hown3 hrows3 hgr3 hvb hbx hq1 hq2 hq13 hq23 hne5 hneL hvZ
    gi_wp2_with (gi_at_builtin; refine wpListIn_append_run rfl _ _ 97 rfl _ _ _ _ rfl rfl hrun ?_)
    have h := HEND.out
    have e : ∀ (A : World) (o : Obj) (b : Nat), (A.putObj b o).heap.size = A.heap.size := fun A o b => by simp [World.putObj]
    rw [e, hz0] at h
    exact h
  case fin =>
    rintro e W3 ⟨⟨v, rfl⟩, hJ⟩
    obtain ⟨v3, cs3, hbx, hown3, hrows3, _⟩ := hJ.row
    have hend := run_endLoop (P := Tryz.prog) hJ.loop (by rw [HRE.out]; simp)
    have hpe : (r .ready none).pending = none := by rw [HRE.out]
    obtain ⟨X, hX⟩ : ∃ X : Loop, X = { r .ready none with state := .exhausted } := ⟨_, rfl⟩
    rw [← hX, hpe] at hend
    clear hX hpe
    refine ⟨none, _, hend, ?_⟩
    have hk4 := keeps_putObj W3 (w2.heap.size + 1) (.loop X)
    have hb4 : (W3.putObj (w2.heap.size + 1) (.loop X)).heap[B5]? = _ := (World.putObj_heap_other (by omega)).trans hbx
    have hD4 : (W3.putObj (w2.heap.size + 1) (.loop X)).heap[w2.heap.size]? = some (.deferred (some [])) := (World.putObj_heap_other (by omega)).trans hJ.mark
    have hown4 := ownsRow_keeps hown3 hk4 (by simp; omega)
    have hrows4 := hrows3.keeps hk4 (by simp; omega)
    have hk04 : Keeps [B5, w2.heap.size + 1] W0 _ := hJ.keeps.trans (hk4.wide (by simp))
    generalize W3.putObj (w2.heap.size + 1) (.loop X) = W4 at hb4 hD4 hown4 hrows4 hk04 hk4 hend ⊢
    have hk5 := keeps_putObj W4 w2.heap.size (.deferred none)
    have hown5 := ownsRow_keeps hown4 hk5 (by simp; omega)
    have hrows5 := hrows4.keeps hk5 (by simp; omega)
    obtain ⟨g3, cap3, rfl⟩ : ∃ g cap, v3 = .slice (some ⟨g, 0, none⟩) (l.length + 1) cap := by
      rcases hown4.2 with ⟨_, h2⟩ | ⟨g, cap, cur, h1, _⟩
      · omega
      · exact ⟨g, cap, h1⟩
    have HF : Hid (PredNew l w (.returned (.slice (some ⟨g3, 0, none⟩) (l.length + 1) cap3)) (W4.putObj w2.heap.size (.deferred none))) := by
      have ho := own_lt hown5
      refine ⟨g3, cap3, rfl, predAt_of hown5 rfl hrows5, by omega, ho.2.2.1, ?_⟩
      have h5 : Keeps [B5, w2.heap.size + 1, w2.heap.size] W0 (W4.putObj w2.heap.size (.deferred none)) := (hk04.wide (by simp)).trans (hk5.wide (by simp))
      rw [hB5]
      exact HB2.out.trans ((hb0.mono (by omega)).trans (h5.below (by omega) (by simp; omega)))
    have kc := cell_of_heap hb4 0
    simp only [List.getElem?_toArray, List.getElem?_cons_zero] at kc
    clear hk04 hk4 hb4 hJ hown3 hrows3 hown4 hrows4 hk5 hown5 hrows5 hbx
    gi_wp2
    refine ⟨by simp, .inl ⟨_, _, rfl, run_takeDeferred hD4, ?_⟩⟩
    refine ⟨_, results_tmp rfl _ _ _, ?_⟩
    exact HF.out
end Go.Proofs.YtnfpkjnllkkngaaGreatDoor.Fx
