import Derived.Test.YtbbcemgcanclnaaWefC5
import Derived.Test.YtbbcemgcanclnaaWefC3
namespace Go.Proofs.Ytbbcemgcanclnaa
open Go.RowKit Go.Proofs Go.Proofs.PipeM Go.Proofs.PipeA Go.Proofs.WefM
set_option maxRecDepth 100000

theorem ints_cellW {W : World} {b off q : Nat} {l : List Int} {x : Int} (h : IntsAt W (some ⟨b, off, none⟩) l) (hq : q < l.length) (hx : l[q] = x) : W.cell? ⟨b, off + q, none⟩ = some (.int .i64 x) := by
  obtain ⟨b', off', he, _, hc⟩ := h q hq
  cases he
  rw [hc, hx]
theorem set_farW {W : World} {H p b off : Nat} {v : Value} (h : b ≠ H) : (W.setCell ⟨H, p, none⟩ v).cell? ⟨b, off, none⟩ = W.cell? ⟨b, off, none⟩ := World.cell?_setCell_other _ _ _ _ (by intro e; cases e; exact h rfl)
/-- Where a weave stands that was handed in. -/
structure WvAt (w : World) (x : Wv) (W : World) : Prop where
  box : W.heap[w.heap.size]? = some (.cells #[.bool x.some, .int .i64 x.master, .int .i64 x.g0, .int .i64 x.g1, .int .i64 x.g2] 24)
  below : Below w.heap.size w W
theorem WvAt.new (w : World) (x : Wv) : WvAt w x (w.alloc (.cells #[.bool x.some, .int .i64 x.master, .int .i64 x.g0, .int .i64 x.g1, .int .i64 x.g2] 24)) := ⟨heap_alloc_new w _, box_below w _⟩
theorem WvAt.mono {w A C : World} {x : Wv} (h : WvAt w x A) (hb : Below A.heap.size A C) : WvAt w x C :=
  ⟨(hb.block _ (Array.getElem?_eq_some_iff.1 h.box).1).trans h.box, h.below.trans (hb.mono h.below.size)⟩
theorem WvAt.drewN {w A : World} {x : Wv} (h : WvAt w x A) (n : Nat) : WvAt w x (A.drewN n) := h.mono ((keeps_drewN A n []).below (Nat.le_refl _) (by simp))
theorem WvAt.lt {w A : World} {x : Wv} (h : WvAt w x A) : w.heap.size < A.heap.size := (Array.getElem?_eq_some_iff.1 h.box).1
theorem WvAt.set {w A : World} {x : Wv} {H j : Nat} {v : Value} (h : WvAt w x A) (hH : w.heap.size < H) : WvAt w x (A.setCell ⟨H, j, none⟩ v) :=
  ⟨(Below.heap_setCell _ _ _ _ (by show w.heap.size ≠ H; omega)).trans h.box, h.below.setCell (p := ⟨H, j, none⟩) (by show w.heap.size ≤ H; omega) _⟩
theorem WvAt.cells {w A : World} {x : Wv} (h : WvAt w x A) : A.cell? ⟨w.heap.size, 0, none⟩ = some (.bool x.some) ∧ A.cell? ⟨w.heap.size, 1, none⟩ = some (.int .i64 x.master) ∧ A.cell? ⟨w.heap.size, 2, none⟩ = some (.int .i64 x.g0) ∧ A.cell? ⟨w.heap.size, 3, none⟩ = some (.int .i64 x.g1) ∧ A.cell? ⟨w.heap.size, 4, none⟩ = some (.int .i64 x.g2) :=
  ⟨by rw [cell_of_heap h.box]; rfl, by rw [cell_of_heap h.box]; rfl, by rw [cell_of_heap h.box]; rfl, by rw [cell_of_heap h.box]; rfl, by rw [cell_of_heap h.box]; rfl⟩

set_option maxHeartbeats 3200000 in
theorem cRestW' (x : Wv) (ao bo : Option Addr) (cap cap2 : Nat) (own m : List Int) (w : World) (hl : own.length ≤ 100000) (hl2 : m.length ≤ 100000) (hi : IntsAt w ao own) (hj : IntsAt w bo m) :
    Calls Try.prog 9 #[wvV x, .slice ao own.length cap, .slice bo m.length cap2] w (RowR (codeRest x own m) (restL x own m) w) := by
  obtain ⟨wa, hwa⟩ : ∃ wa, wa = w.alloc (.cells #[.bool x.some, .int .i64 x.master, .int .i64 x.g0, .int .i64 x.g1, .int .i64 x.g2] 24) := ⟨_, rfl⟩
  have hT : WvAt w x wa := by rw [hwa]; exact WvAt.new w x
  have HT := Lib.hid hT
  have HG := Lib.hid (cGoodW x 8 wa)
  have HCK := fun W (hb : Below w.heap.size w W) => Lib.hid (cCheckW ao bo cap cap2 own m W (by omega) (by omega) (hi.below hb) (hj.below hb))
  have HI := Lib.hid hi
  have HJ := Lib.hid hj
  have HWA := Lib.hid hwa
  have HE : Hid (∀ c W, codeRest x own m = c → c ≠ 0 → Below w.heap.size w W → RowR (codeRest x own m) (restL x own m) w (.returned (.tuple #[.slice none 0 0, .int .i64 c])) W) := fun c W h1 h2 hb => by
    subst h1; exact .inl ⟨h2, rfl, hb⟩
  obtain ⟨k0, k1, k2, k3, k4⟩ := hT.cells
  unfold wvV at HG ⊢
  clear hi hj hwa hT
  cases hg : goodW x 8 with
  | false =>
    have HC : Hid (codeRest x own m = 2) := by show _ = _; unfold codeRest; rw [hg]; rfl
    rw [hg] at HG
    clear hg HCK HI HJ
    go_enter Try.func9, Try.ntmps9
    go_wp2_with fail
    rw [← HWA.out]
    refine HG.out.mono ?_
    rintro e w1 ⟨rfl, hb1⟩
    have HB1 := Lib.hid (HT.out.below.trans (hb1.mono HT.out.below.size))
    clear hb1 k0 k1 k2 k3 k4
    go_wp2
    refine bodyPost_ret (v := .tuple #[.slice none 0 0, .int .i64 2]) (by simp [results, Try.results9, go_sem]) rfl ?_
    exact HE.out 2 _ HC.out (by decide) HB1.out
  | true =>
    rw [hg] at HG
    have hcc : codeRest x own m = if own.length = m.length then (if own.all inS && m.all inS then 0 else 9) else 8 := by unfold codeRest; rw [hg, if_pos rfl]
    rw [← hcc] at HCK
    have h3 : codeRest x own m = 0 ∨ codeRest x own m = 8 ∨ codeRest x own m = 9 := by rw [hcc]; split <;> (try split) <;> simp
    rcases h3 with hc | hc | hc
    · obtain ⟨_, hlen, hown, hmS⟩ := codeRest_zero hc
      have hgs := good_gains hg
      have HFB : Hid (∀ i, -25165824 ≤ fore x m i ∧ fore x m i ≤ 25165824) := fore_bound hg hmS
      have HOS : Hid (∀ i, -8388608 ≤ own.getD i 0 ∧ own.getD i 0 ≤ 8388607) := get_S hown
      have HFO : Hid (∀ i W, i < m.length → Below w.heap.size w W → Calls Try.prog 26 #[gnV x, .slice bo m.length cap2, .int .i64 i] W fun e w' => e = .returned (.int .i64 (fore x m i)) ∧ Below W.heap.size W w') := fun i W h hb => cForeseen x bo cap2 m i W hgs hmS hl2 h (HJ.out.below hb)
      unfold gnV at HFO
      have HC0 := Lib.hid hc
      have HLEN := Lib.hid hlen
      rw [hc] at HCK
      clear hcc hc hg hown hmS hgs hlen
      cases ao with
      | none =>
        have hn0 : own = [] := HI.out.nil
        subst hn0
        have HF : Hid (∀ W, Below w.heap.size w W → RowR (codeRest x [] m) (restL x [] m) w (.returned (.tuple #[.slice none 0 0, .int .i64 0])) W) := fun W hW => .inr ⟨HC0.out, none, 0, rfl, fun j hj => by simp [restL] at hj, by simp [restL], (fun g off h => nomatch h), hW⟩
        have HCN := fun W => Lib.hid (cCloneNil cap W)
        simp only [List.length_nil] at *
        go_enter Try.func9, Try.ntmps9
        go_wp2_with fail
        rw [← HWA.out]
        refine HG.out.mono ?_
        rintro e w1 ⟨rfl, hb1⟩
        have HT1 := Lib.hid (HT.out.mono hb1)
        have HC1 := HCK w1 HT1.out.below
        clear hb1 k0 k1 k2 k3 k4 HCK
        go_wp2_with fail
        refine HC1.out.mono ?_
        rintro e w2 ⟨rfl, rfl⟩
        go_wp2_with fail
        refine (HCN _).out.mono ?_
        rintro e w3 ⟨rfl, rfl⟩
        go_wp2
        go_loopg [10, 24] 0 (fun gk q i wr => gk = 0 ∧ i = .int .i64 0 ∧ w1 = wr)
        case atStart => exact ⟨rfl, rfl, rfl⟩
        case round =>
          obtain ⟨_, rfl, rfl⟩ := hrel
          go_wp2
          refine bodyPost_ret (v := .tuple #[.slice none 0 0, .int .i64 0]) (by simp [results, Try.results9, go_sem]) rfl ?_
          exact HF.out _ HT1.out.below
      | some ad =>
        have HCL := fun W h => Lib.hid (cClone ad cap own W hl h)
        go_enter Try.func9, Try.ntmps9
        go_wp2_with fail
        rw [← HWA.out]
        refine HG.out.mono ?_
        rintro e w1 ⟨rfl, hb1⟩
        have HT1 := Lib.hid (HT.out.mono hb1)
        have HC1 := HCK w1 HT1.out.below
        have HI1 := Lib.hid (HI.out.below HT1.out.below)
        have HCL1 := HCL w1 HI1.out
        clear hb1 k0 k1 k2 k3 k4 HCK HCL
        go_wp2_with fail
        refine HC1.out.mono ?_
        rintro e w2 ⟨rfl, rfl⟩
        go_wp2_with fail
        refine HCL1.out.mono ?_
        rintro e w2 ⟨H, hcap, rfl, hi2, ⟨cur, hcur⟩, hcp, hH, hHlt, hb2⟩
        have HT2 := Lib.hid (HT1.out.mono hb2)
        have hHw : w.heap.size < H := Nat.lt_of_lt_of_le HT1.out.lt hH
        have HK := Lib.hid (fill_start (f := fun j => own.getD j 0 - fore x m j) (p := 0) hi2 hcur (fun j hj _ => absurd hj (by omega)))
        have HCP := Lib.hid hcp
        clear hi2 hcur hcp hH hb2
        go_wp2
        go_loopg [10, 24] own.length (fun gk q i wr => ∃ p : Nat, p ≤ own.length ∧ gk + p = own.length ∧ i = .int .i64 p ∧ Hid (KeysAt wr H own.length (fillF (fun j => own.getD j 0 - fore x m j) own p)) ∧ Hid (WvAt w x wr) ∧ H < wr.heap.size)
        case atStart => exact ⟨0, Nat.zero_le _, by omega, rfl, HK, HT2, hHlt⟩
        case round =>
          obtain ⟨p, hp, hgk, rfl, HKA, HTA, hsz⟩ := hrel
          have HGK := Lib.hid hgk
          clear hgk HK HT2 HT1 HC1 HCL1 HI1
          obtain ⟨k0, k1, k2, k3, k4⟩ := HTA.out.cells
          by_cases hlt : p < own.length
          · have hfb := HFB.out p
            have hos := HOS.out p
            have HF1 := fun W (hb : Below w.heap.size w W) => Lib.hid (HFO.out p W (by rw [← HLEN.out]; exact hlt) hb)
            obtain ⟨c0, f0⟩ := fill_at HKA.out hlt (own.getD p 0) (by rw [if_neg (Nat.lt_irrefl _)])
            obtain ⟨z, hzz⟩ : ∃ z, z = (fun j => own.getD j 0 - fore x m j) p := ⟨_, rfl⟩
            have hz : own.getD p 0 - fore x m p = z := hzz.symm
            have HZ := Lib.hid hzz
            obtain ⟨y, hy⟩ : ∃ y, y = own.getD p 0 := ⟨_, rfl⟩
            have HY := Lib.hid hy
            rw [← hy] at hz hos c0
            generalize fore x m p = t at *
            have hw : IntKind.i64.wrap (y - t) = z := by rw [IntWalk.i64_in _ (by omega)]; omega
            clear hzz hz hfb hos hy
            have HTD := Lib.hid (HTA.out.drewN 1)
            have HKD : Hid (KeysAt wr.drew H own.length (fillF (fun j => own.getD j 0 - fore x m j) own p)) := HKA.out
            have hszd : H < wr.drew.heap.size := hsz
            have HF2 := HF1 _ HTD.out.below
            clear HF1
            go_wp2_with fail
            refine wp_region_held_drew (S := fun w' => w'.cell? ⟨w.heap.size, 2, none⟩ = some (.int .i64 x.g0) ∧ w'.cell? ⟨w.heap.size, 3, none⟩ = some (.int .i64 x.g1) ∧ w'.cell? ⟨w.heap.size, 4, none⟩ = some (.int .i64 x.g2)) (by kernel_rfl) ⟨k2, k3, k4⟩ (fun hHeld => ?_)
            refine take_at (i := 0) (d := some 27) (v := ?_) rfl rfl (by kernel_rfl) (by kernel_rfl) (by kernel_rfl) (fun _ _ _ h => h) (Or.inl ⟨by rfl, ?_⟩) hHeld ?_
            rotate_left
            · intro w9 hSw; obtain ⟨s0, s1, s2⟩ := hSw; go_simp; try with_reducible rfl
            simp only [Act.put, List.setIfInBounds_toArray, List.set_cons_zero, List.set_cons_succ]
            refine take_at (i := 1) (d := some 28) (v := ?_) rfl rfl (by kernel_rfl) (by kernel_rfl) (by kernel_rfl) (fun _ _ _ h => h) (Or.inl ⟨by rfl, ?_⟩) hHeld ?_
            rotate_left
            · intro w9 hSw; obtain ⟨s0, s1, s2⟩ := hSw; go_simp; try with_reducible rfl
            simp only [Act.put, List.setIfInBounds_toArray, List.set_cons_zero, List.set_cons_succ]
            refine take_at (i := 2) (d := some 29) (v := ?_) rfl rfl (by kernel_rfl) (by kernel_rfl) (by kernel_rfl) (fun _ _ _ h => h) (Or.inl ⟨by rfl, ?_⟩) hHeld ?_
            rotate_left
            · intro w9 hSw; obtain ⟨s0, s1, s2⟩ := hSw; go_simp; try with_reducible rfl
            simp only [Act.put, List.setIfInBounds_toArray, List.set_cons_zero, List.set_cons_succ]
            refine take_at (i := 4) (d := some 31) (v := ?_) rfl rfl (by kernel_rfl) (by kernel_rfl) (by kernel_rfl) (fun _ _ _ h => h) (Or.inl ⟨by rfl, ?_⟩) hHeld ?_
            rotate_left
            · intro w9 hSw; obtain ⟨s0, s1, s2⟩ := hSw; go_simp; try with_reducible rfl
            simp only [Act.put, List.setIfInBounds_toArray, List.set_cons_zero, List.set_cons_succ]
            refine take_at (i := 5) (d := some 32) (v := ?_) rfl rfl (by kernel_rfl) (by kernel_rfl) (by kernel_rfl) (fun _ _ _ h => h) (Or.inl ⟨by rfl, ?_⟩) hHeld ?_
            rotate_left
            · intro w9 hSw; obtain ⟨s0, s1, s2⟩ := hSw; go_simp; try with_reducible rfl
            simp only [Act.put, List.setIfInBounds_toArray, List.set_cons_zero, List.set_cons_succ]
            refine take_at (i := 6) (d := some 33) (v := ?_) rfl rfl (by kernel_rfl) (by kernel_rfl) (by kernel_rfl) (fun _ _ _ h => h) (Or.inl ⟨by rfl, ?_⟩) hHeld ?_
            rotate_left
            · intro w9 hSw; obtain ⟨s0, s1, s2⟩ := hSw; go_simp; try with_reducible rfl
            simp only [Act.put, List.setIfInBounds_toArray, List.set_cons_zero, List.set_cons_succ]
            refine take_at (i := 7) (d := some 34) (v := ?_) rfl rfl (by kernel_rfl) (by kernel_rfl) (by kernel_rfl) (fun _ _ _ h => h) (Or.inl ⟨by rfl, ?_⟩) hHeld ?_
            rotate_left
            · intro w9 hSw; obtain ⟨s0, s1, s2⟩ := hSw; go_simp; try with_reducible rfl
            simp only [Act.put, List.setIfInBounds_toArray, List.set_cons_zero, List.set_cons_succ]
            refine wpAnyH_ready (rs := [3, 8]) (by kernel_rfl) (by simp) ?_
            refine AllReadyH.cons rfl (fun K hK => ?_) ?_
            · go_simp
              refine hK.out _ _ ?_ (fun hHeld => ?_)
              · first | exact hHeld | exact ⟨k25, k35, k45⟩ | exact ⟨(set_farW (by omega)).trans k25, (set_farW (by omega)).trans k35, (set_farW (by omega)).trans k45⟩
              clear hK K
              refine wpAnyH_ready (rs := [8]) (by kernel_rfl) (by simp) ?_
              refine AllReadyH.cons rfl (fun K hK => ?_) ?_
              · go_simp
                go_at_call 26
                refine HF2.out.mono ?_
                rintro e w5 ⟨rfl, hb5⟩
                have HT5 := Lib.hid (HTD.out.mono hb5)
                have HK5 := Lib.hid (HKD.out.keeps (keeps_of_below hb5 []) (by simp) hszd)
                have k25 := HT5.out.cells.2.2.1
                have k35 := HT5.out.cells.2.2.2.1
                have k45 := HT5.out.cells.2.2.2.2
                have c05 := (fill_at HK5.out hlt y (by rw [if_neg (Nat.lt_irrefl _), HY.out])).1
                have f05 := (fill_at HK5.out hlt y (by rw [if_neg (Nat.lt_irrefl _), HY.out])).2
                have hsz5 : H < w5.heap.size := Nat.lt_of_lt_of_le hszd hb5.size
                clear hb5
                go_wp2
                refine hK.out _ _ ?_ (fun hHeld => ?_)
                · first | exact hHeld | exact ⟨k25, k35, k45⟩ | exact ⟨(set_farW (by omega)).trans k25, (set_farW (by omega)).trans k35, (set_farW (by omega)).trans k45⟩
                clear hK K
                refine take_at (i := 9) (d := some 36) (v := ?_) rfl rfl (by kernel_rfl) (by kernel_rfl) (by kernel_rfl) (fun _ _ _ h => h) (Or.inl ⟨by rfl, ?_⟩) hHeld ?_
                rotate_left
                · intro w9 hSw; obtain ⟨s0, s1, s2⟩ := hSw; go_simp; try with_reducible rfl
                simp only [Act.put, List.setIfInBounds_toArray, List.set_cons_zero, List.set_cons_succ]
                refine take_at (i := 10) (d := some 37) (v := ?_) rfl rfl (by kernel_rfl) (by kernel_rfl) (by kernel_rfl) (fun _ _ _ h => h) (Or.inl ⟨by rfl, ?_⟩) hHeld ?_
                rotate_left
                · intro w9 hSw; obtain ⟨s0, s1, s2⟩ := hSw; go_simp; try with_reducible rfl
                simp only [Act.put, List.setIfInBounds_toArray, List.set_cons_zero, List.set_cons_succ]
                refine wpAnyH_ready (rs := [11]) (by kernel_rfl) (by simp) ?_
                refine AllReadyH.cons rfl (fun K hK => ?_) ?_
                · go_simp
                  refine hK.out _ _ ?_ (fun hHeld => ?_)
                  · first | exact hHeld | exact ⟨k25, k35, k45⟩ | exact ⟨(set_farW (by omega)).trans k25, (set_farW (by omega)).trans k35, (set_farW (by omega)).trans k45⟩
                  clear hK K
                  refine wpAnyH_done (by kernel_rfl) ?_ _
                  have HK6 : Hid (KeysAt (w5.setCell ⟨H, p, none⟩ (.int .i64 z)) H own.length (fillF (fun j => own.getD j 0 - fore x m j) own (p + 1))) := by have := fill_set HK5.out hlt; rwa [← HZ.out] at this
                  have HT6 : Hid (WvAt w x (w5.setCell ⟨H, p, none⟩ (.int .i64 z))) := HT5.out.set hHw
                  clear k25 k35 k45 c05 f05 hHeld
                  go_wp2
                  go_roundg (gk - 1)
                  case rel => exact ⟨p + 1, by omega, by have := HGK.out; omega, by go_num, HK6.out, HT6.out, by simpa using hsz5⟩
                  case measure => have := HGK.out; omega
                exact AllReadyH.nil
              exact AllReadyH.nil
            refine AllReadyH.cons rfl (fun K hK => ?_) ?_
            · go_simp
              go_at_call 26
              refine HF2.out.mono ?_
              rintro e w5 ⟨rfl, hb5⟩
              have HT5 := Lib.hid (HTD.out.mono hb5)
              have HK5 := Lib.hid (HKD.out.keeps (keeps_of_below hb5 []) (by simp) hszd)
              have k25 := HT5.out.cells.2.2.1
              have k35 := HT5.out.cells.2.2.2.1
              have k45 := HT5.out.cells.2.2.2.2
              have c05 := (fill_at HK5.out hlt y (by rw [if_neg (Nat.lt_irrefl _), HY.out])).1
              have f05 := (fill_at HK5.out hlt y (by rw [if_neg (Nat.lt_irrefl _), HY.out])).2
              have hsz5 : H < w5.heap.size := Nat.lt_of_lt_of_le hszd hb5.size
              clear hb5
              go_wp2
              refine hK.out _ _ ?_ (fun hHeld => ?_)
              · first | exact hHeld | exact ⟨k25, k35, k45⟩ | exact ⟨(set_farW (by omega)).trans k25, (set_farW (by omega)).trans k35, (set_farW (by omega)).trans k45⟩
              clear hK K
              refine wpAnyH_ready (rs := [3]) (by kernel_rfl) (by simp) ?_
              refine AllReadyH.cons rfl (fun K hK => ?_) ?_
              · go_simp
                refine hK.out _ _ ?_ (fun hHeld => ?_)
                · first | exact hHeld | exact ⟨k25, k35, k45⟩ | exact ⟨(set_farW (by omega)).trans k25, (set_farW (by omega)).trans k35, (set_farW (by omega)).trans k45⟩
                clear hK K
                refine take_at (i := 9) (d := some 36) (v := ?_) rfl rfl (by kernel_rfl) (by kernel_rfl) (by kernel_rfl) (fun _ _ _ h => h) (Or.inl ⟨by rfl, ?_⟩) hHeld ?_
                rotate_left
                · intro w9 hSw; obtain ⟨s0, s1, s2⟩ := hSw; go_simp; try with_reducible rfl
                simp only [Act.put, List.setIfInBounds_toArray, List.set_cons_zero, List.set_cons_succ]
                refine take_at (i := 10) (d := some 37) (v := ?_) rfl rfl (by kernel_rfl) (by kernel_rfl) (by kernel_rfl) (fun _ _ _ h => h) (Or.inl ⟨by rfl, ?_⟩) hHeld ?_
                rotate_left
                · intro w9 hSw; obtain ⟨s0, s1, s2⟩ := hSw; go_simp; try with_reducible rfl
                simp only [Act.put, List.setIfInBounds_toArray, List.set_cons_zero, List.set_cons_succ]
                refine wpAnyH_ready (rs := [11]) (by kernel_rfl) (by simp) ?_
                refine AllReadyH.cons rfl (fun K hK => ?_) ?_
                · go_simp
                  refine hK.out _ _ ?_ (fun hHeld => ?_)
                  · first | exact hHeld | exact ⟨k25, k35, k45⟩ | exact ⟨(set_farW (by omega)).trans k25, (set_farW (by omega)).trans k35, (set_farW (by omega)).trans k45⟩
                  clear hK K
                  refine wpAnyH_done (by kernel_rfl) ?_ _
                  have HK6 : Hid (KeysAt (w5.setCell ⟨H, p, none⟩ (.int .i64 z)) H own.length (fillF (fun j => own.getD j 0 - fore x m j) own (p + 1))) := by have := fill_set HK5.out hlt; rwa [← HZ.out] at this
                  have HT6 : Hid (WvAt w x (w5.setCell ⟨H, p, none⟩ (.int .i64 z))) := HT5.out.set hHw
                  clear k25 k35 k45 c05 f05 hHeld
                  go_wp2
                  go_roundg (gk - 1)
                  case rel => exact ⟨p + 1, by omega, by have := HGK.out; omega, by go_num, HK6.out, HT6.out, by simpa using hsz5⟩
                  case measure => have := HGK.out; omega
                exact AllReadyH.nil
              exact AllReadyH.nil
            exact AllReadyH.nil
          · have HF : Hid (RowR (codeRest x own m) (restL x own m) w (.returned (.tuple #[.slice (some ⟨H, 0, none⟩) own.length hcap, .int .i64 0])) wr) :=
              .inr ⟨HC0.out, some ⟨H, 0, none⟩, hcap, by rw [restL_length], fill_end HKA.out (by omega) (restL_length _ _ _) (fun j hj => restL_at (by rwa [restL_length] at hj)) hsz, by rw [restL_length]; exact HCP.out, fun g off h => by cases h; omega, HTA.out.below⟩
            go_wp2
            refine bodyPost_ret (v := .tuple #[.slice (some ⟨H, 0, none⟩) own.length hcap, .int .i64 0]) (by simp [results, Try.results9, go_sem]) rfl ?_
            exact HF.out
    all_goals
      have HC0 := Lib.hid hc
      rw [hc] at HCK
      clear hcc hc hg HI HJ
      go_enter Try.func9, Try.ntmps9
      go_wp2_with fail
      rw [← HWA.out]
      refine HG.out.mono ?_
      rintro e w1 ⟨rfl, hb1⟩
      have HT1 := Lib.hid (HT.out.mono hb1)
      have HC1 := HCK w1 HT1.out.below
      clear hb1 k0 k1 k2 k3 k4 HCK
      go_wp2_with fail
      refine HC1.out.mono ?_
      rintro e w2 ⟨rfl, rfl⟩
      go_wp2
      first
      | (refine bodyPost_ret (v := .tuple #[.slice none 0 0, .int .i64 8]) (by simp [results, Try.results9, go_sem]; done) rfl ?_
         exact HE.out 8 _ HC0.out (by decide) HT1.out.below)
      | (refine bodyPost_ret (v := .tuple #[.slice none 0 0, .int .i64 9]) (by simp [results, Try.results9, go_sem]; done) rfl ?_
         exact HE.out 9 _ HC0.out (by decide) HT1.out.below)
end Go.Proofs.Ytbbcemgcanclnaa
