import Derived.Test.YtnfpkjnllkkngaaGreatDoorGxLagC4

namespace Go.Proofs.YtnfpkjnllkkngaaGreatDoor.Gx
open Go.RowKit Go.Proofs Go.Proofs.PipeA Go.Proofs.LagM
set_option maxRecDepth 100000

set_option maxHeartbeats 3200000 in
theorem cOn (a g : Int) (ao : Option Addr) (cap : Nat) (l : List Int) (w : World) (hl : l.length ≤ 100000) (hi : IntsAt w ao l) :
    Calls Tryz.prog 83 #[termV a g, .slice ao l.length cap] w (OutIs (codeO a g l) (onL a.toNat g l) w) := by
  obtain ⟨wa, hwa⟩ : ∃ wa, wa = w.alloc (.cells #[.int .i64 a, .int .i64 g] 32) := ⟨_, rfl⟩
  have hT : TermAt w a g wa := by rw [hwa]; exact TermAt.new w a g
  have HT := Lib.hid hT
  have HCK := Lib.hid (cCheck a g ao cap l wa (by omega) (hi.below hT.below))
  have HI := Lib.hid hi
  unfold CheckIs at HCK
  unfold termV at HCK ⊢
  clear hi hT
  by_cases hc : codeT a g l = 0
  · obtain ⟨hg, hall⟩ := codeT_zero hc
    obtain ⟨n, rfl, hn, hg0, hg1, hz, _⟩ := goodT_of hg
    have HB := Lib.hid (all_B hall)
    have HC0 := Lib.hid hc
    have HALL := Lib.hid hall
    rw [hc] at HCK
    rw [Int.toNat_natCast]
    clear hc hg hall
    cases ao with
    | none =>
      obtain rfl := HI.out.nil
      have HF : Hid (∀ W, Below w.heap.size w W → OutIs (codeO n g []) (onL n g []) w (.returned (.tuple #[.slice none 0 0, .int .i64 0])) W) := fun W hW => .inr ⟨codeO_ok HC0.out (by simp [onL]), none, 0, rfl, fun j hj => by simp [onL] at hj, by simp [onL], hW⟩
      have HCN := fun W => Lib.hid (cCloneNil cap W)
      simp only [List.length_nil] at *
      go_enter Tryz.func83, Tryz.ntmps83
      go_wp2_with fail
      rw [← hwa]
      refine HCK.out.mono ?_
      rintro e w1 ⟨rfl, hb1⟩
      have hT1 := HT.out.mono hb1
      have HT1 := Lib.hid hT1
      obtain ⟨k0, k1⟩ := hT1.cells
      clear hb1 hT1 HT HCK hwa
      go_wp2_with fail
      refine (HCN _).out.mono ?_
      rintro e w2 ⟨rfl, rfl⟩
      go_wp2
      go_loopg [8] 0 (fun gk i wr => gk = 0 ∧ i = .int .i64 n ∧ w1 = wr)
      case atStart => exact ⟨rfl, rfl, rfl⟩
      case round =>
        obtain ⟨_, rfl, rfl⟩ := hrel
        go_wp2
        refine bodyPost_ret (v := .tuple #[.slice none 0 0, .int .i64 0]) (by simp [results, Tryz.results83, go_sem]) rfl ?_
        exact HF.out _ HT1.out.below
    | some ad =>
      have HCL := fun W h => Lib.hid (cClone ad cap l W hl h)
      go_enter Tryz.func83, Tryz.ntmps83
      go_wp2_with fail
      rw [← hwa]
      refine HCK.out.mono ?_
      rintro e w1 ⟨rfl, hb1⟩
      have hT1 := HT.out.mono hb1
      have HT1 := Lib.hid hT1
      have HI1 := Lib.hid (HI.out.below hT1.below)
      have HC1 := Lib.hid (HCL w1 HI1.out).out
      clear hb1 hT1 HCL HT HCK hwa
      go_wp2_with fail
      refine HC1.out.mono ?_
      rintro e w2 ⟨H, hcap, rfl, hi2, ⟨cur, hcur⟩, hcp, hH, hHlt, hb2⟩
      have hT2 := HT1.out.mono hb2
      have HT2 := Lib.hid hT2
      have hHw : w.heap.size < H := Nat.lt_of_lt_of_le HT1.out.lt hH
      have HI2 := Lib.hid (HI.out.below hT2.below)
      have HK := Lib.hid (fill_start (f := onV n g l) (p := n) hi2 hcur (fun j hj _ => onV_late hj))
      have HCP := Lib.hid hcp
      obtain ⟨k0, k1⟩ := hT2.cells
      clear hi2 hcur hcp hH hb2 hT2
      go_wp2
      go_loopg [8] (l.length - n) (fun gk i wr => ∃ p : Nat, n ≤ p ∧ gk = l.length - p ∧ i = .int .i64 p ∧ Hid (∀ j, j < p → j < l.length → inB (onV n g l j) = true) ∧ Hid (KeysAt wr H l.length (fillF (onV n g l) l p)) ∧ Hid (TermAt w n g wr) ∧ H < wr.heap.size)
      case atStart => exact ⟨n, Nat.le_refl _, rfl, rfl, fun j hj hjl => by rw [onV_late hj, getD_lt hjl]; exact List.all_eq_true.1 HALL.out _ (List.getElem_mem hjl), HK, HT2, hHlt⟩
      case round =>
        obtain ⟨p, hnp, hgk, rfl, HIN, HKA, HTA, hsz⟩ := hrel
        have HGK := Lib.hid hgk
        clear hgk k0 k1 HK HT2 HT1 HC1
        obtain ⟨k0, k1⟩ := HTA.out.cells
        by_cases hlt : p < l.length
        · obtain ⟨q, hq⟩ : ∃ q, q = p - n := ⟨_, rfl⟩
          have hqi : IntKind.i64.wrap ((p : Int) - (n : Int)) = (q : Int) := by rw [IntWalk.i64_in _ (by omega)]; omega
          have hql : q < l.length := by omega
          obtain ⟨x, hx⟩ : ∃ x, x = if q < p then onV n g l q else l.getD q 0 := ⟨_, rfl⟩
          have hxb : -1099511627776 ≤ x ∧ x ≤ 1099511627776 := by
            rw [hx]
            split
            · exact inB_of (HIN.out q (by assumption) hql)
            · exact get_bound HB.out q
          have hyb := HB.out _ (List.getElem_mem hlt)
          have htb := tk_bound ⟨hg0, hg1⟩ hxb
          have HTK := fun W => Lib.hid (cTaken n g x W ⟨hg0, hg1⟩ hxb)
          unfold termV at HTK
          have hzp : l[p] + tk g x = onV n g l p := by
            rw [onV_from hz hnp, getD_lt hlt, ← hq, hx]
            by_cases e : q < p
            · rw [if_pos e]
            · obtain rfl : n = 0 := by omega
              rw [hz rfl, tk_zero, tk_zero]
          obtain ⟨c0, f0⟩ := fill_at HKA.out hlt l[p] (by rw [if_neg (Nat.lt_irrefl _), getD_lt hlt])
          obtain ⟨h0, _⟩ := fill_at HKA.out hql x hx.symm
          obtain ⟨z, hzz⟩ : ∃ z, z = onV n g l p := ⟨_, rfl⟩
          rw [← hzz] at hzp
          have HZ := Lib.hid hzz
          have HYP := Lib.hid (getD_lt hlt)
          have HXX := Lib.hid hx
          generalize l[p] = y at *
          generalize tk g x = t at *
          have hw : IntKind.i64.wrap (y + t) = z := by rw [IntWalk.i64_in _ (by omega)]; omega
          have HL := fun W => Lib.hid (cOutside z W)
          have HNX : Hid (inB z = true → ∀ j, j < p + 1 → j < l.length → inB (onV n g l j) = true) := fun h j hj hjl => by
            by_cases e : j < p
            · exact HIN.out j e hjl
            · obtain rfl : j = p := by omega
              rw [← HZ.out]; exact h
          have HBAD : Hid (inB z = false → codeO (n : Int) g l = 9) := fun h => by
            refine codeO_bad HC0.out ?_
            cases ha : (onL n g l).all inB with
            | false => rfl
            | true =>
              have := List.all_eq_true.1 ha _ (List.getElem_mem (show p < (onL n g l).length by rw [onL_length]; exact hlt))
              rw [onL_at hlt, ← HZ.out, h] at this
              cases this
          have HTD := Lib.hid (HTA.out.drewN 1)
          have HKD : Hid (KeysAt wr.drew H l.length (fillF (onV n g l) l p)) := HKA.out
          have hszd : H < wr.drew.heap.size := hsz
          clear hzz hzp hxb hyb htb hx hq
          go_wp2_with fail
          refine wp_region_held_drew (S := fun w' => w'.cell? ⟨w.heap.size, 0, none⟩ = some (.int .i64 (n : Int)) ∧ w'.cell? ⟨w.heap.size, 1, none⟩ = some (.int .i64 g)) (by kernel_rfl) ⟨k0, k1⟩ (fun hHeld => ?_)
          refine take_at (i := 0) (d := some 25) (v := ?_) rfl rfl (by kernel_rfl) (by kernel_rfl) (by kernel_rfl) (fun _ _ _ h => h) (Or.inl ⟨by rfl, ?_⟩) hHeld ?_
          rotate_left
          · intro w9 hSw; obtain ⟨s0, s1⟩ := hSw; go_simp; try with_reducible rfl
          simp only [Act.put, List.setIfInBounds_toArray, List.set_cons_zero, List.set_cons_succ]
          refine take_at (i := 1) (d := some 26) (v := ?_) rfl rfl (by kernel_rfl) (by kernel_rfl) (by kernel_rfl) (fun _ _ _ h => h) (Or.inl ⟨by rfl, ?_⟩) hHeld ?_
          rotate_left
          · intro w9 hSw; obtain ⟨s0, s1⟩ := hSw; go_simp; try with_reducible rfl
          simp only [Act.put, List.setIfInBounds_toArray, List.set_cons_zero, List.set_cons_succ]
          refine take_at (i := 2) (d := some 27) (v := ?_) rfl rfl (by kernel_rfl) (by kernel_rfl) (by kernel_rfl) (fun _ _ _ h => h) (Or.inl ⟨by rfl, ?_⟩) hHeld ?_
          rotate_left
          · intro w9 hSw; obtain ⟨s0, s1⟩ := hSw; go_simp; try with_reducible rfl
          simp only [Act.put, List.setIfInBounds_toArray, List.set_cons_zero, List.set_cons_succ]
          refine take_at (i := 4) (d := some 29) (v := ?_) rfl rfl (by kernel_rfl) (by kernel_rfl) (by kernel_rfl) (fun _ _ _ h => h) (Or.inl ⟨by rfl, ?_⟩) hHeld ?_
          rotate_left
          · intro w9 hSw; obtain ⟨s0, s1⟩ := hSw; go_simp; try with_reducible rfl
          simp only [Act.put, List.setIfInBounds_toArray, List.set_cons_zero, List.set_cons_succ]
          refine take_at (i := 5) (d := some 30) (v := ?_) rfl rfl (by kernel_rfl) (by kernel_rfl) (by kernel_rfl) (fun _ _ _ h => h) (Or.inl ⟨by rfl, ?_⟩) hHeld ?_
          rotate_left
          · intro w9 hSw; obtain ⟨s0, s1⟩ := hSw; go_simp; try with_reducible rfl
          simp only [Act.put, List.setIfInBounds_toArray, List.set_cons_zero, List.set_cons_succ]
          refine take_at (i := 6) (d := some 31) (v := ?_) rfl rfl (by kernel_rfl) (by kernel_rfl) (by kernel_rfl) (fun _ _ _ h => h) (Or.inl ⟨by rfl, ?_⟩) hHeld ?_
          rotate_left
          · intro w9 hSw; obtain ⟨s0, s1⟩ := hSw; go_simp; try with_reducible rfl
          simp only [Act.put, List.setIfInBounds_toArray, List.set_cons_zero, List.set_cons_succ]
          refine take_at (i := 7) (d := some 32) (v := ?_) rfl rfl (by kernel_rfl) (by kernel_rfl) (by kernel_rfl) (fun _ _ _ h => h) (Or.inl ⟨by rfl, ?_⟩) hHeld ?_
          rotate_left
          · intro w9 hSw; obtain ⟨s0, s1⟩ := hSw; go_simp; try with_reducible rfl
          simp only [Act.put, List.setIfInBounds_toArray, List.set_cons_zero, List.set_cons_succ]
          refine take_at (i := 8) (d := some 33) (v := ?_) rfl rfl (by kernel_rfl) (by kernel_rfl) (by kernel_rfl) (fun _ _ _ h => h) (Or.inl ⟨by rfl, ?_⟩) hHeld ?_
          rotate_left
          · intro w9 hSw; obtain ⟨s0, s1⟩ := hSw; go_simp; try with_reducible rfl
          simp only [Act.put, List.setIfInBounds_toArray, List.set_cons_zero, List.set_cons_succ]
          refine take_at (i := 9) (d := some 34) (v := ?_) rfl rfl (by kernel_rfl) (by kernel_rfl) (by kernel_rfl) (fun _ _ _ h => h) (Or.inl ⟨by rfl, ?_⟩) hHeld ?_
          rotate_left
          · intro w9 hSw; obtain ⟨s0, s1⟩ := hSw; go_simp; try with_reducible rfl
          simp only [Act.put, List.setIfInBounds_toArray, List.set_cons_zero, List.set_cons_succ]
          refine take_at (i := 10) (d := some 35) (v := ?_) rfl rfl (by kernel_rfl) (by kernel_rfl) (by kernel_rfl) (fun _ _ _ h => h) (Or.inl ⟨by rfl, ?_⟩) hHeld ?_
          rotate_left
          · intro w9 hSw; obtain ⟨s0, s1⟩ := hSw; go_simp; try with_reducible rfl
          simp only [Act.put, List.setIfInBounds_toArray, List.set_cons_zero, List.set_cons_succ]
          refine wpAnyH_ready (rs := [3, 11]) (by kernel_rfl) (by simp) ?_
          refine AllReadyH.cons rfl (fun K hK => ?_) ?_
          · go_simp
            refine hK.out _ _ ?_ (fun hHeld => ?_)
            · first | exact hHeld | exact ⟨k05, k15⟩ | exact ⟨(set_far (by omega)).trans k05, (set_far (by omega)).trans k15⟩
            clear hK K
            refine wpAnyH_ready (rs := [11]) (by kernel_rfl) (by simp) ?_
            refine AllReadyH.cons rfl (fun K hK => ?_) ?_
            · go_simp
              refine hK.out _ _ ?_ (fun hHeld => ?_)
              · first | exact hHeld | exact ⟨k05, k15⟩ | exact ⟨(set_far (by omega)).trans k05, (set_far (by omega)).trans k15⟩
              clear hK K
              refine wpAnyH_ready (rs := [12]) (by kernel_rfl) (by simp) ?_
              refine AllReadyH.cons rfl (fun K hK => ?_) ?_
              · go_simp
                go_at_call 73
                refine (HTK _).out.mono ?_
                rintro e w5 ⟨rfl, hb5⟩
                have HT5 := Lib.hid (HTD.out.mono hb5)
                have HK5 := Lib.hid (HKD.out.keeps (keeps_of_below hb5 []) (by simp) hszd)
                have k05 := HT5.out.cells.1
                have k15 := HT5.out.cells.2
                have c05 := (fill_at HK5.out hlt y (by rw [if_neg (Nat.lt_irrefl _), HYP.out])).1
                have f05 := (fill_at HK5.out hlt y (by rw [if_neg (Nat.lt_irrefl _), HYP.out])).2
                have hsz5 : H < w5.heap.size := Nat.lt_of_lt_of_le hszd hb5.size
                clear hb5
                go_wp2
                refine hK.out _ _ ?_ (fun hHeld => ?_)
                · first | exact hHeld | exact ⟨k05, k15⟩ | exact ⟨(set_far (by omega)).trans k05, (set_far (by omega)).trans k15⟩
                clear hK K
                refine take_at (i := 13) (d := some 38) (v := ?_) rfl rfl (by kernel_rfl) (by kernel_rfl) (by kernel_rfl) (fun _ _ _ h => h) (Or.inl ⟨by rfl, ?_⟩) hHeld ?_
                rotate_left
                · intro w9 hSw; obtain ⟨s0, s1⟩ := hSw; go_simp; try with_reducible rfl
                simp only [Act.put, List.setIfInBounds_toArray, List.set_cons_zero, List.set_cons_succ]
                refine take_at (i := 14) (d := some 39) (v := ?_) rfl rfl (by kernel_rfl) (by kernel_rfl) (by kernel_rfl) (fun _ _ _ h => h) (Or.inl ⟨by rfl, ?_⟩) hHeld ?_
                rotate_left
                · intro w9 hSw; obtain ⟨s0, s1⟩ := hSw; go_simp; try with_reducible rfl
                simp only [Act.put, List.setIfInBounds_toArray, List.set_cons_zero, List.set_cons_succ]
                refine wpAnyH_ready (rs := [15]) (by kernel_rfl) (by simp) ?_
                refine AllReadyH.cons rfl (fun K hK => ?_) ?_
                · go_simp
                  refine hK.out _ _ ?_ (fun hHeld => ?_)
                  · first | exact hHeld | exact ⟨k05, k15⟩ | exact ⟨(set_far (by omega)).trans k05, (set_far (by omega)).trans k15⟩
                  clear hK K
                  refine wpAnyH_done (by kernel_rfl) ?_ _
                  have HK6 : Hid (KeysAt (w5.setCell ⟨H, p, none⟩ (.int .i64 z)) H l.length (fillF (onV n g l) l (p + 1))) := by have := fill_set HK5.out hlt; rwa [← HZ.out] at this
                  have HT6 : Hid (TermAt w n g (w5.setCell ⟨H, p, none⟩ (.int .i64 z))) := HT5.out.set hHw
                  have hsz6 : H < (w5.setCell ⟨H, p, none⟩ (.int .i64 z)).heap.size := by simpa using hsz5
                  have c6 := (fill_at HK6.out hlt z (by rw [if_pos (Nat.lt_succ_self _), HZ.out])).1
                  clear k05 k15 c05 f05 hHeld HT5 HK5 hsz5
                  generalize w5.setCell ⟨H, p, none⟩ (.int .i64 z) = w6 at *
                  cases hzi : inB z with
                  | false =>
                    have HF : Hid (OutIs (codeO n g l) (onL n g l) w (.returned (.tuple #[.slice none 0 0, .int .i64 9])) w6) := OutIs.no (HBAD.out hzi) (by omega) HT6.out.below
                    rw [hzi] at HL
                    clear hzi HNX HBAD
                    go_wp2_with fail
                    refine (HL _).out.mono ?_
                    rintro e w7 ⟨rfl, rfl⟩
                    go_wp2
                    refine bodyPost_ret (v := .tuple #[.slice none 0 0, .int .i64 9]) (by simp [results, Tryz.results83, go_sem]) rfl ?_
                    exact HF.out
                  | true =>
                    have HN2 := Lib.hid (HNX.out hzi)
                    rw [hzi] at HL
                    clear hzi HNX HBAD
                    go_wp2_with fail
                    refine (HL _).out.mono ?_
                    rintro e w7 ⟨rfl, rfl⟩
                    go_wp2
                    go_roundg (gk - 1)
                    case rel => exact ⟨p + 1, by omega, by have := HGK.out; omega, by go_num, HN2.out, HK6.out, HT6.out, hsz6⟩
                    case measure => have := HGK.out; omega
                exact AllReadyH.nil
              exact AllReadyH.nil
            exact AllReadyH.nil
          refine AllReadyH.cons rfl (fun K hK => ?_) ?_
          · go_simp
            refine hK.out _ _ ?_ (fun hHeld => ?_)
            · first | exact hHeld | exact ⟨k05, k15⟩ | exact ⟨(set_far (by omega)).trans k05, (set_far (by omega)).trans k15⟩
            clear hK K
            refine wpAnyH_ready (rs := [3, 12]) (by kernel_rfl) (by simp) ?_
            refine AllReadyH.cons rfl (fun K hK => ?_) ?_
            · go_simp
              refine hK.out _ _ ?_ (fun hHeld => ?_)
              · first | exact hHeld | exact ⟨k05, k15⟩ | exact ⟨(set_far (by omega)).trans k05, (set_far (by omega)).trans k15⟩
              clear hK K
              refine wpAnyH_ready (rs := [12]) (by kernel_rfl) (by simp) ?_
              refine AllReadyH.cons rfl (fun K hK => ?_) ?_
              · go_simp
                go_at_call 73
                refine (HTK _).out.mono ?_
                rintro e w5 ⟨rfl, hb5⟩
                have HT5 := Lib.hid (HTD.out.mono hb5)
                have HK5 := Lib.hid (HKD.out.keeps (keeps_of_below hb5 []) (by simp) hszd)
                have k05 := HT5.out.cells.1
                have k15 := HT5.out.cells.2
                have c05 := (fill_at HK5.out hlt y (by rw [if_neg (Nat.lt_irrefl _), HYP.out])).1
                have f05 := (fill_at HK5.out hlt y (by rw [if_neg (Nat.lt_irrefl _), HYP.out])).2
                have hsz5 : H < w5.heap.size := Nat.lt_of_lt_of_le hszd hb5.size
                clear hb5
                go_wp2
                refine hK.out _ _ ?_ (fun hHeld => ?_)
                · first | exact hHeld | exact ⟨k05, k15⟩ | exact ⟨(set_far (by omega)).trans k05, (set_far (by omega)).trans k15⟩
                clear hK K
                refine take_at (i := 13) (d := some 38) (v := ?_) rfl rfl (by kernel_rfl) (by kernel_rfl) (by kernel_rfl) (fun _ _ _ h => h) (Or.inl ⟨by rfl, ?_⟩) hHeld ?_
                rotate_left
                · intro w9 hSw; obtain ⟨s0, s1⟩ := hSw; go_simp; try with_reducible rfl
                simp only [Act.put, List.setIfInBounds_toArray, List.set_cons_zero, List.set_cons_succ]
                refine take_at (i := 14) (d := some 39) (v := ?_) rfl rfl (by kernel_rfl) (by kernel_rfl) (by kernel_rfl) (fun _ _ _ h => h) (Or.inl ⟨by rfl, ?_⟩) hHeld ?_
                rotate_left
                · intro w9 hSw; obtain ⟨s0, s1⟩ := hSw; go_simp; try with_reducible rfl
                simp only [Act.put, List.setIfInBounds_toArray, List.set_cons_zero, List.set_cons_succ]
                refine wpAnyH_ready (rs := [15]) (by kernel_rfl) (by simp) ?_
                refine AllReadyH.cons rfl (fun K hK => ?_) ?_
                · go_simp
                  refine hK.out _ _ ?_ (fun hHeld => ?_)
                  · first | exact hHeld | exact ⟨k05, k15⟩ | exact ⟨(set_far (by omega)).trans k05, (set_far (by omega)).trans k15⟩
                  clear hK K
                  refine wpAnyH_done (by kernel_rfl) ?_ _
                  have HK6 : Hid (KeysAt (w5.setCell ⟨H, p, none⟩ (.int .i64 z)) H l.length (fillF (onV n g l) l (p + 1))) := by have := fill_set HK5.out hlt; rwa [← HZ.out] at this
                  have HT6 : Hid (TermAt w n g (w5.setCell ⟨H, p, none⟩ (.int .i64 z))) := HT5.out.set hHw
                  have hsz6 : H < (w5.setCell ⟨H, p, none⟩ (.int .i64 z)).heap.size := by simpa using hsz5
                  have c6 := (fill_at HK6.out hlt z (by rw [if_pos (Nat.lt_succ_self _), HZ.out])).1
                  clear k05 k15 c05 f05 hHeld HT5 HK5 hsz5
                  generalize w5.setCell ⟨H, p, none⟩ (.int .i64 z) = w6 at *
                  cases hzi : inB z with
                  | false =>
                    have HF : Hid (OutIs (codeO n g l) (onL n g l) w (.returned (.tuple #[.slice none 0 0, .int .i64 9])) w6) := OutIs.no (HBAD.out hzi) (by omega) HT6.out.below
                    rw [hzi] at HL
                    clear hzi HNX HBAD
                    go_wp2_with fail
                    refine (HL _).out.mono ?_
                    rintro e w7 ⟨rfl, rfl⟩
                    go_wp2
                    refine bodyPost_ret (v := .tuple #[.slice none 0 0, .int .i64 9]) (by simp [results, Tryz.results83, go_sem]) rfl ?_
                    exact HF.out
                  | true =>
                    have HN2 := Lib.hid (HNX.out hzi)
                    rw [hzi] at HL
                    clear hzi HNX HBAD
                    go_wp2_with fail
                    refine (HL _).out.mono ?_
                    rintro e w7 ⟨rfl, rfl⟩
                    go_wp2
                    go_roundg (gk - 1)
                    case rel => exact ⟨p + 1, by omega, by have := HGK.out; omega, by go_num, HN2.out, HK6.out, HT6.out, hsz6⟩
                    case measure => have := HGK.out; omega
                exact AllReadyH.nil
              exact AllReadyH.nil
            refine AllReadyH.cons rfl (fun K hK => ?_) ?_
            · go_simp
              go_at_call 73
              refine (HTK _).out.mono ?_
              rintro e w5 ⟨rfl, hb5⟩
              have HT5 := Lib.hid (HTD.out.mono hb5)
              have HK5 := Lib.hid (HKD.out.keeps (keeps_of_below hb5 []) (by simp) hszd)
              have k05 := HT5.out.cells.1
              have k15 := HT5.out.cells.2
              have c05 := (fill_at HK5.out hlt y (by rw [if_neg (Nat.lt_irrefl _), HYP.out])).1
              have f05 := (fill_at HK5.out hlt y (by rw [if_neg (Nat.lt_irrefl _), HYP.out])).2
              have hsz5 : H < w5.heap.size := Nat.lt_of_lt_of_le hszd hb5.size
              clear hb5
              go_wp2
              refine hK.out _ _ ?_ (fun hHeld => ?_)
              · first | exact hHeld | exact ⟨k05, k15⟩ | exact ⟨(set_far (by omega)).trans k05, (set_far (by omega)).trans k15⟩
              clear hK K
              refine wpAnyH_ready (rs := [3]) (by kernel_rfl) (by simp) ?_
              refine AllReadyH.cons rfl (fun K hK => ?_) ?_
              · go_simp
                refine hK.out _ _ ?_ (fun hHeld => ?_)
                · first | exact hHeld | exact ⟨k05, k15⟩ | exact ⟨(set_far (by omega)).trans k05, (set_far (by omega)).trans k15⟩
                clear hK K
                refine take_at (i := 13) (d := some 38) (v := ?_) rfl rfl (by kernel_rfl) (by kernel_rfl) (by kernel_rfl) (fun _ _ _ h => h) (Or.inl ⟨by rfl, ?_⟩) hHeld ?_
                rotate_left
                · intro w9 hSw; obtain ⟨s0, s1⟩ := hSw; go_simp; try with_reducible rfl
                simp only [Act.put, List.setIfInBounds_toArray, List.set_cons_zero, List.set_cons_succ]
                refine take_at (i := 14) (d := some 39) (v := ?_) rfl rfl (by kernel_rfl) (by kernel_rfl) (by kernel_rfl) (fun _ _ _ h => h) (Or.inl ⟨by rfl, ?_⟩) hHeld ?_
                rotate_left
                · intro w9 hSw; obtain ⟨s0, s1⟩ := hSw; go_simp; try with_reducible rfl
                simp only [Act.put, List.setIfInBounds_toArray, List.set_cons_zero, List.set_cons_succ]
                refine wpAnyH_ready (rs := [15]) (by kernel_rfl) (by simp) ?_
                refine AllReadyH.cons rfl (fun K hK => ?_) ?_
                · go_simp
                  refine hK.out _ _ ?_ (fun hHeld => ?_)
                  · first | exact hHeld | exact ⟨k05, k15⟩ | exact ⟨(set_far (by omega)).trans k05, (set_far (by omega)).trans k15⟩
                  clear hK K
                  refine wpAnyH_done (by kernel_rfl) ?_ _
                  have HK6 : Hid (KeysAt (w5.setCell ⟨H, p, none⟩ (.int .i64 z)) H l.length (fillF (onV n g l) l (p + 1))) := by have := fill_set HK5.out hlt; rwa [← HZ.out] at this
                  have HT6 : Hid (TermAt w n g (w5.setCell ⟨H, p, none⟩ (.int .i64 z))) := HT5.out.set hHw
                  have hsz6 : H < (w5.setCell ⟨H, p, none⟩ (.int .i64 z)).heap.size := by simpa using hsz5
                  have c6 := (fill_at HK6.out hlt z (by rw [if_pos (Nat.lt_succ_self _), HZ.out])).1
                  clear k05 k15 c05 f05 hHeld HT5 HK5 hsz5
                  generalize w5.setCell ⟨H, p, none⟩ (.int .i64 z) = w6 at *
                  cases hzi : inB z with
                  | false =>
                    have HF : Hid (OutIs (codeO n g l) (onL n g l) w (.returned (.tuple #[.slice none 0 0, .int .i64 9])) w6) := OutIs.no (HBAD.out hzi) (by omega) HT6.out.below
                    rw [hzi] at HL
                    clear hzi HNX HBAD
                    go_wp2_with fail
                    refine (HL _).out.mono ?_
                    rintro e w7 ⟨rfl, rfl⟩
                    go_wp2
                    refine bodyPost_ret (v := .tuple #[.slice none 0 0, .int .i64 9]) (by simp [results, Tryz.results83, go_sem]) rfl ?_
                    exact HF.out
                  | true =>
                    have HN2 := Lib.hid (HNX.out hzi)
                    rw [hzi] at HL
                    clear hzi HNX HBAD
                    go_wp2_with fail
                    refine (HL _).out.mono ?_
                    rintro e w7 ⟨rfl, rfl⟩
                    go_wp2
                    go_roundg (gk - 1)
                    case rel => exact ⟨p + 1, by omega, by have := HGK.out; omega, by go_num, HN2.out, HK6.out, HT6.out, hsz6⟩
                    case measure => have := HGK.out; omega
                exact AllReadyH.nil
              exact AllReadyH.nil
            exact AllReadyH.nil
          exact AllReadyH.nil
        · have HF : Hid (OutIs (codeO n g l) (onL n g l) w (.returned (.tuple #[.slice (some ⟨H, 0, none⟩) l.length hcap, .int .i64 0])) wr) :=
            .inr ⟨codeO_ok HC0.out (onL_all fun j hj => HIN.out j (by omega) hj), some ⟨H, 0, none⟩, hcap, by rw [onL_length], fill_end HKA.out (by omega) (onL_length _ _ _) (fun j hj => onL_at (by rwa [onL_length] at hj)) hsz, by rw [onL_length]; exact HCP.out, HTA.out.below⟩
          go_wp2
          refine bodyPost_ret (v := .tuple #[.slice (some ⟨H, 0, none⟩) l.length hcap, .int .i64 0]) (by simp [results, Tryz.results83, go_sem]) rfl ?_
          exact HF.out
  · rcases codeT_cases a g l with h | h | h
    · exact absurd h hc
    all_goals
      have hco : codeO a g l = codeT a g l := codeO_not hc
      have HF : Hid (∀ W, Below w.heap.size w W → OutIs (codeO a g l) (onL a.toNat g l) w (.returned (.tuple #[.slice none 0 0, .int .i64 (codeT a g l)])) W) := fun W hW => .inl ⟨by rw [hco]; exact hc, by rw [hco], hW⟩
      rw [h] at hco HCK HF
      rw [hco] at HF ⊢
      clear hc h hco
      go_enter Tryz.func83, Tryz.ntmps83
      go_wp2_with fail
      rw [← hwa]
      refine HCK.out.mono ?_
      rintro e w1 ⟨rfl, hb1⟩
      have HT1 := Lib.hid (HT.out.mono hb1)
      clear hb1
      go_wp2
      first
      | (refine bodyPost_ret (v := .tuple #[.slice none 0 0, .int .i64 1]) (by simp [results, Tryz.results83, go_sem]; done) rfl ?_
         exact HF.out _ HT1.out.below)
      | (refine bodyPost_ret (v := .tuple #[.slice none 0 0, .int .i64 9]) (by simp [results, Tryz.results83, go_sem]; done) rfl ?_
         exact HF.out _ HT1.out.below)
end Go.Proofs.YtnfpkjnllkkngaaGreatDoor.Gx
