import Derived.Test.YtbbcemgcanclnaaWefC6
namespace Go.Proofs.Ytbbcemgcanclnaa
open Go.RowKit Go.Proofs Go.Proofs.PipeM Go.Proofs.PipeA Go.Proofs.WefM
set_option maxRecDepth 100000

/-- What comes out at a place, in 64 bits. -/
def bkF (x : Wv) (own m : List Int) (j : Nat) : Int := IntKind.i64.wrap (own.getD j 0 + fore x m j)
theorem bkF_in {y t most : Int} (hy : -9223372036854775808 ≤ y ∧ y ≤ 9223372036854775807) (ht : -25165824 ≤ t ∧ t ≤ 25165824) (hm : 0 ≤ most ∧ most ≤ 8388607) : inM most (IntKind.i64.wrap (y + t)) = inM most (y + t) := by
  unfold inM
  rw [IntKind.wrap_i64]
  exact decide_eq_decide.2 (by omega)
theorem bkF_at {x : Wv} {own m : List Int} {j : Nat} {most : Int} (hm : 0 ≤ most ∧ most ≤ 8388607) (hy : -9223372036854775808 ≤ own.getD j 0 ∧ own.getD j 0 ≤ 9223372036854775807) (ht : -25165824 ≤ fore x m j ∧ fore x m j ≤ 25165824) (h : inM most (bkF x own m j) = true) : bkF x own m j = own.getD j 0 + fore x m j := by
  unfold bkF at h ⊢
  rw [bkF_in hy ht hm] at h
  have := of_decide_eq_true h
  rw [IntKind.wrap_i64]
  omega
theorem codeAhead_zero {x : Wv} {n : Nat} {m : List Int} {most : Int} (h : codeAhead x n m most = 0) : goodW x 8 = true ∧ n = m.length ∧ (0 ≤ most ∧ most ≤ 8388607) ∧ m.all inS = true := by
  unfold codeAhead at h
  split at h
  · rename_i h1
    split at h
    · rename_i h2
      split at h
      · rename_i h3
        split at h
        · rename_i h4; exact ⟨h1, h2, h3, h4⟩
        · cases h
      · cases h
    · cases h
  · cases h
theorem codeBack_ahead {x : Wv} {own m : List Int} {most : Int} (h : codeAhead x own.length m most ≠ 0) : codeBack x own m most = codeAhead x own.length m most := by
  unfold codeBack
  unfold codeAhead at h ⊢
  split
  · split
    · split
      · split
        · rename_i h1 h2 h3 h4
          rw [if_pos h1, if_pos h2, if_pos h3, if_pos h4] at h
          exact absurd rfl h
        · rfl
      · rfl
    · rfl
  · rfl
theorem codeAhead_cases (x : Wv) (n : Nat) (m : List Int) (most : Int) : codeAhead x n m most = 0 ∨ codeAhead x n m most = 2 ∨ codeAhead x n m most = 8 ∨ codeAhead x n m most = 1 ∨ codeAhead x n m most = 9 := by
  unfold codeAhead
  split
  · split
    · split
      · split <;> simp
      · simp
    · simp
  · simp
theorem codeBack_ok {x : Wv} {own m : List Int} {most : Int} (h : codeAhead x own.length m most = 0) : codeBack x own m most = if (backL x own m).all (inM most) then 0 else 9 := by
  obtain ⟨h1, h2, h3, h4⟩ := codeAhead_zero h
  unfold codeBack
  rw [if_pos h1, if_pos h2, if_pos h3, if_pos h4]
theorem back_bad {x : Wv} {own m : List Int} {most : Int} {j : Nat} (h : codeAhead x own.length m most = 0) (ho : ∀ y ∈ own, -9223372036854775808 ≤ y ∧ y ≤ 9223372036854775807) (hj : j < own.length) (hf : inM most (bkF x own m j) = false) : codeBack x own m most = 9 := by
  obtain ⟨h1, h2, h3, h4⟩ := codeAhead_zero h
  have hy := ho _ (List.getElem_mem hj)
  rw [← getD_ltW hj] at hy
  unfold bkF at hf
  rw [bkF_in hy (fore_bound h1 h4 j) h3] at hf
  rw [codeBack_ok h]
  cases hh : (backL x own m).all (inM most) with
  | false => rfl
  | true =>
    have h5 := List.all_eq_true.1 hh _ (List.getElem_mem (l := backL x own m) (by rw [backL_length]; exact hj))
    rw [backL_at hj] at h5
    exact absurd (h5.symm.trans hf) (by decide)
theorem back_good {x : Wv} {own m : List Int} {most : Int} (h : codeAhead x own.length m most = 0) (ho : ∀ y ∈ own, -9223372036854775808 ≤ y ∧ y ≤ 9223372036854775807) (hf : ∀ j, j < own.length → inM most (bkF x own m j) = true) : codeBack x own m most = 0 ∧ ∀ j (hj : j < own.length), (backL x own m)[j]'(by rw [backL_length]; exact hj) = bkF x own m j := by
  obtain ⟨h1, h2, h3, h4⟩ := codeAhead_zero h
  have e : ∀ j (hj : j < own.length), (backL x own m)[j]'(by rw [backL_length]; exact hj) = bkF x own m j := fun j hj => by
    have hy := ho _ (List.getElem_mem hj)
    rw [← getD_ltW hj] at hy
    rw [backL_at hj, bkF_at h3 hy (fore_bound h1 h4 j) (hf j hj)]
  refine ⟨?_, e⟩
  rw [codeBack_ok h, if_pos]
  rw [List.all_eq_true]
  intro y hy
  obtain ⟨i, hi, rfl⟩ := List.mem_iff_getElem.1 hy
  have hi' : i < own.length := by rw [backL_length] at hi; exact hi
  rw [e i hi']
  exact hf i hi'

set_option maxHeartbeats 3200000 in
theorem cBackW' (x : Wv) (ao bo : Option Addr) (cap cap2 : Nat) (own m : List Int) (most : Int) (w : World) (ho : ∀ y ∈ own, -9223372036854775808 ≤ y ∧ y ≤ 9223372036854775807) (hl : own.length ≤ 100000) (hl2 : m.length ≤ 100000) (hi : IntsAt w ao own) (hj : IntsAt w bo m) :
    Calls Try.prog 12 #[wvV x, .slice ao own.length cap, .slice bo m.length cap2, .int .i64 most] w (RowR (codeBack x own m most) (backL x own m) w) := by
  obtain ⟨wa, hwa⟩ : ∃ wa, wa = w.alloc (.cells #[.bool x.some, .int .i64 x.master, .int .i64 x.g0, .int .i64 x.g1, .int .i64 x.g2] 24) := ⟨_, rfl⟩
  have hT : WvAt w x wa := by rw [hwa]; exact WvAt.new w x
  have HT := Lib.hid hT
  have HCK := Lib.hid (cCheckBackW x ao bo cap cap2 own.length m most wa (by omega) (hj.below hT.below))
  have HI := Lib.hid hi
  have HJ := Lib.hid hj
  have HWA := Lib.hid hwa
  have HE : Hid (∀ c W, codeBack x own m most = c → c ≠ 0 → Below w.heap.size w W → RowR (codeBack x own m most) (backL x own m) w (.returned (.tuple #[.slice none 0 0, .int .i64 c])) W) := fun c W h1 h2 hb => by
    subst h1; exact .inl ⟨h2, rfl, hb⟩
  have hcases := codeAhead_cases x own.length m most
  obtain ⟨k0, k1, k2, k3, k4⟩ := hT.cells
  unfold wvV at HCK ⊢
  clear hi hj hwa hT
  by_cases hc : codeAhead x own.length m most = 0
  · obtain ⟨hg, hlen, hmost, hmS⟩ := codeAhead_zero hc
    have hgs := good_gains hg
    have HFO : Hid (∀ i W, i < m.length → Below w.heap.size w W → Calls Try.prog 26 #[gnV x, .slice bo m.length cap2, .int .i64 i] W fun e w' => e = .returned (.int .i64 (fore x m i)) ∧ Below W.heap.size W w') := fun i W h hb => cForeseen x bo cap2 m i W hgs hmS hl2 h (HJ.out.below hb)
    have HOU : Hid (∀ n W, Calls Try.prog 31 #[.int .i64 n, .int .i64 most] W fun e w' => e = .returned (.bool (!inM most n)) ∧ W = w') := fun n W => cOutsideW n most W hmost
    have HBAD : Hid (∀ j, j < own.length → inM most (bkF x own m j) = false → codeBack x own m most = 9) := fun j hj hf => back_bad hc ho hj hf
    have HGOOD : Hid ((∀ j, j < own.length → inM most (bkF x own m j) = true) → codeBack x own m most = 0 ∧ ∀ j (hj : j < own.length), (backL x own m)[j]'(by rw [backL_length]; exact hj) = bkF x own m j) := fun hf => back_good hc ho hf
    have HLEN := Lib.hid hlen
    unfold gnV at HFO
    rw [hc] at HCK
    clear hcases hc hg hmost hmS hgs hlen
    cases ao with
    | none =>
      have hn0 : own = [] := HI.out.nil
      subst hn0
      have HF : Hid (∀ W, Below w.heap.size w W → RowR (codeBack x [] m most) (backL x [] m) w (.returned (.tuple #[.slice none 0 0, .int .i64 0])) W) := fun W hW => .inr ⟨(HGOOD.out (fun j hj => by simp at hj)).1, none, 0, rfl, fun j hj => by simp [backL] at hj, by simp [backL], (fun g off h => nomatch h), hW⟩
      have HCN := fun W => Lib.hid (cCloneNil cap W)
      simp only [List.length_nil] at *
      go_enter Try.func12, Try.ntmps12
      go_wp2_with fail
      rw [← HWA.out]
      refine HCK.out.mono ?_
      rintro e w1 ⟨rfl, hb1⟩
      have HT1 := Lib.hid (HT.out.mono hb1)
      clear hb1 k0 k1 k2 k3 k4 HCK
      go_wp2_with fail
      refine (HCN _).out.mono ?_
      rintro e w3 ⟨rfl, rfl⟩
      go_wp2
      go_loopg [12, 25] 0 (fun gk q i wr => gk = 0 ∧ i = .int .i64 0 ∧ w1 = wr)
      case atStart => exact ⟨rfl, rfl, rfl⟩
      case round =>
        obtain ⟨_, rfl, rfl⟩ := hrel
        go_wp2
        refine bodyPost_ret (v := .tuple #[.slice none 0 0, .int .i64 0]) (by simp [results, Try.results12, go_sem]) rfl ?_
        exact HF.out _ HT1.out.below
    | some ad =>
      have HCL := fun W h => Lib.hid (cClone ad cap own W hl h)
      go_enter Try.func12, Try.ntmps12
      go_wp2_with fail
      rw [← HWA.out]
      refine HCK.out.mono ?_
      rintro e w1 ⟨rfl, hb1⟩
      have HT1 := Lib.hid (HT.out.mono hb1)
      have HI1 := Lib.hid (HI.out.below HT1.out.below)
      have HCL1 := HCL w1 HI1.out
      clear hb1 k0 k1 k2 k3 k4 HCK HCL
      go_wp2_with fail
      refine HCL1.out.mono ?_
      rintro e w2 ⟨H, hcap, rfl, hi2, ⟨cur, hcur⟩, hcp, hH, hHlt, hb2⟩
      have HT2 := Lib.hid (HT1.out.mono hb2)
      have hHw : w.heap.size < H := Nat.lt_of_lt_of_le HT1.out.lt hH
      have HK := Lib.hid (fill_start (f := bkF x own m) (p := 0) hi2 hcur (fun j hj _ => absurd hj (by omega)))
      have HCP := Lib.hid hcp
      clear hi2 hcur hcp hH hb2
      go_wp2
      go_loopg [12, 25] own.length (fun gk q i wr => ∃ p : Nat, p ≤ own.length ∧ gk + p = own.length ∧ i = .int .i64 p ∧ Hid (KeysAt wr H own.length (fillF (bkF x own m) own p)) ∧ Hid (WvAt w x wr) ∧ H < wr.heap.size ∧ Hid (∀ j, j < p → inM most (bkF x own m j) = true))
      case atStart => exact ⟨0, Nat.zero_le _, by omega, rfl, HK, HT2, hHlt, fun j hj => absurd hj (by omega)⟩
      case round =>
        obtain ⟨p, hp, hgk, rfl, HKA, HTA, hsz, HIN⟩ := hrel
        have HGK := Lib.hid hgk
        clear hgk HK HT2 HT1 HCL1 HI1
        obtain ⟨k0, k1, k2, k3, k4⟩ := HTA.out.cells
        by_cases hlt : p < own.length
        · have HF1 := fun W (hb : Below w.heap.size w W) => Lib.hid (HFO.out p W (by rw [← HLEN.out]; exact hlt) hb)
          obtain ⟨c0, f0⟩ := fill_at HKA.out hlt (own.getD p 0) (by rw [if_neg (Nat.lt_irrefl _)])
          obtain ⟨z, hzz⟩ : ∃ z, z = bkF x own m p := ⟨_, rfl⟩
          have hw : IntKind.i64.wrap (own.getD p 0 + fore x m p) = z := hzz.symm
          have HZ := Lib.hid hzz
          obtain ⟨y, hy⟩ : ∃ y, y = own.getD p 0 := ⟨_, rfl⟩
          have HY := Lib.hid hy
          rw [← hy] at hw c0
          obtain ⟨d, hd⟩ : ∃ d, inM most z = d := ⟨_, rfl⟩
          have HOZ := fun W => Lib.hid (HOU.out z W)
          rw [hd] at HOZ
          have HD := Lib.hid hd
          generalize fore x m p = t at *
          clear hzz hy hd
          have HTD := Lib.hid (HTA.out.drewN 1)
          have HKD : Hid (KeysAt wr.drew H own.length (fillF (bkF x own m) own p)) := HKA.out
          have hszd : H < wr.drew.heap.size := hsz
          have HF2 := HF1 _ HTD.out.below
          clear HF1
          go_wp2_with fail
          refine wp_region_held_drew (S := fun w' => w'.cell? ⟨w.heap.size, 2, none⟩ = some (.int .i64 x.g0) ∧ w'.cell? ⟨w.heap.size, 3, none⟩ = some (.int .i64 x.g1) ∧ w'.cell? ⟨w.heap.size, 4, none⟩ = some (.int .i64 x.g2)) (by kernel_rfl) ⟨k2, k3, k4⟩ (fun hHeld => ?_)
          refine take_at (i := 0) (d := some 28) (v := ?_) rfl rfl (by kernel_rfl) (by kernel_rfl) (by kernel_rfl) (fun _ _ _ h => h) (Or.inl ⟨by rfl, ?_⟩) hHeld ?_
          rotate_left
          · intro w9 hSw; obtain ⟨s0, s1, s2⟩ := hSw; go_simp; try with_reducible rfl
          simp only [Act.put, List.setIfInBounds_toArray, List.set_cons_zero, List.set_cons_succ]
          refine take_at (i := 1) (d := some 29) (v := ?_) rfl rfl (by kernel_rfl) (by kernel_rfl) (by kernel_rfl) (fun _ _ _ h => h) (Or.inl ⟨by rfl, ?_⟩) hHeld ?_
          rotate_left
          · intro w9 hSw; obtain ⟨s0, s1, s2⟩ := hSw; go_simp; try with_reducible rfl
          simp only [Act.put, List.setIfInBounds_toArray, List.set_cons_zero, List.set_cons_succ]
          refine take_at (i := 2) (d := some 30) (v := ?_) rfl rfl (by kernel_rfl) (by kernel_rfl) (by kernel_rfl) (fun _ _ _ h => h) (Or.inl ⟨by rfl, ?_⟩) hHeld ?_
          rotate_left
          · intro w9 hSw; obtain ⟨s0, s1, s2⟩ := hSw; go_simp; try with_reducible rfl
          simp only [Act.put, List.setIfInBounds_toArray, List.set_cons_zero, List.set_cons_succ]
          refine take_at (i := 4) (d := some 32) (v := ?_) rfl rfl (by kernel_rfl) (by kernel_rfl) (by kernel_rfl) (fun _ _ _ h => h) (Or.inl ⟨by rfl, ?_⟩) hHeld ?_
          rotate_left
          · intro w9 hSw; obtain ⟨s0, s1, s2⟩ := hSw; go_simp; try with_reducible rfl
          simp only [Act.put, List.setIfInBounds_toArray, List.set_cons_zero, List.set_cons_succ]
          refine take_at (i := 5) (d := some 33) (v := ?_) rfl rfl (by kernel_rfl) (by kernel_rfl) (by kernel_rfl) (fun _ _ _ h => h) (Or.inl ⟨by rfl, ?_⟩) hHeld ?_
          rotate_left
          · intro w9 hSw; obtain ⟨s0, s1, s2⟩ := hSw; go_simp; try with_reducible rfl
          simp only [Act.put, List.setIfInBounds_toArray, List.set_cons_zero, List.set_cons_succ]
          refine take_at (i := 6) (d := some 34) (v := ?_) rfl rfl (by kernel_rfl) (by kernel_rfl) (by kernel_rfl) (fun _ _ _ h => h) (Or.inl ⟨by rfl, ?_⟩) hHeld ?_
          rotate_left
          · intro w9 hSw; obtain ⟨s0, s1, s2⟩ := hSw; go_simp; try with_reducible rfl
          simp only [Act.put, List.setIfInBounds_toArray, List.set_cons_zero, List.set_cons_succ]
          refine take_at (i := 7) (d := some 35) (v := ?_) rfl rfl (by kernel_rfl) (by kernel_rfl) (by kernel_rfl) (fun _ _ _ h => h) (Or.inl ⟨by rfl, ?_⟩) hHeld ?_
          rotate_left
          · intro w9 hSw; obtain ⟨s0, s1, s2⟩ := hSw; go_simp; try with_reducible rfl
          simp only [Act.put, List.setIfInBounds_toArray, List.set_cons_zero, List.set_cons_succ]
          refine wpAnyH_ready (rs := [3, 8]) (by kernel_rfl) (by simp) ?_
          refine AllReadyH.cons rfl (fun K hK => ?_) ?_
          · go_simp
            refine hK.out _ _ ?_ (fun hHeld => ?_)
            · first | exact hHeld | exact ⟨k25, k35, k45⟩ | exact ⟨(set_farW (by omega)).trans k25, (set_farW (by omega)).trans k35, (set_farW (by omega)).trans k45⟩
            clear hK K
            refine wpAnyH_ready (rs := [8]) (by kernel_rfl) (by simp) ?_
            refine AllReadyH.cons rfl (fun K hK => ?_) ?_
            · go_simp
              go_at_call 26
              refine HF2.out.mono ?_
              rintro e w5 ⟨rfl, hb5⟩
              have HT5 := Lib.hid (HTD.out.mono hb5)
              have HK5 := Lib.hid (HKD.out.keeps (keeps_of_below hb5 []) (by simp) hszd)
              have k25 := HT5.out.cells.2.2.1
              have k35 := HT5.out.cells.2.2.2.1
              have k45 := HT5.out.cells.2.2.2.2
              have c05 := (fill_at HK5.out hlt y (by rw [if_neg (Nat.lt_irrefl _), HY.out])).1
              have f05 := (fill_at HK5.out hlt y (by rw [if_neg (Nat.lt_irrefl _), HY.out])).2
              have hsz5 : H < w5.heap.size := Nat.lt_of_lt_of_le hszd hb5.size
              clear hb5
              go_wp2
              refine hK.out _ _ ?_ (fun hHeld => ?_)
              · first | exact hHeld | exact ⟨k25, k35, k45⟩ | exact ⟨(set_farW (by omega)).trans k25, (set_farW (by omega)).trans k35, (set_farW (by omega)).trans k45⟩
              clear hK K
              refine take_at (i := 9) (d := some 37) (v := ?_) rfl rfl (by kernel_rfl) (by kernel_rfl) (by kernel_rfl) (fun _ _ _ h => h) (Or.inl ⟨by rfl, ?_⟩) hHeld ?_
              rotate_left
              · intro w9 hSw; obtain ⟨s0, s1, s2⟩ := hSw; go_simp; try with_reducible rfl
              simp only [Act.put, List.setIfInBounds_toArray, List.set_cons_zero, List.set_cons_succ]
              refine take_at (i := 10) (d := some 38) (v := ?_) rfl rfl (by kernel_rfl) (by kernel_rfl) (by kernel_rfl) (fun _ _ _ h => h) (Or.inl ⟨by rfl, ?_⟩) hHeld ?_
              rotate_left
              · intro w9 hSw; obtain ⟨s0, s1, s2⟩ := hSw; go_simp; try with_reducible rfl
              simp only [Act.put, List.setIfInBounds_toArray, List.set_cons_zero, List.set_cons_succ]
              refine wpAnyH_ready (rs := [11]) (by kernel_rfl) (by simp) ?_
              refine AllReadyH.cons rfl (fun K hK => ?_) ?_
              · go_simp
                refine hK.out _ _ ?_ (fun hHeld => ?_)
                · first | exact hHeld | exact ⟨k25, k35, k45⟩ | exact ⟨(set_farW (by omega)).trans k25, (set_farW (by omega)).trans k35, (set_farW (by omega)).trans k45⟩
                clear hK K
                refine wpAnyH_done (by kernel_rfl) ?_ _
                have HK6 : Hid (KeysAt (w5.setCell ⟨H, p, none⟩ (.int .i64 z)) H own.length (fillF (bkF x own m) own (p + 1))) := by have := fill_set HK5.out hlt; rwa [← HZ.out] at this
                have HT6 : Hid (WvAt w x (w5.setCell ⟨H, p, none⟩ (.int .i64 z))) := HT5.out.set hHw
                have c06 := (fill_at HK6.out hlt z (by rw [if_pos (Nat.lt_succ_self _)]; exact HZ.out.symm)).1
                have hsz6 : H < (w5.setCell ⟨H, p, none⟩ (.int .i64 z)).heap.size := by simpa using hsz5
                clear k25 k35 k45 c05 f05 hHeld
                generalize w5.setCell ⟨H, p, none⟩ (.int .i64 z) = w6 at *
                cases d with
                | false =>
                  go_wp2_with fail
                  refine (HOZ _).out.mono ?_
                  rintro e w7 ⟨rfl, rfl⟩
                  have HC9 : Hid (codeBack x own m most = 9) := HBAD.out p hlt (by rw [← HZ.out]; exact HD.out)
                  go_wp2
                  refine bodyPost_ret (v := .tuple #[.slice none 0 0, .int .i64 9]) (by simp [results, Try.results12, go_sem]) rfl ?_
                  exact HE.out 9 _ HC9.out (by decide) HT6.out.below
                | true =>
                  go_wp2_with fail
                  refine (HOZ _).out.mono ?_
                  rintro e w7 ⟨rfl, rfl⟩
                  have HIN6 : Hid (∀ j, j < p + 1 → inM most (bkF x own m j) = true) := fun j hj => by
                    by_cases e : j = p
                    · subst e; rw [← HZ.out]; exact HD.out
                    · exact HIN.out j (by omega)
                  go_wp2
                  go_roundg (gk - 1)
                  case rel => exact ⟨p + 1, by omega, by have := HGK.out; omega, by go_num, HK6.out, HT6.out, hsz6, HIN6.out⟩
                  case measure => have := HGK.out; omega
              exact AllReadyH.nil
            exact AllReadyH.nil
          refine AllReadyH.cons rfl (fun K hK => ?_) ?_
          · go_simp
            go_at_call 26
            refine HF2.out.mono ?_
            rintro e w5 ⟨rfl, hb5⟩
            have HT5 := Lib.hid (HTD.out.mono hb5)
            have HK5 := Lib.hid (HKD.out.keeps (keeps_of_below hb5 []) (by simp) hszd)
            have k25 := HT5.out.cells.2.2.1
            have k35 := HT5.out.cells.2.2.2.1
            have k45 := HT5.out.cells.2.2.2.2
            have c05 := (fill_at HK5.out hlt y (by rw [if_neg (Nat.lt_irrefl _), HY.out])).1
            have f05 := (fill_at HK5.out hlt y (by rw [if_neg (Nat.lt_irrefl _), HY.out])).2
            have hsz5 : H < w5.heap.size := Nat.lt_of_lt_of_le hszd hb5.size
            clear hb5
            go_wp2
            refine hK.out _ _ ?_ (fun hHeld => ?_)
            · first | exact hHeld | exact ⟨k25, k35, k45⟩ | exact ⟨(set_farW (by omega)).trans k25, (set_farW (by omega)).trans k35, (set_farW (by omega)).trans k45⟩
            clear hK K
            refine wpAnyH_ready (rs := [3]) (by kernel_rfl) (by simp) ?_
            refine AllReadyH.cons rfl (fun K hK => ?_) ?_
            · go_simp
              refine hK.out _ _ ?_ (fun hHeld => ?_)
              · first | exact hHeld | exact ⟨k25, k35, k45⟩ | exact ⟨(set_farW (by omega)).trans k25, (set_farW (by omega)).trans k35, (set_farW (by omega)).trans k45⟩
              clear hK K
              refine take_at (i := 9) (d := some 37) (v := ?_) rfl rfl (by kernel_rfl) (by kernel_rfl) (by kernel_rfl) (fun _ _ _ h => h) (Or.inl ⟨by rfl, ?_⟩) hHeld ?_
              rotate_left
              · intro w9 hSw; obtain ⟨s0, s1, s2⟩ := hSw; go_simp; try with_reducible rfl
              simp only [Act.put, List.setIfInBounds_toArray, List.set_cons_zero, List.set_cons_succ]
              refine take_at (i := 10) (d := some 38) (v := ?_) rfl rfl (by kernel_rfl) (by kernel_rfl) (by kernel_rfl) (fun _ _ _ h => h) (Or.inl ⟨by rfl, ?_⟩) hHeld ?_
              rotate_left
              · intro w9 hSw; obtain ⟨s0, s1, s2⟩ := hSw; go_simp; try with_reducible rfl
              simp only [Act.put, List.setIfInBounds_toArray, List.set_cons_zero, List.set_cons_succ]
              refine wpAnyH_ready (rs := [11]) (by kernel_rfl) (by simp) ?_
              refine AllReadyH.cons rfl (fun K hK => ?_) ?_
              · go_simp
                refine hK.out _ _ ?_ (fun hHeld => ?_)
                · first | exact hHeld | exact ⟨k25, k35, k45⟩ | exact ⟨(set_farW (by omega)).trans k25, (set_farW (by omega)).trans k35, (set_farW (by omega)).trans k45⟩
                clear hK K
                refine wpAnyH_done (by kernel_rfl) ?_ _
                have HK6 : Hid (KeysAt (w5.setCell ⟨H, p, none⟩ (.int .i64 z)) H own.length (fillF (bkF x own m) own (p + 1))) := by have := fill_set HK5.out hlt; rwa [← HZ.out] at this
                have HT6 : Hid (WvAt w x (w5.setCell ⟨H, p, none⟩ (.int .i64 z))) := HT5.out.set hHw
                have c06 := (fill_at HK6.out hlt z (by rw [if_pos (Nat.lt_succ_self _)]; exact HZ.out.symm)).1
                have hsz6 : H < (w5.setCell ⟨H, p, none⟩ (.int .i64 z)).heap.size := by simpa using hsz5
                clear k25 k35 k45 c05 f05 hHeld
                generalize w5.setCell ⟨H, p, none⟩ (.int .i64 z) = w6 at *
                cases d with
                | false =>
                  go_wp2_with fail
                  refine (HOZ _).out.mono ?_
                  rintro e w7 ⟨rfl, rfl⟩
                  have HC9 : Hid (codeBack x own m most = 9) := HBAD.out p hlt (by rw [← HZ.out]; exact HD.out)
                  go_wp2
                  refine bodyPost_ret (v := .tuple #[.slice none 0 0, .int .i64 9]) (by simp [results, Try.results12, go_sem]) rfl ?_
                  exact HE.out 9 _ HC9.out (by decide) HT6.out.below
                | true =>
                  go_wp2_with fail
                  refine (HOZ _).out.mono ?_
                  rintro e w7 ⟨rfl, rfl⟩
                  have HIN6 : Hid (∀ j, j < p + 1 → inM most (bkF x own m j) = true) := fun j hj => by
                    by_cases e : j = p
                    · subst e; rw [← HZ.out]; exact HD.out
                    · exact HIN.out j (by omega)
                  go_wp2
                  go_roundg (gk - 1)
                  case rel => exact ⟨p + 1, by omega, by have := HGK.out; omega, by go_num, HK6.out, HT6.out, hsz6, HIN6.out⟩
                  case measure => have := HGK.out; omega
              exact AllReadyH.nil
            exact AllReadyH.nil
          exact AllReadyH.nil
        · have HF : Hid (RowR (codeBack x own m most) (backL x own m) w (.returned (.tuple #[.slice (some ⟨H, 0, none⟩) own.length hcap, .int .i64 0])) wr) := by
            obtain ⟨e0, e1⟩ := HGOOD.out (fun j hj => HIN.out j (by omega))
            exact .inr ⟨e0, some ⟨H, 0, none⟩, hcap, by rw [backL_length], fill_end HKA.out (by omega) (backL_length _ _ _) (fun j hj => e1 j (by rwa [backL_length] at hj)) hsz, by rw [backL_length]; exact HCP.out, (fun g off h => by cases h; omega), HTA.out.below⟩
          go_wp2
          refine bodyPost_ret (v := .tuple #[.slice (some ⟨H, 0, none⟩) own.length hcap, .int .i64 0]) (by simp [results, Try.results12, go_sem]) rfl ?_
          exact HF.out
  · have hcb := codeBack_ahead hc
    rcases hcases with h | h | h | h | h
    · exact absurd h hc
    all_goals
      have HC0 : Hid (codeBack x own m most = codeAhead x own.length m most) := hcb
      rw [h] at HCK HC0
      clear hcb hc h HI HJ
      go_enter Try.func12, Try.ntmps12
      go_wp2_with fail
      rw [← HWA.out]
      refine HCK.out.mono ?_
      rintro e w1 ⟨rfl, hb1⟩
      have HT1 := Lib.hid (HT.out.mono hb1)
      clear hb1 k0 k1 k2 k3 k4 HCK
      go_wp2
      first
      | (refine bodyPost_ret (v := .tuple #[.slice none 0 0, .int .i64 2]) (by simp [results, Try.results12, go_sem]; done) rfl ?_
         exact HE.out 2 _ HC0.out (by decide) HT1.out.below)
      | (refine bodyPost_ret (v := .tuple #[.slice none 0 0, .int .i64 8]) (by simp [results, Try.results12, go_sem]; done) rfl ?_
         exact HE.out 8 _ HC0.out (by decide) HT1.out.below)
      | (refine bodyPost_ret (v := .tuple #[.slice none 0 0, .int .i64 1]) (by simp [results, Try.results12, go_sem]; done) rfl ?_
         exact HE.out 1 _ HC0.out (by decide) HT1.out.below)
      | (refine bodyPost_ret (v := .tuple #[.slice none 0 0, .int .i64 9]) (by simp [results, Try.results12, go_sem]; done) rfl ?_
         exact HE.out 9 _ HC0.out (by decide) HT1.out.below)
end Go.Proofs.Ytbbcemgcanclnaa
