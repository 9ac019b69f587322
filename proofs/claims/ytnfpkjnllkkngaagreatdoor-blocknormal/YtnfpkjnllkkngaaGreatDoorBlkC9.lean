import Derived.Test.YtnfpkjnllkkngaaGreatDoorBlkC8

namespace Go.Proofs.YtnfpkjnllkkngaaGreatDoor
open Go.RowKit Go.Proofs Go.Proofs.PipeM Go.Proofs.PipeA Go.Proofs.BlkM Go.Proofs.BlkB
open Go.Proofs.LatM (goodL)
open Go.Proofs.FilM (smp codeS)
open Go.Proofs.LagM (goodT codeT codeO onL)
set_option maxRecDepth 100000

theorem outB_len {b : Blk} {n m : Nat} (hf : formB b n m = 0) : (outB b n).length = n := by
  obtain ⟨kind, value, shift, index, lag, gain, part, rice, data⟩ := b
  unfold outB
  dsimp only
  by_cases h2 : kind = 2
  · subst h2
    obtain ⟨_, hdn, _⟩ := two_facts hf
    rw [if_pos rfl, List.length_map]
    unfold lowB
    rw [FilM.smp_length]
    dsimp only
    rw [LagM.onL_length]
    exact hdn
  · rw [if_neg h2]
    by_cases h3 : kind = 3
    · subst h3
      rw [if_pos rfl]
      exact formB_data hf
    · rw [if_neg h3, List.length_replicate]

set_option maxHeartbeats 3200000 in
theorem cSamplesW (b : Blk) (ia ra da : Option Addr) (ic rc dc : Nat) (n d : Int) (w : World) (hI : BlkIn w b ia ra da ic rc dc) (hw : Wf9 b) :
    Calls Tryz.prog 9 #[blkV b ia ra da ic rc dc, .int .i64 n, .int .i64 d] w (SampW (codeB b n d) (outB b n.toNat) w) := by
  have HBX : Hid (∀ o, Below w.heap.size w (w.alloc o)) := fun o => box_below w o
  have HCF : Hid (∀ W, Below w.heap.size w W → Calls Tryz.prog 32 #[blkV b ia ra da ic rc dc, .int .i64 n, .int .i64 d] W fun e w' => e = .returned (.int .i64 (chkF b n d)) ∧ Below W.heap.size W w') := fun W hW => cCheckForm b ia ra da ic rc dc n d W (hI.below hW) hw
  by_cases hc : chkF b n d = 0
  rotate_left
  · have HE : Hid (codeB b n d = chkF b n d) := by
      show _ = _
      unfold chkF at hc ⊢
      cases hs : (sizeN n && depthB d) with
      | false => rw [codeB_size hs]; rfl
      | true =>
        rw [hs, if_neg (by simp)] at hc
        rw [codeB_form hs hc, if_neg (by simp)]
    rw [HE.out]
    generalize outB b n.toNat = O at *
    generalize chkF b n d = r at *
    have u1 : (r != 0) = true := bne_iff_ne.2 hc
    have HN := Lib.hid hc
    clear hI hw hc HE
    obtain ⟨kind, value, shift, index, lag, gain, part, rice, data⟩ := b
    unfold blkV at *
    dsimp only at *
    generalize index.length = il at *
    generalize rice.length = rl at *
    generalize data.length = dl at *
    go_enter Tryz.func9, Tryz.ntmps9
    go_wp2_with fail
    refine (HCF.out _ (HBX.out _)).mono ?_
    rintro e w1 ⟨rfl, hb⟩
    have HB : Hid (Below w.heap.size w w1) := (HBX.out _).trans (hb.mono (by simp))
    clear hb
    go_wp2
    refine bodyPost_ret (v := .tuple #[.slice none 0 0, .int .i64 r]) (by simp [results, Tryz.results9, go_sem]) rfl ?_
    exact .inl ⟨HN.out, rfl, HB.out⟩
  obtain ⟨hs, hf⟩ : (sizeN n && depthB d) = true ∧ formB b n.toNat d = 0 := by
    unfold chkF at hc
    cases hs : (sizeN n && depthB d) with
    | false => rw [hs] at hc; exact absurd hc (by simp)
    | true => rw [hs, if_neg (by simp)] at hc; exact ⟨rfl, hc⟩
  have hs2 := hs
  rw [Bool.and_eq_true] at hs2
  obtain ⟨k, rfl, hk1, hk2⟩ := sizeN_of hs2.1
  obtain ⟨m, rfl, hm1, hm2⟩ := depthB_of hs2.2
  rw [show ((k : Int)).toNat = k from rfl] at hf ⊢
  have HTO : Hid (∀ W, Below w.heap.size w W → Calls Tryz.prog 33 #[blkV b ia ra da ic rc dc, .int .i64 k, .int .i64 m] W (SampW (if wrongOut b m then 9 else 0) (outB b k) W)) := fun W hW => cTold b ia ra da ic rc dc k m W hk1 hk2 hm1 hm2 (hI.below hW) hf
  have hol := outB_len hf
  have HC1 : Hid (wrongOut b m = true → codeB b k m = 9) := fun h => codeB_out hs hf h
  have HC2 : Hid (wrongOut b m = false → codeB b k m = if (outB b k).all (hasP (halfOf m)) then 0 else 9) := fun h => codeB_all hs hf h
  have HCK : Hid (∀ W ao cap, IntsAt W ao (outB b k) → Calls Tryz.prog 13 #[.int .i64 m, .slice ao k cap] W fun e w' => e = .returned (.int .i64 (if (outB b k).all (hasP (halfOf m)) then 0 else 9)) ∧ W = w') := fun W ao cap hi => by
    have h := cCheck ao cap (outB b k) m W (by omega) hi
    unfold chkB at h
    rw [hol, hs, if_neg (by simp)] at h
    exact h
  rw [hc] at HCF
  have K : Hid (∀ (W : World) (o : Array Value), Below (w.heap.size + 1) (w.alloc (.cells o 27)) W → ∀ j v, o[j]? = some v → W.cell? ⟨w.heap.size, j, none⟩ = some v) := fun W o hW j v hj => by
    rw [hW.cell (p := ⟨w.heap.size, j, none⟩) (by simp), cell_of_heap (World.alloc_heap_new w _)]
    exact hj
  have HOL := Lib.hid hol
  generalize outB b k = O at *
  generalize O.all (hasP (halfOf m)) = al at *
  generalize codeB b k m = cb at *
  generalize wrongOut b m = wo at *
  clear hI hw hc hs hf hs2 hol
  obtain ⟨kind, value, shift, index, lag, gain, part, rice, data⟩ := b
  unfold blkV at *
  dsimp only at *
  generalize index.length = il at *
  generalize rice.length = rl at *
  generalize data.length = dl at *
  cases wo with
  | true =>
    rw [if_pos rfl] at HTO
    have HE := Lib.hid (HC1.out rfl)
    clear HC1 HC2
    go_enter Tryz.func9, Tryz.ntmps9
    go_wp2_with fail
    refine (HCF.out _ (HBX.out _)).mono ?_
    rintro e w1 ⟨rfl, hb⟩
    have hb' := hb.mono (show w.heap.size + 1 ≤ _ by simp)
    have k0 := K.out w1 _ hb' 0 (.int .i64 kind) rfl
    have k1 := K.out w1 _ hb' 1 (.int .i64 value) rfl
    have k2 := K.out w1 _ hb' 2 (.int .i64 shift) rfl
    have k3 := K.out w1 _ hb' 3 (.slice ia il ic) rfl
    have k4 := K.out w1 _ hb' 4 (.int .i64 lag) rfl
    have k5 := K.out w1 _ hb' 5 (.int .i64 gain) rfl
    have k6 := K.out w1 _ hb' 6 (.int .i64 part) rfl
    have k7 := K.out w1 _ hb' 7 (.slice ra rl rc) rfl
    have k8 := K.out w1 _ hb' 8 (.slice da dl dc) rfl
    have HB : Hid (Below w.heap.size w w1) := (HBX.out _).trans (hb.mono (by simp))
    clear hb hb'
    go_wp2_with fail
    refine (HTO.out _ HB.out).mono ?_
    rintro e w2 h2
    obtain ⟨rfl, hb2⟩ : e = .returned (.tuple #[.slice none 0 0, .int .i64 9]) ∧ Below w1.heap.size w1 w2 := h2.elim (fun h => h.2) (fun h => absurd h.1 (by omega))
    have HB2 : Hid (Below w.heap.size w w2) := HB.out.trans (hb2.mono HB.out.size)
    clear h2 hb2 k0 k1 k2 k3 k4 k5 k6 k7 k8
    go_wp2
    refine bodyPost_ret (v := .tuple #[.slice none 0 0, .int .i64 9]) (by simp [results, Tryz.results9, go_sem]) rfl ?_
    exact SampW.bad HE.out (by omega) HB2.out
  | false =>
    rw [if_neg (by simp)] at HTO
    have HE := Lib.hid (HC2.out rfl)
    clear HC1 HC2
    go_enter Tryz.func9, Tryz.ntmps9
    go_wp2_with fail
    refine (HCF.out _ (HBX.out _)).mono ?_
    rintro e w1 ⟨rfl, hb⟩
    have hb' := hb.mono (show w.heap.size + 1 ≤ _ by simp)
    have k0 := K.out w1 _ hb' 0 (.int .i64 kind) rfl
    have k1 := K.out w1 _ hb' 1 (.int .i64 value) rfl
    have k2 := K.out w1 _ hb' 2 (.int .i64 shift) rfl
    have k3 := K.out w1 _ hb' 3 (.slice ia il ic) rfl
    have k4 := K.out w1 _ hb' 4 (.int .i64 lag) rfl
    have k5 := K.out w1 _ hb' 5 (.int .i64 gain) rfl
    have k6 := K.out w1 _ hb' 6 (.int .i64 part) rfl
    have k7 := K.out w1 _ hb' 7 (.slice ra rl rc) rfl
    have k8 := K.out w1 _ hb' 8 (.slice da dl dc) rfl
    have HB : Hid (Below w.heap.size w w1) := (HBX.out _).trans (hb.mono (by simp))
    clear hb hb'
    go_wp2_with fail
    refine (HTO.out _ HB.out).mono ?_
    rintro e w2 h2
    obtain ⟨ao, cap, he, hi, hcp, hb2, hfr, hwr⟩ := h2.elim (fun h => absurd rfl h.1) (fun h => h.2)
    rw [HOL.out] at he hcp hwr
    subst he
    have HB2 : Hid (Below w.heap.size w w2) := HB.out.trans (hb2.mono HB.out.size)
    have HI := Lib.hid hi
    have HCP := Lib.hid hcp
    have HWR := Lib.hid hwr
    have HFR : Hid (FreshOf w ao) := fun g off hh => Nat.le_trans HB.out.size (hfr g off hh)
    have HC2 := Lib.hid (HCK.out w2 ao cap hi)
    clear h2 hb2 hi hcp hfr hwr HCK k0 k1 k2 k3 k4 k5 k6 k7 k8
    cases al with
    | false =>
      rw [if_neg (by simp)] at HE HC2
      go_wp2_with fail
      refine HC2.out.mono ?_
      rintro e w3 ⟨rfl, rfl⟩
      go_wp2
      refine bodyPost_ret (v := .tuple #[.slice none 0 0, .int .i64 9]) (by simp [results, Tryz.results9, go_sem]) rfl ?_
      exact SampW.bad HE.out (by omega) HB2.out
    | true =>
      rw [if_pos rfl] at HE HC2
      go_wp2_with fail
      refine HC2.out.mono ?_
      rintro e w3 ⟨rfl, rfl⟩
      go_wp2
      refine bodyPost_ret (v := .tuple #[.slice ao k cap, .int .i64 0]) (by simp [results, Tryz.results9, go_sem]) rfl ?_
      exact .inr ⟨HE.out, ao, cap, by rw [HOL.out], HI.out, by rw [HOL.out]; exact HCP.out, HB2.out, HFR.out, by rw [HOL.out]; exact HWR.out⟩

theorem cSamples10 (b : Blk) (ia ra da : Option Addr) (ic rc dc : Nat) (n d : Int) (w : World) (hI : BlkIn w b ia ra da ic rc dc) (hw : Wf9 b) :
    Calls Tryz.prog 9 #[blkV b ia ra da ic rc dc, .int .i64 n, .int .i64 d] w (SampIs (codeB b n d) (outB b n.toNat) w) := (cSamplesW b ia ra da ic rc dc n d w hI hw).mono fun _ _ h => h.is

set_option maxHeartbeats 1600000 in
theorem cIsRight (b : Blk) (ia ra da : Option Addr) (ic rc dc : Nat) (n d : Int) (w : World) (hI : BlkIn w b ia ra da ic rc dc) (hw : Wf9 b) :
    Calls Tryz.prog 34 #[blkV b ia ra da ic rc dc, .int .i64 n, .int .i64 d] w fun e w' => e = .returned (.bool (decide (codeB b n d = 0))) ∧ Below w.heap.size w w' := by
  have HBX : Hid (∀ o, Below w.heap.size w (w.alloc o)) := fun o => box_below w o
  have HSA : Hid (∀ W, Below w.heap.size w W → Calls Tryz.prog 9 #[blkV b ia ra da ic rc dc, .int .i64 n, .int .i64 d] W (SampIs (codeB b n d) (outB b n.toNat) W)) := fun W hW => cSamples10 b ia ra da ic rc dc n d W (hI.below hW) hw
  generalize outB b n.toNat = O at *
  generalize codeB b n d = cb at *
  clear hI hw
  obtain ⟨kind, value, shift, index, lag, gain, part, rice, data⟩ := b
  unfold blkV at *
  dsimp only at *
  generalize index.length = il at *
  generalize rice.length = rl at *
  generalize data.length = dl at *
  generalize hol : O.length = ol at *
  have HOL := Lib.hid hol
  clear hol
  by_cases hc : cb = 0
  · subst hc
    go_enter Tryz.func34, Tryz.ntmps34
    go_wp2_with fail
    refine (HSA.out _ (HBX.out _)).mono ?_
    rintro e w1 h1
    obtain ⟨ao, cap, he, _, _, hb, _⟩ := h1.elim (fun h => absurd rfl h.1) (fun h => h.2)
    rw [HOL.out] at he
    subst he
    have HB : Hid (Below w.heap.size w w1) := (HBX.out _).trans (hb.mono (by simp))
    clear h1 hb
    go_wp2
    go_ret
    exact ⟨rfl, HB.out⟩
  · have u1 : (cb == 0) = false := beq_eq_false_iff_ne.2 hc
    rw [decide_eq_false hc]
    have HN := Lib.hid hc
    clear hc
    go_enter Tryz.func34, Tryz.ntmps34
    go_wp2_with fail
    refine (HSA.out _ (HBX.out _)).mono ?_
    rintro e w1 h1
    obtain ⟨rfl, hb⟩ : e = .returned (.tuple #[.slice none 0 0, .int .i64 cb]) ∧ Below _ _ w1 := h1.elim (fun h => h.2) (fun h => absurd h.1 HN.out)
    have HB : Hid (Below w.heap.size w w1) := (HBX.out _).trans (hb.mono (by simp))
    clear h1 hb
    go_wp2
    go_ret
    exact ⟨rfl, HB.out⟩
end Go.Proofs.YtnfpkjnllkkngaaGreatDoor
