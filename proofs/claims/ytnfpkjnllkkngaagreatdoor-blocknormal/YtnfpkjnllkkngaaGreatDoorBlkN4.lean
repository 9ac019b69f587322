import Derived.Test.YtnfpkjnllkkngaaGreatDoorBlkN3

namespace Go.Proofs.YtnfpkjnllkkngaaGreatDoor
open Go.RowKit Go.Proofs Go.Proofs.PipeM Go.Proofs.PipeA Go.Proofs.BlkM Go.Proofs.BlkB Go.Proofs.LatM Go.Proofs.FilM Go.Proofs.LagM
set_option maxRecDepth 100000

set_option maxHeartbeats 6400000 in
theorem cNormal_good (lo io : Option Addr) (lcap icap : Nat) (l index : List Int) (d a g sh : Int) (w : World) (hl : l.length ≤ 1000) (hil : index.length ≤ 1000) (hicap : index.length ≤ icap) (hi : IntsAt w lo l) (hj : IntsAt w io index) (ht : TabZ w) (hc : chkB l d = 0) (hf : (shiftB d sh && goodL index && goodT a g && divs sh.toNat l) = true) :
    Calls Tryz.prog 5 #[.slice lo l.length lcap, .int .i64 d, .slice io index.length icap, .agg #[.int .i64 a, .int .i64 g], .int .i64 sh] w (NormIs l d index a g sh w) := by
  have hb0 := box_below w (.cells #[.int .i64 a, .int .i64 g] 32)
  have hn0 := World.alloc_heap_new w (.cells #[.int .i64 a, .int .i64 g] 32)
  obtain ⟨Wt, hWt⟩ : ∃ Wt, Wt = w.alloc (.cells #[.int .i64 a, .int .i64 g] 32) := ⟨_, rfl⟩
  rw [← hWt] at hb0 hn0
  have hlt0 : w.heap.size < Wt.heap.size := (Array.getElem?_eq_some_iff.1 hn0).1
  have hb1 := box_below Wt (.cells #[.int .i64 0, .int .i64 0, .int .i64 0, .slice none 0 0, .int .i64 0, .int .i64 0, .int .i64 0, .slice none 0 0, .slice none 0 0] 27)
  have hB0 := box9_new Wt (.int .i64 0) (.int .i64 0) (.int .i64 0) (.slice none 0 0) (.int .i64 0) (.int .i64 0) (.int .i64 0) (.slice none 0 0) (.slice none 0 0) 27
  obtain ⟨W0, hW0⟩ : ∃ W0, W0 = Wt.alloc (.cells #[.int .i64 0, .int .i64 0, .int .i64 0, .slice none 0 0, .int .i64 0, .int .i64 0, .int .i64 0, .slice none 0 0, .slice none 0 0] 27) := ⟨_, rfl⟩
  rw [← hW0] at hb1 hB0
  have hlt1 : Wt.heap.size < W0.heap.size := hB0.lt
  have hwt : Wt.heap.size = w.heap.size + 1 := by rw [hWt]; simp
  rw [hwt] at hB0
  have hbw : Below w.heap.size w W0 := hb0.trans (hb1.mono (Nat.le_of_lt hlt0))
  have HTB : Hid (∀ W, Below W0.heap.size W0 W → W.cell? ⟨w.heap.size, 0, none⟩ = some (.int .i64 a) ∧ W.cell? ⟨w.heap.size, 1, none⟩ = some (.int .i64 g)) := fun W hb => by
    have hbb : Below Wt.heap.size Wt W := hb1.trans (hb.mono (Nat.le_of_lt hlt1))
    exact ⟨(hbb.cell (p := ⟨w.heap.size, 0, none⟩) hlt0).trans (cell_of_heap hn0 0), (hbb.cell (p := ⟨w.heap.size, 1, none⟩) hlt0).trans (cell_of_heap hn0 1)⟩
  have HBX := Lib.hid hbw
  have HWT := Lib.hid hWt
  have HW0 := Lib.hid hW0
  have HX := Lib.hid hB0
  have hi0 := hi.below hbw
  have hj0 := hj.below hbw
  have HCK := Lib.hid (cCheck lo lcap l d W0 (by omega) hi0)
  have hws : w.heap.size ≤ Wt.heap.size := Nat.le_of_lt hlt0
  have hs := chk_sizes (l := l) (d := d) (by omega)
  have hsz := hs
  rw [Bool.and_eq_true] at hs
  obtain ⟨m, rfl, hm1, hm2⟩ := depthB_of hs.2
  obtain ⟨k, hk, hk1, hk2⟩ := sizeN_of hs.1
  have ha : l.all (hasP (halfOf (m : Int))) = true := by
    cases ha : l.all (hasP (halfOf (m : Int))) with
    | true => rfl
    | false => unfold chkB at hc; rw [hsz, ha, if_neg (by simp)] at hc; exact absurd hc (by decide)
  rw [hc] at HCK
  have hf' := hf
  simp only [Bool.and_eq_true] at hf'
  obtain ⟨⟨⟨h1, h3⟩, h4⟩, h2⟩ := hf'
  obtain ⟨hs0, hs1⟩ : 0 ≤ sh ∧ sh < m := of_decide_eq_true h1
  obtain ⟨s, rfl⟩ : ∃ s : Nat, sh = s := ⟨sh.toNat, by omega⟩
  rw [Int.toNat_natCast] at h2
  have HHS := Lib.hid (cHasShift m s W0)
  have HZE := Lib.hid (cZeros lo lcap l W0 (by omega) hi0 (ht.below hbw))
  have HLG := Lib.hid (Fx.cGood io icap index W0 (by omega) hj0)
  have HTG := Lib.hid (Gx.cGood a g W0)
  unfold Gx.termV at HTG
  rw [h1] at HHS
  rw [h3] at HLG
  rw [h4] at HTG
  have hzz := (divs_zeros l (s := s) (by omega)).1 h2
  have t5 : decide ((zerosL l : Int) < (s : Int)) = false := decide_eq_false (by omega)
  have t6 : decide (zerosL l < s) = false := decide_eq_false (by omega)
  generalize zerosL l = z at *
  have hcr := low_codeR s h3 hm1 hm2 ha
  have HLF := fun W (hb : Below W0.heap.size W0 W) => Lib.hid (cLeft lo io lcap icap l index a g s W (by omega) (by omega) (by omega) (by omega) (hi0.below hb) (hj0.below hb) hcr)
  have hcode : codeN l m index a g s = if codeT a g (rsdN index s l) ≠ 0 then 9 else if listOk (dataN a g index s l) then 0 else 9 := by
    unfold codeN
    rw [hc, if_neg (by simp), hf, if_neg (by simp), Int.toNat_natCast]
  have hdl := dataN_length a g index s l
  have HTN : Hid (codeT a g (rsdN index s l) ≠ 0 → codeT a g (rsdN index s l) = 9) := fun hn => by
    rcases codeT_cases a g (rsdN index s l) with e | e | e
    · exact absurd e hn
    · unfold codeT at e
      rw [h4, if_pos (by rfl)] at e
      split at e <;> exact absurd e (by decide)
    · exact e
  have HBN := fun W ao cap (hi : IntsAt W ao (dataN a g index s l)) (h : listOk (dataN a g index s l) = false) => Lib.hid (cSBest_no ao cap (dataN a g index s l) W (by omega) hi h)
  have HBY := fun W ao cap (hcap : (dataN a g index s l).length ≤ cap) (hi : IntsAt W ao (dataN a g index s l)) (h : listOk (dataN a g index s l) = true) => Lib.hid (cSBest_yes ao cap (dataN a g index s l) W hcap hi h)
  have HNB := fun p ia ka da il ic kl kc dl dc W => Lib.hid (cNormalBlock s a g p ia ka da il ic kl kc dl dc W)
  have HCI : Hid (∀ W, Below W0.heap.size W0 W → Calls Tryz.prog 21 #[.slice io index.length icap] W fun e w' => ∃ co cc, e = .returned (.slice co index.length cc) ∧ IntsAt w' co index ∧ index.length ≤ cc ∧ Below W.heap.size W w' ∧ ∀ g off, co = some ⟨g, off, none⟩ → W0.heap.size ≤ g) := fun W hb => by
    cases io with
    | none =>
      have h0 : index = [] := by
        cases index with
        | nil => rfl
        | cons x r => obtain ⟨_, _, e, _⟩ := hj0 0 (by simp); cases e
      subst h0
      exact (Gx.cCloneNil icap W).mono (by rintro e w' ⟨rfl, rfl⟩; exact ⟨none, 0, rfl, fun j hj => absurd hj (by simp), by simp, Below.refl _ _, fun g off e => by cases e⟩)
    | some ad => exact (Gx.cClone ad icap index W (by omega) (hj0.below hb)).mono (by rintro e w' ⟨H, cap, rfl, h1, _, h3, h5, _, h4⟩; exact ⟨_, cap, rfl, h1, h3, h4, fun g off e => by cases e; have := hb.size; omega⟩)
  have HNE : Hid (normN l index a g s = ⟨2, 0, s, index, a, g, (bestP (dataN a g index s l) : Nat), ksAt (dataN a g index s l) (bestP (dataN a g index s l)), dataN a g index s l⟩) := rfl
  have HDL := Lib.hid hdl
  rw [hdl] at HBN HBY
  unfold NormIs
  rw [HNE.out]
  obtain ⟨cn, hcn⟩ : ∃ cn, cn = codeN l m index a g s := ⟨_, rfl⟩
  rw [← hcn]
  have HCN := Lib.hid (hcn.trans hcode)
  clear hcn
  have hbp : bestP (dataN a g index s l) ≤ 3 := Nat.le_trans (bestP_le _) (topP_le _)
  have hkl := ksAt_length (dataN a g index s l) (bestP (dataN a g index s l))
  generalize codeT a g (rsdN index s l) = ct at *
  generalize dataN a g index s l = DA at *
  clear hi hj hi0 hj0 hb0 hn0 hWt hb1 hB0 hW0 hbw hc hcode hf ht hs hsz hk hk1 hk2 hm1 hm2 h1 h2 h3 h4 hzz hs0 hs1 ha hcr hdl
  obtain ⟨b0, b1⟩ := HTB.out W0 (Below.refl _ _)
  go_enter Tryz.func5, Tryz.ntmps5
  go_wp2_with fail
  rw [← HWT.out, ← HW0.out]
  refine HCK.out.mono ?_
  rintro e w1 ⟨rfl, rfl⟩
  go_wp2_with fail
  refine HHS.out.mono ?_
  rintro e w1 ⟨rfl, rfl⟩
  go_wp2_with fail
  refine HZE.out.mono ?_
  rintro e w1 ⟨rfl, rfl⟩
  go_wp2_with fail
  refine HLG.out.mono ?_
  rintro e w1 ⟨rfl, rfl⟩
  go_wp2_with fail
  refine HTG.out.mono ?_
  rintro e w2 ⟨rfl, hr2⟩
  clear b0 b1
  obtain ⟨b0, b1⟩ := HTB.out w2 hr2
  go_wp2_with fail
  refine (HLF w2 hr2).out.mono ?_
  rintro e w3 (⟨hcd, rfl, hb3⟩ | ⟨hcd, ao, oc, rfl, hi3, hoc, hb3, hfr⟩)
  · have hr3 := hr2.trans (hb3.mono hr2.size)
    have HCD := Lib.hid hcd
    have H9 : Hid (cn = 9) := by show _ = _; rw [HCN.out, if_pos hcd]
    have H8 : Hid (ct = 9) := HTN.out hcd
    have t7 : (ct != 0) = true := bne_iff_ne.2 hcd
    clear hcd hb3 b0 b1
    have hx1 := HX.out.keeps (keeps_of_below hr3 []) (by simp)
    have c0 := hx1.c 0 (.int .i64 0) rfl
    have c1 := hx1.c 1 (.int .i64 0) rfl
    have c2 := hx1.c 2 (.int .i64 0) rfl
    have c3 := hx1.c 3 (.slice none 0 0) rfl
    have c4 := hx1.c 4 (.int .i64 0) rfl
    have c5 := hx1.c 5 (.int .i64 0) rfl
    have c6 := hx1.c 6 (.int .i64 0) rfl
    have c7 := hx1.c 7 (.slice none 0 0) rfl
    have c8 := hx1.c 8 (.slice none 0 0) rfl
    have f0 := hx1.f 0 (by decide)
    have f1 := hx1.f 1 (by decide)
    have f2 := hx1.f 2 (by decide)
    have f3 := hx1.f 3 (by decide)
    have f4 := hx1.f 4 (by decide)
    have f5 := hx1.f 5 (by decide)
    have f6 := hx1.f 6 (by decide)
    have f7 := hx1.f 7 (by decide)
    have f8 := hx1.f 8 (by decide)
    have hsz9 : w.heap.size ≤ W0.heap.size := by omega
    go_wp2
    obtain ⟨hX8, hk8⟩ := hx1.set9 (.int .i64 0) (.int .i64 0) (.int .i64 0) (.slice none 0 0) (.int .i64 0) (.int .i64 0) (.int .i64 0) (.slice none 0 0) (.slice none 0 0)
    unfold Go.Proofs.YtnfpkjnllkkngaaGreatDoor.set9 at hX8 hk8
    have R0 := hX8.c 0 (.int .i64 0) rfl
    have R1 := hX8.c 1 (.int .i64 0) rfl
    have R2 := hX8.c 2 (.int .i64 0) rfl
    have R3 := hX8.c 3 (.slice none 0 0) rfl
    have R4 := hX8.c 4 (.int .i64 0) rfl
    have R5 := hX8.c 5 (.int .i64 0) rfl
    have R6 := hX8.c 6 (.int .i64 0) rfl
    have R7 := hX8.c 7 (.slice none 0 0) rfl
    have R8 := hX8.c 8 (.slice none 0 0) rfl
    have HE8 := Lib.hid ((HBX.out.trans (hr3.mono hsz9)).trans (hk8.below (by have := hr3.size; omega) (by simp)))
    refine bodyPost_ret (v := .tuple #[.agg #[.int .i64 0, .int .i64 0, .int .i64 0, .slice none 0 0, .int .i64 0, .int .i64 0, .int .i64 0, .slice none 0 0, .slice none 0 0], .int .i64 ct]) (by simp [results, Tryz.results5, go_sem, R0, R1, R2, R3, R4, R5, R6, R7, R8]) rfl ?_
    exact .inl ⟨by rw [H9.out]; decide, by rw [H9.out, H8.out], HE8.out⟩
  · have hr3 := hr2.trans (hb3.mono hr2.size)
    have H0 : Hid (cn = if listOk DA then 0 else 9) := by show _ = _; rw [HCN.out, if_neg (by omega)]
    have hi3' : IntsAt w3 ao DA := hi3
    have HFR : Hid (∀ g off, ao = some ⟨g, off, none⟩ → W0.heap.size ≤ g) := fun g off e => by have := hfr g off e; have := hr2.size; omega
    clear hfr
    clear hcd hb3 b0 b1 hi3 HTN
    cases hlk : listOk DA with
    | false =>
      have HB4 := HBN w3 ao oc hi3' hlk
      rw [hlk, if_neg (by decide)] at H0
      rw [HDL.out]
      clear HBY HBN hi3' hlk
      go_wp2_with fail
      refine HB4.out.mono ?_
      rintro e w4 ⟨rfl, hb4⟩
      have hr4 := hr3.trans (hb4.mono hr3.size)
      have hb5 := box_below w4 (.cells #[.int .i64 0, .slice none 0 0] 54)
      have hr5 := hr4.trans (hb5.mono hr4.size)
      have H9 : Hid (cn = 9) := H0
      clear hb4 hb5
      have hx1 := HX.out.keeps (keeps_of_below hr5 []) (by simp)
      have c0 := hx1.c 0 (.int .i64 0) rfl
      have c1 := hx1.c 1 (.int .i64 0) rfl
      have c2 := hx1.c 2 (.int .i64 0) rfl
      have c3 := hx1.c 3 (.slice none 0 0) rfl
      have c4 := hx1.c 4 (.int .i64 0) rfl
      have c5 := hx1.c 5 (.int .i64 0) rfl
      have c6 := hx1.c 6 (.int .i64 0) rfl
      have c7 := hx1.c 7 (.slice none 0 0) rfl
      have c8 := hx1.c 8 (.slice none 0 0) rfl
      have f0 := hx1.f 0 (by decide)
      have f1 := hx1.f 1 (by decide)
      have f2 := hx1.f 2 (by decide)
      have f3 := hx1.f 3 (by decide)
      have f4 := hx1.f 4 (by decide)
      have f5 := hx1.f 5 (by decide)
      have f6 := hx1.f 6 (by decide)
      have f7 := hx1.f 7 (by decide)
      have f8 := hx1.f 8 (by decide)
      have hsz9 : w.heap.size ≤ W0.heap.size := by omega
      go_wp2
      obtain ⟨hX8, hk8⟩ := hx1.set9 (.int .i64 0) (.int .i64 0) (.int .i64 0) (.slice none 0 0) (.int .i64 0) (.int .i64 0) (.int .i64 0) (.slice none 0 0) (.slice none 0 0)
      unfold Go.Proofs.YtnfpkjnllkkngaaGreatDoor.set9 at hX8 hk8
      have R0 := hX8.c 0 (.int .i64 0) rfl
      have R1 := hX8.c 1 (.int .i64 0) rfl
      have R2 := hX8.c 2 (.int .i64 0) rfl
      have R3 := hX8.c 3 (.slice none 0 0) rfl
      have R4 := hX8.c 4 (.int .i64 0) rfl
      have R5 := hX8.c 5 (.int .i64 0) rfl
      have R6 := hX8.c 6 (.int .i64 0) rfl
      have R7 := hX8.c 7 (.slice none 0 0) rfl
      have R8 := hX8.c 8 (.slice none 0 0) rfl
      have HE8 := Lib.hid ((HBX.out.trans (hr5.mono hsz9)).trans (hk8.below (by have := hr5.size; omega) (by simp)))
      refine bodyPost_ret (v := .tuple #[.agg #[.int .i64 0, .int .i64 0, .int .i64 0, .slice none 0 0, .int .i64 0, .int .i64 0, .int .i64 0, .slice none 0 0, .slice none 0 0], .int .i64 9]) (by simp [results, Tryz.results5, go_sem, R0, R1, R2, R3, R4, R5, R6, R7, R8]) rfl ?_
      exact .inl ⟨by rw [H9.out]; decide, by rw [H9.out], HE8.out⟩
    | true =>
      have HB4 := HBY w3 ao oc (by have := HDL.out; omega) hi3' hlk
      have HDA := Lib.hid hi3'
      have H0b : Hid (cn = 0) := by have := H0; rw [hlk, if_pos rfl] at this; exact this
      rw [HDL.out]
      unfold SBestIs at HB4
      have HOC : Hid (DA.length ≤ oc) := hoc
      have hla : 2 ≤ lenAt DA (bestP DA) := by unfold lenAt; omega
      obtain ⟨mp, hmp⟩ : ∃ mp, mp = 2 ^ bestP DA := ⟨_, rfl⟩
      obtain ⟨bb, hbb⟩ : ∃ bb, bb = lenAt DA (bestP DA) := ⟨_, rfl⟩
      obtain ⟨bp, hbpe⟩ : ∃ bp, bp = ((bestP DA : Nat) : Int) := ⟨_, rfl⟩
      obtain ⟨KS, hKS⟩ : ∃ KS, KS = ksAt DA (bestP DA) := ⟨_, rfl⟩
      have hmp8 : mp ≤ 8 := by rw [hmp]; exact Nat.le_trans (Nat.pow_le_pow_right (by decide) hbp) (by decide)
      rw [← hmp, ← hbb, ← hbpe, ← hKS] at HB4
      have HKSE := Lib.hid hKS
      have HBPE := Lib.hid hbpe
      rw [← hKS, ← hmp] at hkl
      rw [← hbb] at hla
      have HKL := Lib.hid hkl
      have HCN0 := H0b
      generalize hle : l.length = ll at *
      generalize hie : index.length = il at *
      have HLE := Lib.hid hle
      have HIE := Lib.hid hie
      have t8 : ((bb : Int) == 0) = false := by rw [beq_eq_false_iff_ne]; omega
      have t8n : (bb == 0) = false := by rw [beq_eq_false_iff_ne]; omega
      clear HBY HBN hi3' hlk H0 H0b hmp hbb hbpe hKS hkl hle hie hoc hbp HCN HLF HNE
      go_wp2_with fail
      refine HB4.out.mono ?_
      rintro e w4 ⟨H, rfl, hi4, hH4, hb4⟩
      have HFH : Hid (W0.heap.size ≤ H) := by have := hr3.size; show _ ≤ _; omega
      clear hH4
      have hr4 := hr3.trans (hb4.mono hr3.size)
      have hb5 := box_below w4 (.cells #[.int .i64 bp, .slice (some ⟨H, 0, none⟩) mp mp] 54)
      have hn5 := World.alloc_heap_new w4 (.cells #[.int .i64 bp, .slice (some ⟨H, 0, none⟩) mp mp] 54)
      go_wp2_with fail
      obtain ⟨w5, hw5⟩ : ∃ w5, w5 = w4.alloc (.cells #[.int .i64 bp, .slice (some ⟨H, 0, none⟩) mp mp] 54) := ⟨_, rfl⟩
      rw [← hw5] at hb5 hn5 ⊢
      have hlt5 : w4.heap.size < w5.heap.size := (Array.getElem?_eq_some_iff.1 hn5).1
      have hr5 := hr4.trans (hb5.mono hr4.size)
      have HI5 : Hid (IntsAt w5 (some ⟨H, 0, none⟩) KS) := hi4.below hb5
      have HD5 : Hid (IntsAt w5 ao DA) := (HDA.out.below hb4).below hb5
      have HCC : Hid (∀ W, Below w5.heap.size w5 W → W.cell? ⟨w.heap.size, 0, none⟩ = some (.int .i64 a) ∧ W.cell? ⟨w.heap.size, 1, none⟩ = some (.int .i64 g) ∧ W.cell? ⟨w4.heap.size, 0, none⟩ = some (.int .i64 bp) ∧ W.cell? ⟨w4.heap.size, 1, none⟩ = some (.slice (some ⟨H, 0, none⟩) mp mp)) := fun W hb => by
        obtain ⟨q0, q1⟩ := HTB.out W (hr5.trans (hb.mono hr5.size))
        exact ⟨q0, q1, (hb.cell (p := ⟨w4.heap.size, 0, none⟩) hlt5).trans (cell_of_heap hn5 0), (hb.cell (p := ⟨w4.heap.size, 1, none⟩) hlt5).trans (cell_of_heap hn5 1)⟩
      have HR5 := Lib.hid hr5
      have HR4 := Lib.hid hr4.size
      have ps := HCC.out w5 (Below.refl _ _)
      have HSZ : Hid (w.heap.size + 2 ≤ w4.heap.size) := by have := hr4.size; show _ ≤ _; omega
      have HSL : Hid (w4.heap.size < w5.heap.size) := hlt5
      have HW5 : Hid (Below w5.heap.size w5 w5.drew) := (keeps_drew_b w5 []).below (Nat.le_refl _) (by simp)
      have pd := HCC.out w5.drew HW5.out
      clear hi4 hb4 hb5 hn5 hw5 hr2 hr3 hr4 hr5 HTB HCK HHS HLG HTG HZE t5 t6
      go_region_held3 (fun W => W.cell? ⟨w.heap.size, 0, none⟩ = some (.int .i64 a) ∧ W.cell? ⟨w.heap.size, 1, none⟩ = some (.int .i64 g) ∧ W.cell? ⟨w4.heap.size, 0, none⟩ = some (.int .i64 bp) ∧ W.cell? ⟨w4.heap.size, 1, none⟩ = some (.slice (some ⟨H, 0, none⟩) mp mp))
        (first | with_reducible exact ps | with_reducible exact pd | with_reducible exact p0 | with_reducible exact p1 | with_reducible exact p2 | fail)
        (first
          | (go_at_call 21; refine (HCI.out _ (HR5.out.trans (HW5.out.mono HR5.out.size))).mono ?_; rintro e w7 ⟨co, cc, rfl, hi7, hcc7, hb7, hf7⟩; have HF7 := Lib.hid hf7; have HB7 : Hid (Below w5.heap.size w5 w7) := HW5.out.trans (hb7.mono HW5.out.size); have p0 := HCC.out w7 HB7.out; have HI7 := Lib.hid hi7; have HC7 := Lib.hid hcc7; clear hi7 hcc7 hb7 hf7)
          | (go_at_call 20; refine (HNB _ _ _ _ _ _ _ _ _ _ _).out.mono ?_; rintro e w8 ⟨rfl, hb8⟩; have HB8 : Hid (Below w5.heap.size w5 w8) := HB7.out.trans (hb8.mono HB7.out.size); have p1 := HCC.out w8 HB8.out; have HI8 := Lib.hid (HI7.out.below hb8); have hx1 := HX.out.keeps (keeps_of_below (HR5.out.trans (HB8.out.mono HR5.out.size)) []) (by simp); have c0 := hx1.c 0 (.int .i64 0) rfl; have c1 := hx1.c 1 (.int .i64 0) rfl; have c2 := hx1.c 2 (.int .i64 0) rfl; have c3 := hx1.c 3 (.slice none 0 0) rfl; have c4 := hx1.c 4 (.int .i64 0) rfl; have c5 := hx1.c 5 (.int .i64 0) rfl; have c6 := hx1.c 6 (.int .i64 0) rfl; have c7 := hx1.c 7 (.slice none 0 0) rfl; have c8 := hx1.c 8 (.slice none 0 0) rfl; have f0 := hx1.f 0 (by decide); have f1 := hx1.f 1 (by decide); have f2 := hx1.f 2 (by decide); have f3 := hx1.f 3 (by decide); have f4 := hx1.f 4 (by decide); have f5 := hx1.f 5 (by decide); have f6 := hx1.f 6 (by decide); have f7 := hx1.f 7 (by decide); have f8 := hx1.f 8 (by decide); obtain ⟨hX9, hk9⟩ := hx1.set9 (.int .i64 2) (.int .i64 0) (.int .i64 s) (.slice co il cc) (.int .i64 a) (.int .i64 g) (.int .i64 bp) (.slice (some ⟨H, 0, none⟩) mp mp) (.slice ao ll oc); unfold Go.Proofs.YtnfpkjnllkkngaaGreatDoor.set9 at hX9 hk9; have hz8 := HB8.out.size; have p2 := And.intro ((hk9.cell (p := ⟨w.heap.size, 0, none⟩) (by have := HSZ.out; have := HSL.out; show w.heap.size < _; omega) (by simp)).trans p1.1) (And.intro ((hk9.cell (p := ⟨w.heap.size, 1, none⟩) (by have := HSZ.out; have := HSL.out; show w.heap.size < _; omega) (by simp)).trans p1.2.1) (And.intro ((hk9.cell (p := ⟨w4.heap.size, 0, none⟩) (by have := HSL.out; show w4.heap.size < _; omega) (by have := HSZ.out; simp; omega)).trans p1.2.2.1) ((hk9.cell (p := ⟨w4.heap.size, 1, none⟩) (by have := HSL.out; show w4.heap.size < _; omega) (by have := HSZ.out; simp; omega)).trans p1.2.2.2))); have HX9 := Lib.hid hX9; have HK9 := Lib.hid hk9; clear hb8 hx1 hX9 hk9)
          | fail)
      all_goals
        clear c0 c1 c2 c3 c4 c5 c6 c7 c8 f0 f1 f2 f3 f4 f5 f6 f7 f8 ps pd p0 p1 p2
        have R0 := HX9.out.c 0 (.int .i64 2) rfl
        have R1 := HX9.out.c 1 (.int .i64 0) rfl
        have R2 := HX9.out.c 2 (.int .i64 s) rfl
        have R3 := HX9.out.c 3 (.slice co il cc) rfl
        have R4 := HX9.out.c 4 (.int .i64 a) rfl
        have R5 := HX9.out.c 5 (.int .i64 g) rfl
        have R6 := HX9.out.c 6 (.int .i64 bp) rfl
        have R7 := HX9.out.c 7 (.slice (some ⟨H, 0, none⟩) mp mp) rfl
        have R8 := HX9.out.c 8 (.slice ao ll oc) rfl
        go_wp2
        refine bodyPost_ret (v := .tuple #[.agg #[.int .i64 2, .int .i64 0, .int .i64 s, .slice co il cc, .int .i64 a, .int .i64 g, .int .i64 bp, .slice (some ⟨H, 0, none⟩) mp mp, .slice ao ll oc], .int .i64 0]) (by simp [results, Tryz.results5, go_sem, R0, R1, R2, R3, R4, R5, R6, R7, R8]) rfl ?_
        have hb8w : Below w5.heap.size w5 w8 := HB8.out
        refine .inr ⟨HCN0.out, co, some ⟨H, 0, none⟩, ao, cc, mp, oc, ?_, ⟨?_, ?_, ?_, ?_, ?_, ?_, ?_, ?_, ?_⟩, ?_⟩
        · unfold blkV
          dsimp only
          rw [← HKSE.out, ← HBPE.out, HIE.out, HKL.out, HDL.out]
        · exact HI8.out.keeps HK9.out (fun g off e => by have := HF7.out g off e; simp; omega)
        · show IntsAt _ _ (ksAt DA (bestP DA))
          rw [← HKSE.out]
          exact (HI5.out.below hb8w).keeps HK9.out (fun g off e => by cases e; have := HFH.out; simp; omega)
        · exact (HD5.out.below hb8w).keeps HK9.out (fun g off e => by have := HFR.out g off e; simp; omega)
        · show index.length ≤ _
          rw [HIE.out]; omega
        · show (ksAt DA (bestP DA)).length ≤ _
          rw [← HKSE.out, HKL.out]; omega
        · show DA.length ≤ _
          rw [HDL.out]; omega
        · show index.length ≤ _
          rw [HIE.out]; exact HC7.out
        · show (ksAt DA (bestP DA)).length ≤ _
          rw [← HKSE.out, HKL.out]; omega
        · exact HOC.out
        · exact (HBX.out.trans ((HR5.out.trans (hb8w.mono HR5.out.size)).mono (by omega))).trans (HK9.out.below (by have := hb8w.size; have := HR5.out.size; omega) (by simp))

theorem cNormal10 (lo io : Option Addr) (lcap icap : Nat) (l index : List Int) (d a g sh : Int) (w : World) (hl : l.length ≤ 1000) (hil : index.length ≤ 1000) (hicap : index.length ≤ icap) (hi : IntsAt w lo l) (hj : IntsAt w io index) (ht : TabZ w) : Calls Tryz.prog 5 #[.slice lo l.length lcap, .int .i64 d, .slice io index.length icap, .agg #[.int .i64 a, .int .i64 g], .int .i64 sh] w (NormIs l d index a g sh w) := by
  by_cases hc : chkB l d = 0
  · cases hf : (shiftB d sh && goodL index && goodT a g && divs sh.toNat l) with
    | false => exact cNormal_form lo io lcap icap l index d a g sh w hl hil hi hj ht hc hf
    | true => exact cNormal_good lo io lcap icap l index d a g sh w hl hil hicap hi hj ht hc hf
  · exact cNormal_samples lo io lcap icap l index d a g sh w hl hi hc
end Go.Proofs.YtnfpkjnllkkngaaGreatDoor
