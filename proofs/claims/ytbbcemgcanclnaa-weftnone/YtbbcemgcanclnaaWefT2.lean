import Derived.Test.YtbbcemgcanclnaaWefT1
namespace Go.Proofs.Ytbbcemgcanclnaa
open Go.RowKit Go.Proofs Go.Proofs.PipeM Go.Proofs.PipeA Go.Proofs.WefM
set_option maxRecDepth 100000

set_option maxHeartbeats 6400000 in
theorem rTakeW (m : MR) (ch : Int) (w : World) (hb : m.bits.length ≤ 1000000000) :
    Calls Try.prog 16 #[m.val, .int .i64 ch] w fun e w' => e = .returned (.tuple #[(m.weave ch).1.val, wvV (m.weave ch).2]) ∧ Below w.heap.size w w' := by
  have HTK1 := fun W => Lib.hid (mTake m 1 W hb)
  have hlen1 := Nat.le_trans (MR.take_lenW m 1) hb
  have HW : Hid (m.weave ch = if (m.take 1).2 = 0 then ((m.take 1).1, ⟨false, 0, 0, 0, 0⟩) else weaveEnd (((m.take 1).1.take 3).1.gains 3) ⟨true, ((m.take 1).1.take 3).2, (((m.take 1).1.take 3).1.gains 0).intV 5, (((m.take 1).1.take 3).1.gains 1).intV 5, (((m.take 1).1.take 3).1.gains 2).intV 5⟩ ch) := rfl
  unfold MRes at HTK1
  generalize hv : m.weave ch = ans at *
  generalize htk : m.take 1 = t1 at *
  obtain ⟨m1, v⟩ := t1
  clear hv htk hb
  dsimp only at HTK1 hlen1 HW
  have HTK2 := fun W => Lib.hid (mTake m1 3 W hlen1)
  have hlen2 := Nat.le_trans (MR.take_lenW m1 3) hlen1
  unfold MRes at HTK2
  generalize htk2 : m1.take 3 = t2 at *
  obtain ⟨m2, M⟩ := t2
  clear htk2 hlen1
  dsimp only at HTK2 hlen2 HW
  have HIN : Hid (∀ c W, Calls Try.prog 35 #[(m2.gains c).val, .int .i64 5] W fun r w' => r = .returned (.tuple #[(m2.gains (c + 1)).val, .int .i64 ((m2.gains c).intV 5)]) ∧ Below W.heap.size W w') := fun c W => mInt (m2.gains c) 5 W (by decide) (by decide) (Nat.le_trans (MR.gains_len m2 c) hlen2)
  obtain ⟨W0, hW0⟩ : ∃ W0, W0 = ((w.alloc (.cells #[.string (str m.bits), .int .i64 m.all, .int .i64 m.fail] 44)).alloc (.cells #[.string ⟨#[]⟩, .int .i64 0, .int .i64 0] 44)).alloc (.cells #[.bool false, .int .i64 0, .int .i64 0, .int .i64 0, .int .i64 0] 24) := ⟨_, rfl⟩
  have HW0 := Lib.hid hW0
  have HST : Hid (∀ w1, Below W0.heap.size W0 w1 → WTake w m1 w1.heap.size #[.bool false, .int .i64 0, .int .i64 0, .int .i64 0, .int .i64 0] ((((w1.setCell ⟨w.heap.size, 0, none⟩ (.string (str m1.bits))).setCell ⟨w.heap.size, 1, none⟩ (.int .i64 m1.all)).setCell ⟨w.heap.size, 2, none⟩ (.int .i64 m1.fail)).alloc (.cells #[.bool false, .int .i64 0, .int .i64 0, .int .i64 0, .int .i64 0] 24)) ∧ BoxN w1 w.heap.size #[.string (str m.bits), .int .i64 m.all, .int .i64 m.fail]) := fun w1 h => wtake_start w m m1 hW0 h rfl
  unfold MR.val at HTK1 HTK2 HIN ⊢
  unfold wvV
  clear hW0 hlen2
  go_enter Try.func16, Try.ntmps16
  go_wp2_with fail
  rw [← HW0.out]
  refine (HTK1 _).out.mono ?_
  rintro e w1 ⟨rfl, hb1⟩
  obtain ⟨hT, hR⟩ := HST.out w1 hb1
  obtain ⟨W2, hW2⟩ : ∃ W2, ((((w1.setCell ⟨w.heap.size, 0, none⟩ (.string (str m1.bits))).setCell ⟨w.heap.size, 1, none⟩ (.int .i64 m1.all)).setCell ⟨w.heap.size, 2, none⟩ (.int .i64 m1.fail)).alloc (.cells #[.bool false, .int .i64 0, .int .i64 0, .int .i64 0, .int .i64 0] 24)) = W2 := ⟨_, rfl⟩
  obtain ⟨XB, hXB⟩ : ∃ XB, w1.heap.size = XB := ⟨_, rfl⟩
  rw [hW2, hXB] at hT
  have HXB := Lib.hid hT.xb
  have s0 := hR.c 0 (.string (str m.bits)) rfl
  have s1 := hR.c 1 (.int .i64 m.all) rfl
  have s2 := hR.c 2 (.int .i64 m.fail) rfl
  have sf0 := hR.f 0 (show 0 < 3 by decide)
  have sf1 := hR.f 1 (show 1 < 3 by decide)
  have sf2 := hR.f 2 (show 2 < 3 by decide)
  have n0 : ¬ (XB = w.heap.size) := by have := HXB.out; omega
  have n1 : ¬ (XB = w.heap.size + 1) := by have := HXB.out; omega
  have n2 : ¬ (XB = w.heap.size + 1 + 1) := by have := HXB.out; omega
  have n3 : ¬ (w.heap.size = XB) := by have := HXB.out; omega
  have n4 : ¬ (w.heap.size + 1 = XB) := by have := HXB.out; omega
  have n5 : ¬ (w.heap.size + 1 + 1 = XB) := by have := HXB.out; omega
  have r0 := hT.r.c 0 (.string (str m1.bits)) rfl
  have r1 := hT.r.c 1 (.int .i64 m1.all) rfl
  have r2 := hT.r.c 2 (.int .i64 m1.fail) rfl
  have rf0 := hT.r.f 0 (show 0 < 3 by decide)
  have rf1 := hT.r.f 1 (show 1 < 3 by decide)
  have rf2 := hT.r.f 2 (show 2 < 3 by decide)
  have o0 := hT.o1.c 0 (.string ⟨#[]⟩) rfl
  have o1 := hT.o1.c 1 (.int .i64 0) rfl
  have o2 := hT.o1.c 2 (.int .i64 0) rfl
  have of0 := hT.o1.f 0 (show 0 < 3 by decide)
  have of1 := hT.o1.f 1 (show 1 < 3 by decide)
  have of2 := hT.o1.f 2 (show 2 < 3 by decide)
  have p0 := hT.o2.c 0 (.bool false) rfl
  have p1 := hT.o2.c 1 (.int .i64 0) rfl
  have p2 := hT.o2.c 2 (.int .i64 0) rfl
  have p3 := hT.o2.c 3 (.int .i64 0) rfl
  have p4 := hT.o2.c 4 (.int .i64 0) rfl
  have pf0 := hT.o2.f 0 (show 0 < 5 by decide)
  have pf1 := hT.o2.f 1 (show 1 < 5 by decide)
  have pf2 := hT.o2.f 2 (show 2 < 5 by decide)
  have pf3 := hT.o2.f 3 (show 3 < 5 by decide)
  have pf4 := hT.o2.f 4 (show 4 < 5 by decide)
  have x0 := hT.x.c 0 (.bool false) rfl
  have x1 := hT.x.c 1 (.int .i64 0) rfl
  have x2 := hT.x.c 2 (.int .i64 0) rfl
  have x3 := hT.x.c 3 (.int .i64 0) rfl
  have x4 := hT.x.c 4 (.int .i64 0) rfl
  have xf0 := hT.x.f 0 (show 0 < 5 by decide)
  have xf1 := hT.x.f 1 (show 1 < 5 by decide)
  have xf2 := hT.x.f 2 (show 2 < 5 by decide)
  have xf3 := hT.x.f 3 (show 3 < 5 by decide)
  have xf4 := hT.x.f 4 (show 4 < 5 by decide)
  have hT0 := ((((hT.put (xs' := #[.bool false, .int .i64 0, .int .i64 0, .int .i64 0, .int .i64 0]) 0 (.bool false) (show 0 < 5 by decide) rfl).put (xs' := #[.bool false, .int .i64 0, .int .i64 0, .int .i64 0, .int .i64 0]) 1 (.int .i64 0) (show 1 < 5 by decide) rfl).put (xs' := #[.bool false, .int .i64 0, .int .i64 0, .int .i64 0, .int .i64 0]) 2 (.int .i64 0) (show 2 < 5 by decide) rfl).put (xs' := #[.bool false, .int .i64 0, .int .i64 0, .int .i64 0, .int .i64 0]) 3 (.int .i64 0) (show 3 < 5 by decide) rfl).put (xs' := #[.bool false, .int .i64 0, .int .i64 0, .int .i64 0, .int .i64 0]) 4 (.int .i64 0) (show 4 < 5 by decide) rfl
  by_cases hv0 : v = 0
  · have t1 : ((v : Int) == 0) = true := by rw [beq_iff_eq]; omega
    have t1n : (v == 0) = true := by rw [beq_iff_eq]; exact hv0
    have HAN : Hid (ans = (m1, ⟨false, 0, 0, 0, 0⟩)) := by show _ = _; rw [HW.out, if_pos hv0]
    obtain ⟨e1, e2, e3⟩ := hT0.done (.string (str m1.bits)) (.int .i64 m1.all) (.int .i64 m1.fail) (.bool false) (.int .i64 0) (.int .i64 0) (.int .i64 0) (.int .i64 0)
    have y0 := e1.c 0 (.string (str m1.bits)) rfl
    have y1 := e1.c 1 (.int .i64 m1.all) rfl
    have y2 := e1.c 2 (.int .i64 m1.fail) rfl
    have q0 := e2.c 0 (.bool false) rfl
    have q1 := e2.c 1 (.int .i64 0) rfl
    have q2 := e2.c 2 (.int .i64 0) rfl
    have q3 := e2.c 3 (.int .i64 0) rfl
    have q4 := e2.c 4 (.int .i64 0) rfl
    have HEN := Lib.hid e3
    clear e1 e2 e3
    have HM : Hid ((ans.1).val = .agg #[.string (str m1.bits), .int .i64 m1.all, .int .i64 m1.fail] ∧ wvV ans.2 = .agg #[.bool false, .int .i64 0, .int .i64 0, .int .i64 0, .int .i64 0]) := by show _ ∧ _; rw [HAN.out]; exact ⟨rfl, rfl⟩
    clear hv0 hT hT0 hR hb1 HW HAN
    unfold wvV at HM
    generalize str m1.bits = gs at *
    generalize m1.all = ga at *
    generalize m1.fail = gf at *
    go_wp2_with fail
    go_region
    go_wp2
    refine bodyPost_ret (v := .tuple #[.agg #[.string (gs), .int .i64 ga, .int .i64 gf], .agg #[.bool false, .int .i64 0, .int .i64 0, .int .i64 0, .int .i64 0]]) (by simp [results, Try.results16, go_sem, y0, y1, y2, q0, q1, q2, q3, q4]) rfl ?_
    exact ⟨by rw [← HM.out.1, ← HM.out.2]; rfl, below_drew HEN.out⟩
  · have t1 : ((v : Int) == 0) = false := by rw [beq_eq_false_iff_ne]; omega
    have t1n : (v == 0) = false := by rw [beq_eq_false_iff_ne]; exact hv0
    have HAN : Hid (ans = weaveEnd (m2.gains 3) ⟨true, M, (m2.gains 0).intV 5, (m2.gains 1).intV 5, (m2.gains 2).intV 5⟩ ch) := by show _ = _; rw [HW.out, if_neg hv0]
    have hTa := hT0.put (xs' := #[.bool true, .int .i64 0, .int .i64 0, .int .i64 0, .int .i64 0]) 0 (.bool true) (show 0 < 5 by decide) rfl
    have HTa := Lib.hid hTa
    clear hv0 hT hT0 hR hb1 HW hTa
    go_wp2_with fail
    refine (HTK2 _).out.mono ?_
    rintro e w4 ⟨rfl, hb4⟩
    have T4 := HTa.out.call hb4
    clear s0 s1 s2 sf0 sf1 sf2
    clear r0 rf0 r1 rf1 r2 rf2 o0 of0 o1 of1 o2 of2 p0 pf0 p1 pf1 p2 pf2 p3 pf3 p4 pf4 x0 xf0 x1 xf1 x2 xf2 x3 xf3 x4 xf4
    have r0 := T4.r.c 0 (.string (str m1.bits)) rfl
    have r1 := T4.r.c 1 (.int .i64 m1.all) rfl
    have r2 := T4.r.c 2 (.int .i64 m1.fail) rfl
    have rf0 := T4.r.f 0 (show 0 < 3 by decide)
    have rf1 := T4.r.f 1 (show 1 < 3 by decide)
    have rf2 := T4.r.f 2 (show 2 < 3 by decide)
    have x0 := T4.x.c 0 (.bool true) rfl
    have x1 := T4.x.c 1 (.int .i64 0) rfl
    have x2 := T4.x.c 2 (.int .i64 0) rfl
    have x3 := T4.x.c 3 (.int .i64 0) rfl
    have x4 := T4.x.c 4 (.int .i64 0) rfl
    have xf0 := T4.x.f 0 (show 0 < 5 by decide)
    have xf1 := T4.x.f 1 (show 1 < 5 by decide)
    have xf2 := T4.x.f 2 (show 2 < 5 by decide)
    have xf3 := T4.x.f 3 (show 3 < 5 by decide)
    have xf4 := T4.x.f 4 (show 4 < 5 by decide)
    have HT5 : Hid (WTake w m2 XB (wvCs M m2 0) _) := Lib.hid ((T4.read m2).put (xs' := wvCs M m2 0) 1 (.int .i64 M) (show 1 < 5 by decide) (wvCs_zero M m2))
    clear T4 hb4
    go_wp2
    clear r0 rf0 r1 rf1 r2 rf2 x0 xf0 x1 xf1 x2 xf2 x3 xf3 x4 xf4
    go_loopg [8, 9, 10, 28] 3 (fun gk q1 q2 q3 i wr => ∃ c : Nat, c ≤ 3 ∧ gk + c = 3 ∧ i = .int .i64 c ∧ Hid (WTake w (m2.gains c) XB (wvCs M m2 c) wr))
    case atStart => exact ⟨0, by omega, by omega, rfl, HT5⟩
    case round =>
      obtain ⟨c, hc, hgk, rfl, HT⟩ := hrel
      have HGK := Lib.hid hgk
      clear hgk
      by_cases hlt : c < 3
      · obtain ⟨iv, hiv⟩ : ∃ iv, iv = (m2.gains c).intV 5 := ⟨_, rfl⟩
        obtain ⟨mc, hmc⟩ : ∃ mc, mc = m2.gains (c + 1) := ⟨_, rfl⟩
        have HI := Lib.hid (HIN.out c wr)
        have HST2 : Hid (wvCs M m2 (c + 1) = (wvCs M m2 c).setIfInBounds (2 + c) (.int .i64 iv)) := by show _ = _; rw [hiv]; exact wvCs_step M m2 hlt
        rw [← hiv, ← hmc] at HI
        have HMC := Lib.hid hmc
        obtain ⟨ov, hov⟩ := wvCs_old M m2 hlt
        have HOV := Lib.hid hov
        generalize m2.gains c = mo at *
        clear hiv hmc hov
        have r0 := HT.out.r.c 0 (.string (str mo.bits)) rfl
        have r1 := HT.out.r.c 1 (.int .i64 mo.all) rfl
        have r2 := HT.out.r.c 2 (.int .i64 mo.fail) rfl
        have rf0 := HT.out.r.f 0 (show 0 < 3 by decide)
        have rf1 := HT.out.r.f 1 (show 1 < 3 by decide)
        have rf2 := HT.out.r.f 2 (show 2 < 3 by decide)
        go_wp2_with fail
        refine HI.out.mono ?_
        rintro e w6 ⟨rfl, hb6⟩
        have bx := box_below w6 (.cells #[.string (str mc.bits), .int .i64 mc.all, .int .i64 mc.fail] 44)
        have nx := boxN_new w6 #[.string (str mc.bits), .int .i64 mc.all, .int .i64 mc.fail] 44
        have T7 := (HT.out.call hb6).call bx
        clear r0 rf0 r1 rf1 r2 rf2
        have r0 := T7.r.c 0 (.string (str mo.bits)) rfl
        have r1 := T7.r.c 1 (.int .i64 mo.all) rfl
        have r2 := T7.r.c 2 (.int .i64 mo.fail) rfl
        have rf0 := T7.r.f 0 (show 0 < 3 by decide)
        have rf1 := T7.r.f 1 (show 1 < 3 by decide)
        have rf2 := T7.r.f 2 (show 2 < 3 by decide)
        have e2 := T7.x.c (2 + c) ov HOV.out
        have ef2 := T7.x.f (2 + c) (show 2 + c < 5 by omega)
        have g0 := nx.c 0 (.string (str mc.bits)) rfl
        have g1 := nx.c 1 (.int .i64 mc.all) rfl
        have g2 := nx.c 2 (.int .i64 mc.fail) rfl
        have HT8 : Hid (WTake w mc XB (wvCs M m2 (c + 1)) _) := Lib.hid ((T7.read mc).put (xs' := wvCs M m2 (c + 1)) (2 + c) (.int .i64 iv) (show 2 + c < 5 by omega) HST2.out)
        rw [HMC.out] at HT8
        clear T7 hb6 bx nx HI
        go_wp2
        go_roundg (gk - 1)
        case rel => exact ⟨c + 1, by omega, by have := HGK.out; omega, by go_num, by rw [HMC.out]; exact HT8⟩
        case measure => have := HGK.out; omega
      · obtain rfl : c = 3 := by omega
        have hT3 := HT.out
        rw [wvCs_three] at hT3
        have HG := fun x W => Lib.hid (rGoodW x ch W)
        unfold wvV at HG
        clear HIN HTK1 HTK2 HST HT HTa HT5 HGK hlt hc HXB
        generalize (m2.gains 0).intV 5 = i0 at *
        generalize (m2.gains 1).intV 5 = i1 at *
        generalize (m2.gains 2).intV 5 = i2 at *
        generalize m2.gains 3 = m5 at *
        have HGV := mGive m5 2
        unfold MR.val at HGV
        have r0 := hT3.r.c 0 (.string (str m5.bits)) rfl
        have r1 := hT3.r.c 1 (.int .i64 m5.all) rfl
        have r2 := hT3.r.c 2 (.int .i64 m5.fail) rfl
        have rf0 := hT3.r.f 0 (show 0 < 3 by decide)
        have rf1 := hT3.r.f 1 (show 1 < 3 by decide)
        have rf2 := hT3.r.f 2 (show 2 < 3 by decide)
        have o0 := hT3.o1.c 0 (.string ⟨#[]⟩) rfl
        have o1 := hT3.o1.c 1 (.int .i64 0) rfl
        have o2 := hT3.o1.c 2 (.int .i64 0) rfl
        have of0 := hT3.o1.f 0 (show 0 < 3 by decide)
        have of1 := hT3.o1.f 1 (show 1 < 3 by decide)
        have of2 := hT3.o1.f 2 (show 2 < 3 by decide)
        have p0 := hT3.o2.c 0 (.bool false) rfl
        have p1 := hT3.o2.c 1 (.int .i64 0) rfl
        have p2 := hT3.o2.c 2 (.int .i64 0) rfl
        have p3 := hT3.o2.c 3 (.int .i64 0) rfl
        have p4 := hT3.o2.c 4 (.int .i64 0) rfl
        have pf0 := hT3.o2.f 0 (show 0 < 5 by decide)
        have pf1 := hT3.o2.f 1 (show 1 < 5 by decide)
        have pf2 := hT3.o2.f 2 (show 2 < 5 by decide)
        have pf3 := hT3.o2.f 3 (show 3 < 5 by decide)
        have pf4 := hT3.o2.f 4 (show 4 < 5 by decide)
        have x0 := hT3.x.c 0 (.bool true) rfl
        have x1 := hT3.x.c 1 (.int .i64 M) rfl
        have x2 := hT3.x.c 2 (.int .i64 i0) rfl
        have x3 := hT3.x.c 3 (.int .i64 i1) rfl
        have x4 := hT3.x.c 4 (.int .i64 i2) rfl
        have xf0 := hT3.x.f 0 (show 0 < 5 by decide)
        have xf1 := hT3.x.f 1 (show 1 < 5 by decide)
        have xf2 := hT3.x.f 2 (show 2 < 5 by decide)
        have xf3 := hT3.x.f 3 (show 3 < 5 by decide)
        have xf4 := hT3.x.f 4 (show 4 < 5 by decide)
        by_cases hf : m5.fail = 0
        · have tf : (m5.fail == 0) = true := by rw [beq_iff_eq]; exact hf
          have tn : (m5.fail != 0) = false := by rw [bne_eq_false_iff_eq]; exact hf
          have HGD := HG ⟨true, M, i0, i1, i2⟩ wr
          cases hg : goodW ⟨true, M, i0, i1, i2⟩ ch with
          | true =>
            rw [hg] at HGD
            have HM : Hid ((ans.1).val = .agg #[.string (str m5.bits), .int .i64 m5.all, .int .i64 m5.fail] ∧ wvV ans.2 = .agg #[.bool true, .int .i64 M, .int .i64 i0, .int .i64 i1, .int .i64 i2]) := by show _ ∧ _; rw [HAN.out]; unfold weaveEnd; rw [if_pos hf, hg, if_neg (by decide)]; exact ⟨rfl, rfl⟩
            have HT3 := Lib.hid hT3
            clear hg HAN hf hT3 HGV HG
            unfold wvV at HM
            go_wp2_with fail
            refine HGD.out.mono ?_
            rintro e w7 ⟨rfl, hb7⟩
            have T7 := HT3.out.call hb7
            clear r0 rf0 r1 rf1 r2 rf2 o0 of0 o1 of1 o2 of2 p0 pf0 p1 pf1 p2 pf2 p3 pf3 p4 pf4 x0 xf0 x1 xf1 x2 xf2 x3 xf3 x4 xf4
            have r0 := T7.r.c 0 (.string (str m5.bits)) rfl
            have r1 := T7.r.c 1 (.int .i64 m5.all) rfl
            have r2 := T7.r.c 2 (.int .i64 m5.fail) rfl
            have rf0 := T7.r.f 0 (show 0 < 3 by decide)
            have rf1 := T7.r.f 1 (show 1 < 3 by decide)
            have rf2 := T7.r.f 2 (show 2 < 3 by decide)
            have o0 := T7.o1.c 0 (.string ⟨#[]⟩) rfl
            have o1 := T7.o1.c 1 (.int .i64 0) rfl
            have o2 := T7.o1.c 2 (.int .i64 0) rfl
            have of0 := T7.o1.f 0 (show 0 < 3 by decide)
            have of1 := T7.o1.f 1 (show 1 < 3 by decide)
            have of2 := T7.o1.f 2 (show 2 < 3 by decide)
            have p0 := T7.o2.c 0 (.bool false) rfl
            have p1 := T7.o2.c 1 (.int .i64 0) rfl
            have p2 := T7.o2.c 2 (.int .i64 0) rfl
            have p3 := T7.o2.c 3 (.int .i64 0) rfl
            have p4 := T7.o2.c 4 (.int .i64 0) rfl
            have pf0 := T7.o2.f 0 (show 0 < 5 by decide)
            have pf1 := T7.o2.f 1 (show 1 < 5 by decide)
            have pf2 := T7.o2.f 2 (show 2 < 5 by decide)
            have pf3 := T7.o2.f 3 (show 3 < 5 by decide)
            have pf4 := T7.o2.f 4 (show 4 < 5 by decide)
            have x0 := T7.x.c 0 (.bool true) rfl
            have x1 := T7.x.c 1 (.int .i64 M) rfl
            have x2 := T7.x.c 2 (.int .i64 i0) rfl
            have x3 := T7.x.c 3 (.int .i64 i1) rfl
            have x4 := T7.x.c 4 (.int .i64 i2) rfl
            have xf0 := T7.x.f 0 (show 0 < 5 by decide)
            have xf1 := T7.x.f 1 (show 1 < 5 by decide)
            have xf2 := T7.x.f 2 (show 2 < 5 by decide)
            have xf3 := T7.x.f 3 (show 3 < 5 by decide)
            have xf4 := T7.x.f 4 (show 4 < 5 by decide)
            obtain ⟨e1, e2, e3⟩ := T7.done (.string (str m5.bits)) (.int .i64 m5.all) (.int .i64 m5.fail) (.bool true) (.int .i64 M) (.int .i64 i0) (.int .i64 i1) (.int .i64 i2)
            have y0 := e1.c 0 (.string (str m5.bits)) rfl
            have y1 := e1.c 1 (.int .i64 m5.all) rfl
            have y2 := e1.c 2 (.int .i64 m5.fail) rfl
            have q0 := e2.c 0 (.bool true) rfl
            have q1 := e2.c 1 (.int .i64 M) rfl
            have q2 := e2.c 2 (.int .i64 i0) rfl
            have q3 := e2.c 3 (.int .i64 i1) rfl
            have q4 := e2.c 4 (.int .i64 i2) rfl
            have HEN := Lib.hid e3
            clear e1 e2 e3
            clear T7 hb7 HGD HT3
            generalize str m5.bits = gs at *
            generalize m5.all = ga at *
            generalize m5.fail = gf at *
            go_wp2_with fail
            go_region
            go_wp2
            refine bodyPost_ret (v := .tuple #[.agg #[.string (gs), .int .i64 ga, .int .i64 gf], .agg #[.bool true, .int .i64 M, .int .i64 i0, .int .i64 i1, .int .i64 i2]]) (by simp [results, Try.results16, go_sem, y0, y1, y2, q0, q1, q2, q3, q4]) rfl ?_
            exact ⟨by rw [← HM.out.1, ← HM.out.2]; rfl, below_drew HEN.out⟩
          | false =>
            rw [hg] at HGD
            obtain ⟨m6, hm6⟩ : ∃ m6, m6 = m5.give 2 := ⟨_, rfl⟩
            have hf6 : m6.fail ≠ 0 := by rw [hm6]; exact give_fail _ 2 (by decide)
            have tn6 : (m6.fail != 0) = true := bne_iff_ne.2 hf6
            have HM : Hid ((ans.1).val = .agg #[.string (str m6.bits), .int .i64 m6.all, .int .i64 m6.fail] ∧ wvV ans.2 = .agg #[.bool false, .int .i64 0, .int .i64 0, .int .i64 0, .int .i64 0]) := by show _ ∧ _; rw [HAN.out, hm6]; unfold weaveEnd; rw [if_pos hf, hg, if_pos rfl]; exact ⟨rfl, rfl⟩
            have HT3 := Lib.hid hT3
            have HGI := fun W => Lib.hid (HGV W)
            rw [← hm6] at HGI
            clear hg HAN hf hT3 HGV HG hf6 hm6
            unfold wvV at HM
            go_wp2_with fail
            refine HGD.out.mono ?_
            rintro e w7 ⟨rfl, hb7⟩
            have T7 := HT3.out.call hb7
            clear r0 rf0 r1 rf1 r2 rf2 o0 of0 o1 of1 o2 of2 p0 pf0 p1 pf1 p2 pf2 p3 pf3 p4 pf4 x0 xf0 x1 xf1 x2 xf2 x3 xf3 x4 xf4
            have r0 := T7.r.c 0 (.string (str m5.bits)) rfl
            have r1 := T7.r.c 1 (.int .i64 m5.all) rfl
            have r2 := T7.r.c 2 (.int .i64 m5.fail) rfl
            have rf0 := T7.r.f 0 (show 0 < 3 by decide)
            have rf1 := T7.r.f 1 (show 1 < 3 by decide)
            have rf2 := T7.r.f 2 (show 2 < 3 by decide)
            have o0 := T7.o1.c 0 (.string ⟨#[]⟩) rfl
            have o1 := T7.o1.c 1 (.int .i64 0) rfl
            have o2 := T7.o1.c 2 (.int .i64 0) rfl
            have of0 := T7.o1.f 0 (show 0 < 3 by decide)
            have of1 := T7.o1.f 1 (show 1 < 3 by decide)
            have of2 := T7.o1.f 2 (show 2 < 3 by decide)
            have p0 := T7.o2.c 0 (.bool false) rfl
            have p1 := T7.o2.c 1 (.int .i64 0) rfl
            have p2 := T7.o2.c 2 (.int .i64 0) rfl
            have p3 := T7.o2.c 3 (.int .i64 0) rfl
            have p4 := T7.o2.c 4 (.int .i64 0) rfl
            have pf0 := T7.o2.f 0 (show 0 < 5 by decide)
            have pf1 := T7.o2.f 1 (show 1 < 5 by decide)
            have pf2 := T7.o2.f 2 (show 2 < 5 by decide)
            have pf3 := T7.o2.f 3 (show 3 < 5 by decide)
            have pf4 := T7.o2.f 4 (show 4 < 5 by decide)
            have x0 := T7.x.c 0 (.bool true) rfl
            have x1 := T7.x.c 1 (.int .i64 M) rfl
            have x2 := T7.x.c 2 (.int .i64 i0) rfl
            have x3 := T7.x.c 3 (.int .i64 i1) rfl
            have x4 := T7.x.c 4 (.int .i64 i2) rfl
            have xf0 := T7.x.f 0 (show 0 < 5 by decide)
            have xf1 := T7.x.f 1 (show 1 < 5 by decide)
            have xf2 := T7.x.f 2 (show 2 < 5 by decide)
            have xf3 := T7.x.f 3 (show 3 < 5 by decide)
            have xf4 := T7.x.f 4 (show 4 < 5 by decide)
            go_wp2_with fail
            refine (HGI _).out.mono ?_
            rintro e w8 ⟨rfl, hb8⟩
            have T8 := T7.call hb8
            clear r0 rf0 r1 rf1 r2 rf2 o0 of0 o1 of1 o2 of2 p0 pf0 p1 pf1 p2 pf2 p3 pf3 p4 pf4 x0 xf0 x1 xf1 x2 xf2 x3 xf3 x4 xf4
            have r0 := T8.r.c 0 (.string (str m5.bits)) rfl
            have r1 := T8.r.c 1 (.int .i64 m5.all) rfl
            have r2 := T8.r.c 2 (.int .i64 m5.fail) rfl
            have rf0 := T8.r.f 0 (show 0 < 3 by decide)
            have rf1 := T8.r.f 1 (show 1 < 3 by decide)
            have rf2 := T8.r.f 2 (show 2 < 3 by decide)
            have o0 := T8.o1.c 0 (.string ⟨#[]⟩) rfl
            have o1 := T8.o1.c 1 (.int .i64 0) rfl
            have o2 := T8.o1.c 2 (.int .i64 0) rfl
            have of0 := T8.o1.f 0 (show 0 < 3 by decide)
            have of1 := T8.o1.f 1 (show 1 < 3 by decide)
            have of2 := T8.o1.f 2 (show 2 < 3 by decide)
            have p0 := T8.o2.c 0 (.bool false) rfl
            have p1 := T8.o2.c 1 (.int .i64 0) rfl
            have p2 := T8.o2.c 2 (.int .i64 0) rfl
            have p3 := T8.o2.c 3 (.int .i64 0) rfl
            have p4 := T8.o2.c 4 (.int .i64 0) rfl
            have pf0 := T8.o2.f 0 (show 0 < 5 by decide)
            have pf1 := T8.o2.f 1 (show 1 < 5 by decide)
            have pf2 := T8.o2.f 2 (show 2 < 5 by decide)
            have pf3 := T8.o2.f 3 (show 3 < 5 by decide)
            have pf4 := T8.o2.f 4 (show 4 < 5 by decide)
            have x0 := T8.x.c 0 (.bool true) rfl
            have x1 := T8.x.c 1 (.int .i64 M) rfl
            have x2 := T8.x.c 2 (.int .i64 i0) rfl
            have x3 := T8.x.c 3 (.int .i64 i1) rfl
            have x4 := T8.x.c 4 (.int .i64 i2) rfl
            have xf0 := T8.x.f 0 (show 0 < 5 by decide)
            have xf1 := T8.x.f 1 (show 1 < 5 by decide)
            have xf2 := T8.x.f 2 (show 2 < 5 by decide)
            have xf3 := T8.x.f 3 (show 3 < 5 by decide)
            have xf4 := T8.x.f 4 (show 4 < 5 by decide)
            have T9 := T8.read m6
            obtain ⟨e1, e2, e3⟩ := T9.done (.string (str m6.bits)) (.int .i64 m6.all) (.int .i64 m6.fail) (.bool false) (.int .i64 0) (.int .i64 0) (.int .i64 0) (.int .i64 0)
            have y0 := e1.c 0 (.string (str m6.bits)) rfl
            have y1 := e1.c 1 (.int .i64 m6.all) rfl
            have y2 := e1.c 2 (.int .i64 m6.fail) rfl
            have q0 := e2.c 0 (.bool false) rfl
            have q1 := e2.c 1 (.int .i64 0) rfl
            have q2 := e2.c 2 (.int .i64 0) rfl
            have q3 := e2.c 3 (.int .i64 0) rfl
            have q4 := e2.c 4 (.int .i64 0) rfl
            have HEN := Lib.hid e3
            clear e1 e2 e3
            clear T7 T8 T9 hb7 hb8 HGD HT3 HGI
            generalize str m6.bits = gs at *
            generalize m6.all = ga at *
            generalize m6.fail = gf at *
            go_wp2
            refine bodyPost_ret (v := .tuple #[.agg #[.string (gs), .int .i64 ga, .int .i64 gf], .agg #[.bool false, .int .i64 0, .int .i64 0, .int .i64 0, .int .i64 0]]) (by simp [results, Try.results16, go_sem, y0, y1, y2, q0, q1, q2, q3, q4]) rfl ?_
            exact ⟨by rw [← HM.out.1, ← HM.out.2]; rfl, HEN.out⟩
        · have tf : (m5.fail == 0) = false := by rw [beq_eq_false_iff_ne]; exact hf
          have tn : (m5.fail != 0) = true := bne_iff_ne.2 hf
          have HM : Hid ((ans.1).val = .agg #[.string (str m5.bits), .int .i64 m5.all, .int .i64 m5.fail] ∧ wvV ans.2 = .agg #[.bool false, .int .i64 0, .int .i64 0, .int .i64 0, .int .i64 0]) := by show _ ∧ _; rw [HAN.out]; unfold weaveEnd; rw [if_neg hf]; exact ⟨rfl, rfl⟩
          clear HAN hf HGV HG
          unfold wvV at HM
          obtain ⟨e1, e2, e3⟩ := hT3.done (.string (str m5.bits)) (.int .i64 m5.all) (.int .i64 m5.fail) (.bool false) (.int .i64 0) (.int .i64 0) (.int .i64 0) (.int .i64 0)
          have y0 := e1.c 0 (.string (str m5.bits)) rfl
          have y1 := e1.c 1 (.int .i64 m5.all) rfl
          have y2 := e1.c 2 (.int .i64 m5.fail) rfl
          have q0 := e2.c 0 (.bool false) rfl
          have q1 := e2.c 1 (.int .i64 0) rfl
          have q2 := e2.c 2 (.int .i64 0) rfl
          have q3 := e2.c 3 (.int .i64 0) rfl
          have q4 := e2.c 4 (.int .i64 0) rfl
          have HEN := Lib.hid e3
          clear e1 e2 e3
          clear hT3
          generalize str m5.bits = gs at *
          generalize m5.all = ga at *
          generalize m5.fail = gf at *
          go_wp2
          refine bodyPost_ret (v := .tuple #[.agg #[.string (gs), .int .i64 ga, .int .i64 gf], .agg #[.bool false, .int .i64 0, .int .i64 0, .int .i64 0, .int .i64 0]]) (by simp [results, Try.results16, go_sem, y0, y1, y2, q0, q1, q2, q3, q4]) rfl ?_
          exact ⟨by rw [← HM.out.1, ← HM.out.2]; rfl, HEN.out⟩
end Go.Proofs.Ytbbcemgcanclnaa
