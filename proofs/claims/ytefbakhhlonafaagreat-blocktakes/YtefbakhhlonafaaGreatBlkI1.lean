import Derived.Test.YtefbakhhlonafaaGreatBlkH6

section
namespace Go.Proofs.YtefbakhhlonafaaGreat
open Go.RowKit Go.Proofs Go.Proofs.PipeM Go.Proofs.PipeA Go.Proofs.BlkM
set_option maxRecDepth 100000

set_option maxHeartbeats 6400000 in
theorem rTake_3 (m : MR) (k mm : Nat) (w : World) (hb : m.bits.length ≤ 1000000000) (hn1 : 1 ≤ k) (hn : k ≤ 1024) (hm1 : 8 ≤ mm) (hm2 : mm ≤ 26) (hk : (m.take 2).2 = 3) :
    Calls Tryz.prog 20 #[m.val, .int .i64 k, .int .i64 mm] w (BTakeIs (m.block k mm) w) := by
  have hok := samp_ok hn1 hn hm1 hm2
  have HTK := fun W => Lib.hid (mTake m 2 W hb)
  have hlen1 := Nat.le_trans (MR.take_len m 2) hb
  have HD := fun W => Lib.hid (rDepth mm W)
  have hdep : depthB mm = true := decide_eq_true (by omega)
  rw [hdep] at HD
  obtain ⟨ma, hma⟩ : ∃ ma, ma = (m.take 2).1 := ⟨_, rfl⟩
  rw [← hma] at hlen1
  have hkb : m.kindB k mm = ((MR.ints mm k ma).1, ⟨3, 0, 0, [], 0, 0, 0, [], (MR.ints mm k ma).2⟩) := by unfold MR.kindB; dsimp only; rw [hk, ← hma]; rfl
  have HIN := fun W => Lib.hid (rInts10 ma k mm W hlen1 hn (by omega) (by omega))
  have hll := Nat.le_trans (MR.ints_len mm k ma) hn
  generalize MR.ints mm k ma = mi at *
  obtain ⟨m1, l⟩ := mi
  dsimp only at *
  have HE1 := Lib.hid (fun hf : m1.fail ≠ 0 => MR.block_fail hok hkb hf)
  have HE2 := Lib.hid (fun (hf : m1.fail = 0) (hc : codeB ⟨3, 0, 0, [], 0, 0, 0, [], l⟩ k mm ≠ 0) => MR.block_bad hok hkb hf hc)
  have HE3 := Lib.hid (fun (hf : m1.fail = 0) (hc : codeB ⟨3, 0, 0, [], 0, 0, 0, [], l⟩ k mm = 0) => MR.block_ok hok hkb hf hc)
  rw [hk, ← hma] at HTK
  obtain ⟨W0, hW0⟩ : ∃ W0, W0 = (((w.alloc (.cells #[.string (str m.bits), .int .i64 m.all, .int .i64 m.fail] 50)).alloc (.cells #[.string ⟨#[]⟩, .int .i64 0, .int .i64 0] 50)).alloc (.cells #[.int .i64 0, .int .i64 0, .int .i64 0, .slice none 0 0, .int .i64 0, .int .i64 0, .int .i64 0, .slice none 0 0, .slice none 0 0] 24)).alloc (.cells #[.int .i64 0, .int .i64 0, .int .i64 0, .slice none 0 0, .int .i64 0, .int .i64 0, .int .i64 0, .slice none 0 0, .slice none 0 0] 24) := ⟨_, rfl⟩
  obtain ⟨hst, ho0, hb0⟩ := takeat_start w m rfl rfl hW0
  have HST := Lib.hid hst
  have HO0 := Lib.hid ho0
  have HB0 := Lib.hid hb0
  have HW0 := Lib.hid hW0
  have HV : Hid (m.val = .agg #[.string (str m.bits), .int .i64 m.all, .int .i64 m.fail]) := Lib.hid rfl
  rw [HV.out] at HTK ⊢
  generalize m.block k mm = ans at *
  unfold MR.val at HIN
  clear hst ho0 hb0 hW0 hkb hk hdep hok hma
  go_enter Tryz.func20, Tryz.ntmps20
  go_wp2_with fail
  refine (HD _).out.mono ?_
  rintro e w1 ⟨rfl, rfl⟩
  go_wp2_with fail
  rw [← HW0.out]
  refine (HTK _).out.mono ?_
  rintro e w1 ⟨rfl, hb1⟩
  have hTa := HST.out.call hb1
  have hTb := (hTa.read ma).store (b' := ⟨3, 0, 0, [], 0, 0, 0, [], []⟩) (ia' := none) (ra' := none) (da' := none) (ic' := 0) (rc' := 0) (dc' := 0) 0 (.int .i64 3) rfl (by decide) ⟨(blkIn_none _).i, (blkIn_none _).r, (blkIn_none _).d, Nat.zero_le _, Nat.zero_le _, Nat.zero_le _, Nat.le_refl _, Nat.le_refl _, Nat.le_refl _⟩ (fresh_none _) (fresh_none _) (fresh_none _)
  obtain ⟨_, c0, c1, c2, f0, f1, f2⟩ := hTa.r
  have k0 := hTa.c 0 (.int .i64 0) rfl
  have p0 := hTa.f 0 (by decide)
  obtain ⟨_, d0, d1, d2, _, _, _⟩ := hTb.r
  have j0 := hTb.c 0 (.int .i64 3) rfl
  have HTB := Lib.hid hTb
  unfold MR.val
  clear hTa hTb hb1
  go_wp2_with fail
  refine (HIN _).out.mono ?_
  rintro e w2 ⟨la, lc, rfl, hli, hlc, hb2, hlf⟩
  have hT1 := HTB.out.call hb2
  have hrd := hT1.r.set3 (.string (str m1.bits)) (.int .i64 m1.all) (.int .i64 m1.fail)
  have hlf0 : FreshOf W0 la := fun g off e => Nat.le_trans HTB.out.kp.size (hlf g off e)
  have hT2 := (hT1.read m1).store (b' := ⟨3, 0, 0, [], 0, 0, 0, [], l⟩) (ia' := none) (ra' := none) (da' := la) (ic' := 0) (rc' := 0) (dc' := lc) 8 (.slice la l.length lc) rfl (by decide) ⟨(blkIn_none _).i, (blkIn_none _).r, hli.keeps hrd.2 (fun g off e hm => by have := hlf0 g off e; have := HTB.out.lr; simp at hm; omega), Nat.zero_le _, Nat.zero_le _, Nat.le_trans hll (by omega), Nat.le_refl _, Nat.le_refl _, hlc⟩ (fresh_none _) (fresh_none _) hlf0
  clear hrd hli hlc hlf hlf0
  clear c0 c1 c2 f0 f1 f2 k0 p0 d0 d1 d2 j0
  obtain ⟨_, c0, c1, c2, f0, f1, f2⟩ := hT1.r
  have k0 := hT1.c 8 (.slice none 0 0) rfl
  have p0 := hT1.f 8 (by decide)
  obtain ⟨_, d0, d1, d2, _, _, _⟩ := hT2.r
  have j0 := hT2.c 0 (.int .i64 3) rfl
  have hO := HO0.out.keeps hT2.kp (by simp; try omega) (by simp; try omega)
  have hBV := HB0.out.trans (hT2.kp.below HB0.out.size (by intro x hx; simp at hx; omega))
  have hb1 := hb2
  clear hb2
  unfold MR.val
  by_cases hf : m1.fail = 0
  · have t7 : (m1.fail != 0) = false := by rw [hf]; rfl
    have j1 := hT2.c 1 (.int .i64 0) rfl
    have j2 := hT2.c 2 (.int .i64 0) rfl
    have j3 := hT2.c 3 (.slice none 0 0) rfl
    have j4 := hT2.c 4 (.int .i64 0) rfl
    have j5 := hT2.c 5 (.int .i64 0) rfl
    have j6 := hT2.c 6 (.int .i64 0) rfl
    have j7 := hT2.c 7 (.slice none 0 0) rfl
    have j8 := hT2.c 8 (.slice la l.length lc) rfl
    have HSM := Lib.hid (rSamples10 ⟨3, 0, 0, [], 0, 0, 0, [], l⟩ none none la 0 0 lc k mm _ hT2.bi)
    rw [Int.toNat_natCast] at HSM
    have HTT := Lib.hid hT2
    by_cases hc : codeB ⟨3, 0, 0, [], 0, 0, 0, [], l⟩ k mm = 0
    rotate_left
    · have HAN := Lib.hid (HE2.out hf hc)
      have u1 : (codeB ⟨3, 0, 0, [], 0, 0, 0, [], l⟩ k mm != 0) = true := bne_iff_ne.2 hc
      have HNC := Lib.hid hc
      have HG := fun W => Lib.hid (mGive m1 (codeB ⟨3, 0, 0, [], 0, 0, 0, [], l⟩ k mm) W)
      obtain ⟨gr, hgr⟩ : ∃ gr, gr = m1.give (codeB ⟨3, 0, 0, [], 0, 0, 0, [], l⟩ k mm) := ⟨_, rfl⟩
      rw [← hgr] at HG HAN
      generalize codeB ⟨3, 0, 0, [], 0, 0, 0, [], l⟩ k mm = cb at *
      unfold MR.val at HG
      clear HE1 HE2 HE3 hc hf hgr
      go_wp2_with fail
      refine HSM.out.mono ?_
      rintro e w2 h2
      obtain ⟨rfl, hb2⟩ := h2.elim (fun h => h.2) (fun h => absurd h.1 HNC.out)
      have hT3 := HTT.out.call hb2
      obtain ⟨_, d0, d1, d2, _, _, _⟩ := hT3.r
      clear h2 hb2
      go_wp2_with fail
      refine (HG _).out.mono ?_
      rintro e w3 ⟨rfl, hb3⟩
      have hT4 := hT3.call hb3
      have hO4 := HO0.out.keeps hT4.kp (by simp; try omega) (by simp; try omega)
      have hBV4 := HB0.out.trans (hT4.kp.below HB0.out.size (by intro x hx; simp at hx; omega))
      have hk1 := hO4.r.set3 (.string (str gr.bits)) (.int .i64 gr.all) (.int .i64 gr.fail)
      have hob := hO4.b.keeps hk1.2 (by simp)
      have hk2 := hob.set9 (.int .i64 0) (.int .i64 0) (.int .i64 0) (.slice none 0 0) (.int .i64 0) (.int .i64 0) (.int .i64 0) (.slice none 0 0) (.slice none 0 0)
      have hr2 := hk1.1.keeps hk2.2 (by simp)
      have hbf := hBV4.trans ((hk1.2.below hBV4.size (by intro x hx; simp at hx; omega)).trans (hk2.2.below (Nat.le_trans hBV4.size hk1.2.size) (by intro x hx; simp at hx; omega)))
      obtain ⟨_, e0, e1, e2, g0, g1, g2⟩ := hO4.r
      obtain ⟨_, y0, y1, y2, _, _, _⟩ := hr2
      have x0 := hO4.b.c 0 _ rfl
      have x1 := hO4.b.c 1 _ rfl
      have x2 := hO4.b.c 2 _ rfl
      have x3 := hO4.b.c 3 _ rfl
      have x4 := hO4.b.c 4 _ rfl
      have x5 := hO4.b.c 5 _ rfl
      have x6 := hO4.b.c 6 _ rfl
      have x7 := hO4.b.c 7 _ rfl
      have x8 := hO4.b.c 8 _ rfl
      have z0 := hO4.b.f 0 (by decide)
      have z1 := hO4.b.f 1 (by decide)
      have z2 := hO4.b.f 2 (by decide)
      have z3 := hO4.b.f 3 (by decide)
      have z4 := hO4.b.f 4 (by decide)
      have z5 := hO4.b.f 5 (by decide)
      have z6 := hO4.b.f 6 (by decide)
      have z7 := hO4.b.f 7 (by decide)
      have z8 := hO4.b.f 8 (by decide)
      have q0 := hk2.1.c 0 _ rfl
      have q1 := hk2.1.c 1 _ rfl
      have q2 := hk2.1.c 2 _ rfl
      have q3 := hk2.1.c 3 _ rfl
      have q4 := hk2.1.c 4 _ rfl
      have q5 := hk2.1.c 5 _ rfl
      have q6 := hk2.1.c 6 _ rfl
      have q7 := hk2.1.c 7 _ rfl
      have q8 := hk2.1.c 8 _ rfl
      have HF : Hid (BTakeIs (gr, Blk.none, []) w (.returned (.tuple #[gr.val, .agg #[.int .i64 0, .int .i64 0, .int .i64 0, .slice none 0 0, .int .i64 0, .int .i64 0, .int .i64 0, .slice none 0 0, .slice none 0 0], .slice none 0 0])) _) := Lib.hid (BTakeIs.none hbf)
      unfold set9 at y0 y1 y2 q0 q1 q2 q3 q4 q5 q6 q7 q8 HF
      unfold MR.val at HF
      clear hT1 hT2 hO hBV hb1 hT3 hT4 hO4 hBV4 hb3
      clear hk1 hob hk2 hbf
      generalize str gr.bits = gs at *
      generalize gr.all = gal at *
      generalize gr.fail = gf at *
      go_wp2_with fail
      refine bodyPost_ret (v := .tuple #[.agg #[.string gs, .int .i64 gal, .int .i64 gf], .agg #[.int .i64 0, .int .i64 0, .int .i64 0, .slice none 0 0, .int .i64 0, .int .i64 0, .int .i64 0, .slice none 0 0, .slice none 0 0], .slice none 0 0]) ?_ rfl ?_
      · simp [results, Tryz.results20, go_sem, y0, y1, y2, q0, q1, q2, q3, q4, q5, q6, q7, q8]
      · rw [HAN.out]; exact HF.out
    · have HAN := Lib.hid (HE3.out hf hc)
      rw [hc] at HSM
      clear HE1 HE2 HE3 hf
      go_wp2_with fail
      refine HSM.out.mono ?_
      rintro e w2 h2
      obtain ⟨oa, oc, rfl, hoi, hoc, hb2, hof⟩ := h2.elim (fun h => absurd rfl h.1) (fun h => h.2)
      have hT3 := HTT.out.call hb2
      obtain ⟨_, d0, d1, d2, _, _, _⟩ := hT3.r
      have i0 := hT3.c 0 (.int .i64 3) rfl
      have i1 := hT3.c 1 (.int .i64 0) rfl
      have i2 := hT3.c 2 (.int .i64 0) rfl
      have i3 := hT3.c 3 (.slice none 0 0) rfl
      have i4 := hT3.c 4 (.int .i64 0) rfl
      have i5 := hT3.c 5 (.int .i64 0) rfl
      have i6 := hT3.c 6 (.int .i64 0) rfl
      have i7 := hT3.c 7 (.slice none 0 0) rfl
      have i8 := hT3.c 8 (.slice la l.length lc) rfl
      have hO4 := HO0.out.keeps hT3.kp (by simp; try omega) (by simp; try omega)
      have hBV4 := HB0.out.trans (hT3.kp.below HB0.out.size (by intro x hx; simp at hx; omega))
      have hk1 := hO4.r.set3 (.string (str m1.bits)) (.int .i64 m1.all) (.int .i64 m1.fail)
      have hob := hO4.b.keeps hk1.2 (by simp)
      have hk2 := hob.set9 (.int .i64 3) (.int .i64 0) (.int .i64 0) (.slice none 0 0) (.int .i64 0) (.int .i64 0) (.int .i64 0) (.slice none 0 0) (.slice la l.length lc)
      have hr2 := hk1.1.keeps hk2.2 (by simp)
      have hbf := hBV4.trans ((hk1.2.below hBV4.size (by intro x hx; simp at hx; omega)).trans (hk2.2.below (Nat.le_trans hBV4.size hk1.2.size) (by intro x hx; simp at hx; omega)))
      obtain ⟨_, e0, e1, e2, g0, g1, g2⟩ := hO4.r
      obtain ⟨_, y0, y1, y2, _, _, _⟩ := hr2
      have x0 := hO4.b.c 0 _ rfl
      have x1 := hO4.b.c 1 _ rfl
      have x2 := hO4.b.c 2 _ rfl
      have x3 := hO4.b.c 3 _ rfl
      have x4 := hO4.b.c 4 _ rfl
      have x5 := hO4.b.c 5 _ rfl
      have x6 := hO4.b.c 6 _ rfl
      have x7 := hO4.b.c 7 _ rfl
      have x8 := hO4.b.c 8 _ rfl
      have z0 := hO4.b.f 0 (by decide)
      have z1 := hO4.b.f 1 (by decide)
      have z2 := hO4.b.f 2 (by decide)
      have z3 := hO4.b.f 3 (by decide)
      have z4 := hO4.b.f 4 (by decide)
      have z5 := hO4.b.f 5 (by decide)
      have z6 := hO4.b.f 6 (by decide)
      have z7 := hO4.b.f 7 (by decide)
      have z8 := hO4.b.f 8 (by decide)
      have q0 := hk2.1.c 0 _ rfl
      have q1 := hk2.1.c 1 _ rfl
      have q2 := hk2.1.c 2 _ rfl
      have q3 := hk2.1.c 3 _ rfl
      have q4 := hk2.1.c 4 _ rfl
      have q5 := hk2.1.c 5 _ rfl
      have q6 := hk2.1.c 6 _ rfl
      have q7 := hk2.1.c 7 _ rfl
      have q8 := hk2.1.c 8 _ rfl
      have hkk := ((hk1.2.mono (bs' := [w.heap.size + 1, w.heap.size + 1 + 1]) (by simp)).trans (hk2.2.mono (by simp))).trans (keeps_drew_b _ _)
      have hor := HO0.out.r.lt
      have hob0 := HO0.out.b.lt
      have hszV := hT2.kp.size
      have HF : Hid (BTakeIs (m1, ⟨3, 0, 0, [], 0, 0, 0, [], l⟩, outB ⟨3, 0, 0, [], 0, 0, 0, [], l⟩ k) w (.returned (.tuple #[m1.val, .agg #[.int .i64 3, .int .i64 0, .int .i64 0, .slice none 0 0, .int .i64 0, .int .i64 0, .int .i64 0, .slice none 0 0, .slice la l.length lc], .slice oa (outB ⟨3, 0, 0, [], 0, 0, 0, [], l⟩ k).length oc])) _) := Lib.hid ⟨_, _, _, oa, _, _, _, oc, rfl, hT3.bi.keeps hkk hT3.fi hT3.fr hT3.fd (by intro x hx; simp at hx; omega), hoi.keeps hkk (fun g off e hm => by have := hof g off e; simp at hm; simp only [World.size_setCell] at this hszV; omega), hoc, hBV4.trans (hkk.below hBV4.size (by intro x hx; simp at hx; omega))⟩
      unfold set9 at y0 y1 y2 q0 q1 q2 q3 q4 q5 q6 q7 q8 HF
      unfold MR.val at HF
      clear hT1 hT2 hO hBV hb1 hT3 hO4 hBV4 h2 hb2 hof hoi hoc hk1 hob hk2 hbf hkk hszV hc HSM
      generalize (outB ⟨3, 0, 0, [], 0, 0, 0, [], l⟩ k).length = ol at *
      generalize str m1.bits = gs at *
      generalize m1.all = gal at *
      generalize m1.fail = gf at *
      go_wp2_with fail
      go_region
      go_wp2
      refine bodyPost_ret (v := .tuple #[.agg #[.string gs, .int .i64 gal, .int .i64 gf], .agg #[.int .i64 3, .int .i64 0, .int .i64 0, .slice none 0 0, .int .i64 0, .int .i64 0, .int .i64 0, .slice none 0 0, .slice la l.length lc], .slice oa ol oc]) ?_ rfl ?_
      · simp [results, Tryz.results20, go_sem, y0, y1, y2, q0, q1, q2, q3, q4, q5, q6, q7, q8]
      · rw [HAN.out]; exact HF.out
  · have t7 : (m1.fail != 0) = true := bne_iff_ne.2 hf
    have HAN := Lib.hid (HE1.out hf)
    clear HE1 HE2 HE3
    have hk1 := hO.r.set3 (.string (str m1.bits)) (.int .i64 m1.all) (.int .i64 m1.fail)
    have hob := hO.b.keeps hk1.2 (by simp)
    have hk2 := hob.set9 (.int .i64 0) (.int .i64 0) (.int .i64 0) (.slice none 0 0) (.int .i64 0) (.int .i64 0) (.int .i64 0) (.slice none 0 0) (.slice none 0 0)
    have hr2 := hk1.1.keeps hk2.2 (by simp)
    have hbf := hBV.trans ((hk1.2.below hBV.size (by intro x hx; simp at hx; omega)).trans (hk2.2.below (Nat.le_trans hBV.size hk1.2.size) (by intro x hx; simp at hx; omega)))
    obtain ⟨_, e0, e1, e2, g0, g1, g2⟩ := hO.r
    obtain ⟨_, y0, y1, y2, _, _, _⟩ := hr2
    have x0 := hO.b.c 0 _ rfl
    have x1 := hO.b.c 1 _ rfl
    have x2 := hO.b.c 2 _ rfl
    have x3 := hO.b.c 3 _ rfl
    have x4 := hO.b.c 4 _ rfl
    have x5 := hO.b.c 5 _ rfl
    have x6 := hO.b.c 6 _ rfl
    have x7 := hO.b.c 7 _ rfl
    have x8 := hO.b.c 8 _ rfl
    have z0 := hO.b.f 0 (by decide)
    have z1 := hO.b.f 1 (by decide)
    have z2 := hO.b.f 2 (by decide)
    have z3 := hO.b.f 3 (by decide)
    have z4 := hO.b.f 4 (by decide)
    have z5 := hO.b.f 5 (by decide)
    have z6 := hO.b.f 6 (by decide)
    have z7 := hO.b.f 7 (by decide)
    have z8 := hO.b.f 8 (by decide)
    have q0 := hk2.1.c 0 _ rfl
    have q1 := hk2.1.c 1 _ rfl
    have q2 := hk2.1.c 2 _ rfl
    have q3 := hk2.1.c 3 _ rfl
    have q4 := hk2.1.c 4 _ rfl
    have q5 := hk2.1.c 5 _ rfl
    have q6 := hk2.1.c 6 _ rfl
    have q7 := hk2.1.c 7 _ rfl
    have q8 := hk2.1.c 8 _ rfl
    have HF : Hid (BTakeIs (m1, Blk.none, []) w (.returned (.tuple #[m1.val, .agg #[.int .i64 0, .int .i64 0, .int .i64 0, .slice none 0 0, .int .i64 0, .int .i64 0, .int .i64 0, .slice none 0 0, .slice none 0 0], .slice none 0 0])) _) := Lib.hid (BTakeIs.none hbf)
    unfold set9 at y0 y1 y2 q0 q1 q2 q3 q4 q5 q6 q7 q8 HF
    unfold MR.val at HF
    clear hT1 hT2 hO hBV hf hb1
    clear hk1 hob hk2 hbf
    generalize str m1.bits = gs at *
    generalize m1.all = gal at *
    generalize m1.fail = gf at *
    go_wp2_with fail
    refine bodyPost_ret (v := .tuple #[.agg #[.string gs, .int .i64 gal, .int .i64 gf], .agg #[.int .i64 0, .int .i64 0, .int .i64 0, .slice none 0 0, .int .i64 0, .int .i64 0, .int .i64 0, .slice none 0 0, .slice none 0 0], .slice none 0 0]) ?_ rfl ?_
    · simp [results, Tryz.results20, go_sem, y0, y1, y2, q0, q1, q2, q3, q4, q5, q6, q7, q8]
    · rw [HAN.out]; exact HF.out

end Go.Proofs.YtefbakhhlonafaaGreat
end

section
namespace Go.Proofs.YtefbakhhlonafaaGreat
open Go.RowKit Go.Proofs Go.Proofs.PipeM Go.Proofs.PipeA Go.Proofs.BlkM
set_option maxRecDepth 100000

theorem MR.give_len (m : MR) (e : Int) : (m.give e).bits.length ≤ m.bits.length := by unfold MR.give; split <;> simp
theorem MR.ints_bits (b : Nat) : ∀ n (m : MR), (MR.ints b n m).1.bits.length ≤ m.bits.length
  | 0, m => by simp [MR.ints]
  | n + 1, m => by
    by_cases h : m.fail = 0
    · rw [MR.ints_succ h]; exact Nat.le_trans (MR.ints_bits b n (m.take b).1) (MR.take_len m b)
    · rw [MR.ints_fail h]; exact Nat.le_refl _
theorem MR.many_lenN (k : Int) : ∀ n (m : MR), (MR.many k n m).2.length ≤ n
  | 0, m => by simp [MR.many]
  | n + 1, m => by
    unfold MR.many
    split
    · simp
    · simpa using MR.many_lenN k n (m.rice k).1
theorem MR.body_lenN (size : Nat) : ∀ n (m : MR), (MR.body size n m).2.1.length ≤ n * size ∧ (MR.body size n m).2.2.length ≤ n
  | 0, m => by simp [MR.body]
  | n + 1, m => by
    unfold MR.body
    split
    · simp
    · have h := MR.body_lenN size n (m.partM size).1
      have h2 : (m.partM size).2.length ≤ size := MR.many_lenN _ _ _
      refine ⟨?_, by simpa using h.2⟩
      rw [List.length_append, Nat.add_mul]
      omega
theorem MR.slide_lenN (m : MR) (k : Nat) (hk : k ≤ 1024) : (m.slide k).2.1.length ≤ 1024 ∧ (m.slide k).2.2.2.length ≤ 8 := by
  have hp := (MR.take_val m).1
  unfold MR.slide
  split
  · simp
  · rw [Int.toNat_natCast]
    unfold MR.slideB
    generalize (m.take 2).2 = p at hp
    split
    · simp
    · obtain ⟨h1, h2⟩ := MR.body_lenN (k / 2 ^ p) (2 ^ p) ((m.take 2).1.form k p)
      have h3 : 2 ^ p ≤ 2 ^ 3 := Nat.pow_le_pow_right (by decide) (by omega)
      have h4 := Nat.mul_div_le k (2 ^ p)
      exact ⟨by show (MR.body (k / 2 ^ p) (2 ^ p) ((m.take 2).1.form k p)).2.1.length ≤ 1024; omega, by show (MR.body (k / 2 ^ p) (2 ^ p) ((m.take 2).1.form k p)).2.2.length ≤ 8; omega⟩

/-- The steps of a Normal. -/
theorem MR.kind2 {m ma r1 r2 r3 r4 m1 : MR} {s o : Nat} {x l ks : List Int} {k mm p la ga : Nat} {r8 : MR} (hk : (m.take 2).2 = 2) (hma : ma = (m.take 2).1) (e1 : ma.take 5 = (r1, s)) (e2 : r1.take 5 = (r2, o)) (e3 : r3 = if 16 < o then r2.give 2 else r2) (e4 : MR.ints 7 o r3 = (r4, x)) (e5 : r4.term = (r8, la, ga)) (e7 : r8.slide k = (m1, l, p, ks)) :
    m.kindB k mm = (m1, ⟨2, 0, s, x, la, ga, p, ks, l⟩) := by
  unfold MR.kindB
  dsimp only
  rw [hk, if_neg (by decide), if_neg (by decide), if_pos rfl, ← hma]
  unfold MR.normB MR.head
  dsimp only
  rw [e1]
  dsimp only
  rw [e2]
  dsimp only
  rw [← e3, e4]
  dsimp only
  rw [e5]
  dsimp only
  rw [e7]
theorem MR.term_no {r4 r5 : MR} {f : Nat} (e : r4.take 1 = (r5, f)) (h : f ≠ 1) : r4.term = (r5, 0, 0) := by
  unfold MR.term
  dsimp only
  rw [e]
  dsimp only
  rw [if_neg h]
theorem MR.term_yes {r4 r5 r6 r7 : MR} {la ga : Nat} (e : r4.take 1 = (r5, 1)) (e6 : r5.take 8 = (r6, la)) (e7 : r6.take 4 = (r7, ga)) : r4.term = (if la = 0 ∨ ga = 0 then r7.give 2 else r7, la, ga) := by
  unfold MR.term
  dsimp only
  rw [e]
  dsimp only
  rw [e6]
  dsimp only
  rw [e7, if_pos rfl]
end Go.Proofs.YtefbakhhlonafaaGreat
end
