import Derived.Test.YtefbakhhlonafaaGreatBlkH6
import Derived.Test.YtefbakhhlonafaaGreatBlkI1

namespace Go.Proofs.YtefbakhhlonafaaGreat
open Go.RowKit Go.Proofs Go.Proofs.PipeM Go.Proofs.PipeA Go.Proofs.BlkM
set_option maxRecDepth 100000

set_option maxHeartbeats 6400000 in
theorem rTake_2n (m : MR) (k mm : Nat) (w : World) (hb : m.bits.length ≤ 1000000000) (hn1 : 1 ≤ k) (hn : k ≤ 1024) (hm1 : 8 ≤ mm) (hm2 : mm ≤ 26) (hk : (m.take 2).2 = 2) (h16 : ¬ 16 < (((m.take 2).1.take 5).1.take 5).2) (hf1 : (((MR.ints 7 ((((m.take 2).1.take 5).1.take 5).2) (if 16 < (((m.take 2).1.take 5).1.take 5).2 then (((m.take 2).1.take 5).1.take 5).1.give 2 else (((m.take 2).1.take 5).1.take 5).1)).1).take 1).2 ≠ 1) :
    Calls Tryz.prog 20 #[m.val, .int .i64 k, .int .i64 mm] w (BTakeIs (m.block k mm) w) := by
  have hok := samp_ok hn1 hn hm1 hm2
  have HTK := fun W => Lib.hid (mTake m 2 W hb)
  have hlen1 := Nat.le_trans (MR.take_len m 2) hb
  have HD := fun W => Lib.hid (rDepth mm W)
  have hdep : depthB mm = true := decide_eq_true (by omega)
  rw [hdep] at HD
  obtain ⟨ma, hma⟩ : ∃ ma, ma = (m.take 2).1 := ⟨_, rfl⟩
  rw [← hma] at hlen1 h16 hf1
  have HI1 := fun W => Lib.hid (mTake ma 5 W hlen1)
  have hl1 := Nat.le_trans (MR.take_len ma 5) hlen1
  have hs := (MR.take_val ma).2
  generalize e1 : ma.take 5 = q1 at *
  obtain ⟨r1, s⟩ := q1
  dsimp only at HI1 hl1 hs h16 hf1
  have HI2 := fun W => Lib.hid (mTake r1 5 W hl1)
  have hl2 := Nat.le_trans (MR.take_len r1 5) hl1
  have ho := (MR.take_val r1).2
  generalize e2 : r1.take 5 = q2 at *
  obtain ⟨r2, o⟩ := q2
  dsimp only at HI2 hl2 ho h16 hf1
  rw [if_neg h16] at hf1
  have hl3 := hl2
  have e3 : r2 = if 16 < o then r2.give 2 else r2 := by rw [if_neg h16]
  have HI3 := fun W => Lib.hid (rInts10 r2 o 7 W hl3 (by omega) (by decide) (by decide))
  have hl4 := Nat.le_trans (MR.ints_bits 7 o r2) hl3
  have hxl := MR.ints_len 7 o r2
  generalize e4 : MR.ints 7 o r2 = q3 at *
  obtain ⟨r4, x⟩ := q3
  dsimp only at HI3 hl4 hxl hf1
  have HI4 := fun W => Lib.hid (mTake r4 1 W hl4)
  have hl5 := Nat.le_trans (MR.take_len r4 1) hl4
  generalize e5 : r4.take 1 = q4 at *
  obtain ⟨r5, f⟩ := q4
  dsimp only at HI4 hl5 hf1
  have hl8 := hl5
  have et := MR.term_no e5 hf1
  have tf : ((f : Int) == 1) = false := beq_eq_false_iff_ne.2 (by omega)
  have HI7 := fun W => Lib.hid (mSlide r5 k W hl8)
  have hsl := MR.slide_lenN r5 k hn
  generalize e7 : MR.slide r5 k = q7 at *
  obtain ⟨m1, l, p, ks⟩ := q7
  dsimp only at HI7 hsl
  have hkb : m.kindB k mm = (m1, ⟨2, 0, s, x, 0, 0, p, ks, l⟩) := MR.kind2 hk hma e1 e2 e3 e4 et e7
  have HE1 := Lib.hid (fun hf : m1.fail ≠ 0 => MR.block_fail hok hkb hf)
  have HE2 := Lib.hid (fun (hf : m1.fail = 0) (hc : codeB ⟨2, 0, s, x, 0, 0, p, ks, l⟩ k mm ≠ 0) => MR.block_bad hok hkb hf hc)
  have HE3 := Lib.hid (fun (hf : m1.fail = 0) (hc : codeB ⟨2, 0, s, x, 0, 0, p, ks, l⟩ k mm = 0) => MR.block_ok hok hkb hf hc)
  rw [hk, ← hma] at HTK
  obtain ⟨W0, hW0⟩ : ∃ W0, W0 = (((w.alloc (.cells #[.string (str m.bits), .int .i64 m.all, .int .i64 m.fail] 50)).alloc (.cells #[.string ⟨#[]⟩, .int .i64 0, .int .i64 0] 50)).alloc (.cells #[.int .i64 0, .int .i64 0, .int .i64 0, .slice none 0 0, .int .i64 0, .int .i64 0, .int .i64 0, .slice none 0 0, .slice none 0 0] 24)).alloc (.cells #[.int .i64 0, .int .i64 0, .int .i64 0, .slice none 0 0, .int .i64 0, .int .i64 0, .int .i64 0, .slice none 0 0, .slice none 0 0] 24) := ⟨_, rfl⟩
  obtain ⟨hst, ho0, hb0⟩ := takeat_start w m rfl rfl hW0
  have HT0 := Lib.hid hst
  have HO0 := Lib.hid ho0
  have HB0 := Lib.hid hb0
  have HW0 := Lib.hid hW0
  have HV : Hid (m.val = .agg #[.string (str m.bits), .int .i64 m.all, .int .i64 m.fail]) := Lib.hid rfl
  rw [HV.out] at HTK ⊢
  generalize m.block k mm = ans at *
  have t16 : decide ((16 : Int) < (o : Int)) = false := decide_eq_false (by omega)
  unfold MR.val at HI1 HI2 HI3 HI4 HI7
  clear hst ho0 hb0 hW0 hkb hk hdep hok hma e1 e2 e3 e4 e5 e7 et h16 hf1
  go_enter Tryz.func20, Tryz.ntmps20
  go_wp2_with fail
  refine (HD _).out.mono ?_
  rintro e w1 ⟨rfl, rfl⟩
  go_wp2_with fail
  rw [← HW0.out]
  refine (HTK _).out.mono ?_
  rintro e w1 ⟨rfl, hb⟩
  have hTa := HT0.out.call hb
  have hRd := hTa.read ma
  have hTb := hRd.store (b' := ⟨2, 0, 0, [], 0, 0, 0, [], []⟩) (ia' := none) (ra' := none) (da' := none) (ic' := 0) (rc' := 0) (dc' := 0) 0 (.int .i64 2) rfl (by decide) ⟨hRd.bi.i, hRd.bi.r, hRd.bi.d, hRd.bi.il, hRd.bi.rl, hRd.bi.dl, hRd.bi.ic, hRd.bi.rc, hRd.bi.dc⟩ hRd.fi hRd.fr hRd.fd
  obtain ⟨_, c0, c1, c2, f0, f1, f2⟩ := hTa.r
  have k0 := hTa.c 0 (.int .i64 0) rfl
  have p0 := hTa.f 0 (by decide)
  obtain ⟨_, d0, d1, d2, _, _, _⟩ := hTb.r
  have j0 := hTb.c 0 (.int .i64 2) rfl
  have HT1 := Lib.hid hTb
  unfold MR.val
  clear hTa hRd hTb hb
  go_wp2_with fail
  clear k0 p0 j0
  refine (HI1 _).out.mono ?_
  rintro e v2 ⟨rfl, hb⟩
  have hTa := HT1.out.call hb
  have hRd := hTa.read r1
  have hTb := hRd.store (b' := ⟨2, 0, s, [], 0, 0, 0, [], []⟩) (ia' := none) (ra' := none) (da' := none) (ic' := 0) (rc' := 0) (dc' := 0) 2 (.int .i64 s) rfl (by decide) ⟨hRd.bi.i, hRd.bi.r, hRd.bi.d, hRd.bi.il, hRd.bi.rl, hRd.bi.dl, hRd.bi.ic, hRd.bi.rc, hRd.bi.dc⟩ hRd.fi hRd.fr hRd.fd
  clear c0 c1 c2 f0 f1 f2 d0 d1 d2
  obtain ⟨_, c0, c1, c2, f0, f1, f2⟩ := hTa.r
  have k2 := hTa.c 2 (.int .i64 0) rfl
  have p2 := hTa.f 2 (by decide)
  obtain ⟨_, d0, d1, d2, _, _, _⟩ := hTb.r
  have HT2 := Lib.hid hTb
  unfold MR.val
  clear hTa hRd hTb hb
  go_wp2_with fail
  clear k2 p2
  refine (HI2 _).out.mono ?_
  rintro e v3 ⟨rfl, hb⟩
  have hTa := HT2.out.call hb
  have hRd := hTa.read r2
  have hTb := hRd
  clear c0 c1 c2 f0 f1 f2 d0 d1 d2
  obtain ⟨_, c0, c1, c2, f0, f1, f2⟩ := hTa.r
  obtain ⟨_, d0, d1, d2, _, _, _⟩ := hTb.r
  have HT3 := Lib.hid hTb
  unfold MR.val
  clear hTa hRd hTb hb
  go_wp2_with fail
  refine (HI3 _).out.mono ?_
  rintro e v4 ⟨ia, ic, rfl, hli, hlc, hb, hlf⟩
  have hTa := HT3.out.call hb
  have hRd := hTa.read r4
  have hrd := hTa.r.set3 (.string (str r4.bits)) (.int .i64 r4.all) (.int .i64 r4.fail)
  have hlf0 : FreshOf W0 ia := fun g off e => Nat.le_trans HT3.out.kp.size (hlf g off e)
  have hTb := hRd.store (b' := ⟨2, 0, s, x, 0, 0, 0, [], []⟩) (ia' := ia) (ra' := none) (da' := none) (ic' := ic) (rc' := 0) (dc' := 0) 3 (.slice ia x.length ic) rfl (by decide) ⟨hli.keeps hrd.2 (fun g off e hm => by have := hlf0 g off e; have := HT0.out.lr; simp at hm; omega), hRd.bi.r, hRd.bi.d, Nat.le_trans hxl (by omega), hRd.bi.rl, hRd.bi.dl, hlc, hRd.bi.rc, hRd.bi.dc⟩ hlf0 hRd.fr hRd.fd
  clear hrd hli hlc hlf hlf0
  clear c0 c1 c2 f0 f1 f2 d0 d1 d2
  obtain ⟨_, c0, c1, c2, f0, f1, f2⟩ := hTa.r
  have k3 := hTa.c 3 (.slice none 0 0) rfl
  have p3 := hTa.f 3 (by decide)
  obtain ⟨_, d0, d1, d2, _, _, _⟩ := hTb.r
  have HT4 := Lib.hid hTb
  unfold MR.val
  clear hTa hRd hTb hb
  go_wp2_with fail
  clear k3 p3
  refine (HI4 _).out.mono ?_
  rintro e v5 ⟨rfl, hb⟩
  have hTa := HT4.out.call hb
  have hRd := hTa.read r5
  have hTb := hRd
  clear c0 c1 c2 f0 f1 f2 d0 d1 d2
  obtain ⟨_, c0, c1, c2, f0, f1, f2⟩ := hTa.r
  obtain ⟨_, d0, d1, d2, _, _, _⟩ := hTb.r
  have HT5 := Lib.hid hTb
  unfold MR.val
  clear hTa hRd hTb hb
  go_wp2_with fail
  refine (HI7 _).out.mono ?_
  rintro e w9 ⟨da, dc, ra, rc, rfl, hjd, hjr, hb, hfd, hfr, hdc, hrc⟩
  have hT9 := HT5.out.call hb
  have hT1 := hT9.call (below2 w9 (.cells #[.string (str m1.bits), .int .i64 m1.all, .int .i64 m1.fail] 50) (.cells #[.int .i64 (p : Int), .slice ra ks.length rc] 71))
  have hb2x := below2 w9 (.cells #[.string (str m1.bits), .int .i64 m1.all, .int .i64 m1.fail] 50) (.cells #[.int .i64 (p : Int), .slice ra ks.length rc] 71)
  have hRd := hT1.read m1
  have hrd := hT1.r.set3 (.string (str m1.bits)) (.int .i64 m1.all) (.int .i64 m1.fail)
  have hfd0 : FreshOf W0 da := fun g off e => Nat.le_trans HT5.out.kp.size (hfd g off e)
  have hfr0 : FreshOf W0 ra := fun g off e => Nat.le_trans HT5.out.kp.size (hfr g off e)
  have hS8 := hRd.store (b' := ⟨2, 0, s, x, 0, 0, 0, [], l⟩) (ia' := ia) (ra' := none) (da' := da) (ic' := ic) (rc' := 0) (dc' := dc) 8 (.slice da l.length dc) rfl (by decide) ⟨hRd.bi.i, hRd.bi.r, (hjd.below hb2x).keeps hrd.2 (fun g off e hm => by have := hfd0 g off e; have := HT0.out.lr; simp at hm; omega), hRd.bi.il, hRd.bi.rl, Nat.le_trans hsl.1 (by omega), hRd.bi.ic, hRd.bi.rc, hdc⟩ hRd.fi hRd.fr hfd0
  have hS6 := hS8.store (b' := ⟨2, 0, s, x, 0, 0, p, [], l⟩) (ia' := ia) (ra' := none) (da' := da) (ic' := ic) (rc' := 0) (dc' := dc) 6 (.int .i64 p) rfl (by decide) ⟨hS8.bi.i, hS8.bi.r, hS8.bi.d, hS8.bi.il, hS8.bi.rl, hS8.bi.dl, hS8.bi.ic, hS8.bi.rc, hS8.bi.dc⟩ hS8.fi hS8.fr hS8.fd
  have hkk3 := ((hrd.2.mono (bs' := [w.heap.size, w.heap.size + 1 + 1 + 1]) (by simp)).trans ((keeps_setCell _ (w.heap.size + 1 + 1 + 1) 8 (.slice da l.length dc)).mono (by simp))).trans ((keeps_setCell _ (w.heap.size + 1 + 1 + 1) 6 (.int .i64 p)).mono (by simp))
  have hT2 := hS6.store (b' := ⟨2, 0, s, x, 0, 0, p, ks, l⟩) (ia' := ia) (ra' := ra) (da' := da) (ic' := ic) (rc' := rc) (dc' := dc) 7 (.slice ra ks.length rc) rfl (by decide) ⟨hS6.bi.i, (hjr.below hb2x).keeps hkk3 (fun g off e hm => by have := hfr0 g off e; have := HT0.out.lr; have := HT0.out.lb; simp at hm; omega), hS6.bi.d, hS6.bi.il, Nat.le_trans hsl.2 (by omega), hS6.bi.dl, hS6.bi.ic, hrc, hS6.bi.dc⟩ hS6.fi hfr0 hS6.fd
  have hw9 : w.heap.size + 1 + 1 + 1 < w9.heap.size := by have h1 := HT0.out.lb; have h2 := HT5.out.kp.size; have h3 := hb.size; omega
  have ne1 : ¬ (w9.heap.size + 1 = w.heap.size) := by omega
  have ne2 : ¬ (w9.heap.size = w.heap.size + 1 + 1) := by omega
  have ne3 : ¬ (w.heap.size = w9.heap.size + 1) := by omega
  have ne4 : ¬ (w.heap.size + 1 + 1 = w9.heap.size) := by omega
  clear c0 c1 c2 f0 f1 f2 d0 d1 d2
  obtain ⟨_, c0, c1, c2, f0, f1, f2⟩ := hT1.r
  have k6 := hT1.c 6 (.int .i64 0) rfl
  have k7 := hT1.c 7 (.slice none 0 0) rfl
  have k8 := hT1.c 8 (.slice none 0 0) rfl
  have p6 := hT1.f 6 (by decide)
  have p7 := hT1.f 7 (by decide)
  have p8 := hT1.f 8 (by decide)
  obtain ⟨_, d0, d1, d2, _, _, _⟩ := hT2.r
  have j0 := hT2.c 0 (.int .i64 2) rfl
  have hO := HO0.out.keeps hT2.kp (by simp; try omega) (by simp; try omega)
  have hBV := HB0.out.trans (hT2.kp.below HB0.out.size (by intro x hx; simp at hx; omega))
  have hb1 := hb
  clear hb hT9 hRd hrd hS8 hS6 hkk3 hjd hjr hb2x hfd0 hfr0 hfd hfr hdc hrc
  unfold MR.val
  by_cases hf : m1.fail = 0
  · have t7 : (m1.fail != 0) = false := by rw [hf]; rfl
    have j1 := hT2.c 1 (.int .i64 0) rfl
    have j2 := hT2.c 2 (.int .i64 s) rfl
    have j3 := hT2.c 3 (.slice ia x.length ic) rfl
    have j4 := hT2.c 4 (.int .i64 0) rfl
    have j5 := hT2.c 5 (.int .i64 0) rfl
    have j6 := hT2.c 6 (.int .i64 p) rfl
    have j7 := hT2.c 7 (.slice ra ks.length rc) rfl
    have j8 := hT2.c 8 (.slice da l.length dc) rfl
    have HSM := Lib.hid (rSamples10 ⟨2, 0, s, x, 0, 0, p, ks, l⟩ ia ra da ic rc dc k mm _ hT2.bi)
    rw [Int.toNat_natCast] at HSM
    have HTT := Lib.hid hT2
    by_cases hc : codeB ⟨2, 0, s, x, 0, 0, p, ks, l⟩ k mm = 0
    rotate_left
    · have HAN := Lib.hid (HE2.out hf hc)
      have u1 : (codeB ⟨2, 0, s, x, 0, 0, p, ks, l⟩ k mm != 0) = true := bne_iff_ne.2 hc
      have HNC := Lib.hid hc
      have HG := fun W => Lib.hid (mGive m1 (codeB ⟨2, 0, s, x, 0, 0, p, ks, l⟩ k mm) W)
      obtain ⟨gr, hgr⟩ : ∃ gr, gr = m1.give (codeB ⟨2, 0, s, x, 0, 0, p, ks, l⟩ k mm) := ⟨_, rfl⟩
      rw [← hgr] at HG HAN
      generalize codeB ⟨2, 0, s, x, 0, 0, p, ks, l⟩ k mm = cb at *
      unfold MR.val at HG
      clear HE1 HE2 HE3 hc hf hgr
      go_wp2_with fail
      refine HSM.out.mono ?_
      rintro e w2 h2
      obtain ⟨rfl, hb2⟩ := h2.elim (fun h => h.2) (fun h => absurd h.1 HNC.out)
      have hT3 := HTT.out.call hb2
      obtain ⟨_, d0, d1, d2, _, _, _⟩ := hT3.r
      clear h2 hb2
      go_wp2_with fail
      refine (HG _).out.mono ?_
      rintro e w3 ⟨rfl, hb3⟩
      have hT4 := hT3.call hb3
      have hO4 := HO0.out.keeps hT4.kp (by simp; try omega) (by simp; try omega)
      have hBV4 := HB0.out.trans (hT4.kp.below HB0.out.size (by intro x hx; simp at hx; omega))
      have hk1 := hO4.r.set3 (.string (str gr.bits)) (.int .i64 gr.all) (.int .i64 gr.fail)
      have hob := hO4.b.keeps hk1.2 (by simp)
      have hk2 := hob.set9 (.int .i64 0) (.int .i64 0) (.int .i64 0) (.slice none 0 0) (.int .i64 0) (.int .i64 0) (.int .i64 0) (.slice none 0 0) (.slice none 0 0)
      have hr2 := hk1.1.keeps hk2.2 (by simp)
      have hbf := hBV4.trans ((hk1.2.below hBV4.size (by intro x hx; simp at hx; omega)).trans (hk2.2.below (Nat.le_trans hBV4.size hk1.2.size) (by intro x hx; simp at hx; omega)))
      obtain ⟨_, e0, e1, e2, g0, g1, g2⟩ := hO4.r
      obtain ⟨_, y0, y1, y2, _, _, _⟩ := hr2
      have x0 := hO4.b.c 0 _ rfl
      have x1 := hO4.b.c 1 _ rfl
      have x2 := hO4.b.c 2 _ rfl
      have x3 := hO4.b.c 3 _ rfl
      have x4 := hO4.b.c 4 _ rfl
      have x5 := hO4.b.c 5 _ rfl
      have x6 := hO4.b.c 6 _ rfl
      have x7 := hO4.b.c 7 _ rfl
      have x8 := hO4.b.c 8 _ rfl
      have z0 := hO4.b.f 0 (by decide)
      have z1 := hO4.b.f 1 (by decide)
      have z2 := hO4.b.f 2 (by decide)
      have z3 := hO4.b.f 3 (by decide)
      have z4 := hO4.b.f 4 (by decide)
      have z5 := hO4.b.f 5 (by decide)
      have z6 := hO4.b.f 6 (by decide)
      have z7 := hO4.b.f 7 (by decide)
      have z8 := hO4.b.f 8 (by decide)
      have q0 := hk2.1.c 0 _ rfl
      have q1 := hk2.1.c 1 _ rfl
      have q2 := hk2.1.c 2 _ rfl
      have q3 := hk2.1.c 3 _ rfl
      have q4 := hk2.1.c 4 _ rfl
      have q5 := hk2.1.c 5 _ rfl
      have q6 := hk2.1.c 6 _ rfl
      have q7 := hk2.1.c 7 _ rfl
      have q8 := hk2.1.c 8 _ rfl
      have HF : Hid (BTakeIs (gr, Blk.none, []) w (.returned (.tuple #[gr.val, .agg #[.int .i64 0, .int .i64 0, .int .i64 0, .slice none 0 0, .int .i64 0, .int .i64 0, .int .i64 0, .slice none 0 0, .slice none 0 0], .slice none 0 0])) _) := Lib.hid (BTakeIs.none hbf)
      unfold set9 at y0 y1 y2 q0 q1 q2 q3 q4 q5 q6 q7 q8 HF
      unfold MR.val at HF
      clear hT1 hT2 hO hBV hb1 hT3 hT4 hO4 hBV4 hb3
      clear hk1 hob hk2 hbf
      generalize str gr.bits = gs at *
      generalize gr.all = gal at *
      generalize gr.fail = gf at *
      go_wp2_with fail
      refine bodyPost_ret (v := .tuple #[.agg #[.string gs, .int .i64 gal, .int .i64 gf], .agg #[.int .i64 0, .int .i64 0, .int .i64 0, .slice none 0 0, .int .i64 0, .int .i64 0, .int .i64 0, .slice none 0 0, .slice none 0 0], .slice none 0 0]) ?_ rfl ?_
      · simp [results, Tryz.results20, go_sem, y0, y1, y2, q0, q1, q2, q3, q4, q5, q6, q7, q8]
      · rw [HAN.out]; exact HF.out
    · have HAN := Lib.hid (HE3.out hf hc)
      rw [hc] at HSM
      clear HE1 HE2 HE3 hf
      go_wp2_with fail
      refine HSM.out.mono ?_
      rintro e w2 h2
      obtain ⟨oa, oc, rfl, hoi, hoc, hb2, hof⟩ := h2.elim (fun h => absurd rfl h.1) (fun h => h.2)
      have hT3 := HTT.out.call hb2
      obtain ⟨_, d0, d1, d2, _, _, _⟩ := hT3.r
      have i0 := hT3.c 0 (.int .i64 2) rfl
      have i1 := hT3.c 1 (.int .i64 0) rfl
      have i2 := hT3.c 2 (.int .i64 s) rfl
      have i3 := hT3.c 3 (.slice ia x.length ic) rfl
      have i4 := hT3.c 4 (.int .i64 0) rfl
      have i5 := hT3.c 5 (.int .i64 0) rfl
      have i6 := hT3.c 6 (.int .i64 p) rfl
      have i7 := hT3.c 7 (.slice ra ks.length rc) rfl
      have i8 := hT3.c 8 (.slice da l.length dc) rfl
      have hO4 := HO0.out.keeps hT3.kp (by simp; try omega) (by simp; try omega)
      have hBV4 := HB0.out.trans (hT3.kp.below HB0.out.size (by intro x hx; simp at hx; omega))
      have hk1 := hO4.r.set3 (.string (str m1.bits)) (.int .i64 m1.all) (.int .i64 m1.fail)
      have hob := hO4.b.keeps hk1.2 (by simp)
      have hk2 := hob.set9 (.int .i64 2) (.int .i64 0) (.int .i64 s) (.slice ia x.length ic) (.int .i64 0) (.int .i64 0) (.int .i64 p) (.slice ra ks.length rc) (.slice da l.length dc)
      have hr2 := hk1.1.keeps hk2.2 (by simp)
      have hbf := hBV4.trans ((hk1.2.below hBV4.size (by intro x hx; simp at hx; omega)).trans (hk2.2.below (Nat.le_trans hBV4.size hk1.2.size) (by intro x hx; simp at hx; omega)))
      obtain ⟨_, e0, e1, e2, g0, g1, g2⟩ := hO4.r
      obtain ⟨_, y0, y1, y2, _, _, _⟩ := hr2
      have x0 := hO4.b.c 0 _ rfl
      have x1 := hO4.b.c 1 _ rfl
      have x2 := hO4.b.c 2 _ rfl
      have x3 := hO4.b.c 3 _ rfl
      have x4 := hO4.b.c 4 _ rfl
      have x5 := hO4.b.c 5 _ rfl
      have x6 := hO4.b.c 6 _ rfl
      have x7 := hO4.b.c 7 _ rfl
      have x8 := hO4.b.c 8 _ rfl
      have z0 := hO4.b.f 0 (by decide)
      have z1 := hO4.b.f 1 (by decide)
      have z2 := hO4.b.f 2 (by decide)
      have z3 := hO4.b.f 3 (by decide)
      have z4 := hO4.b.f 4 (by decide)
      have z5 := hO4.b.f 5 (by decide)
      have z6 := hO4.b.f 6 (by decide)
      have z7 := hO4.b.f 7 (by decide)
      have z8 := hO4.b.f 8 (by decide)
      have q0 := hk2.1.c 0 _ rfl
      have q1 := hk2.1.c 1 _ rfl
      have q2 := hk2.1.c 2 _ rfl
      have q3 := hk2.1.c 3 _ rfl
      have q4 := hk2.1.c 4 _ rfl
      have q5 := hk2.1.c 5 _ rfl
      have q6 := hk2.1.c 6 _ rfl
      have q7 := hk2.1.c 7 _ rfl
      have q8 := hk2.1.c 8 _ rfl
      have hkk := ((hk1.2.mono (bs' := [w.heap.size + 1, w.heap.size + 1 + 1]) (by simp)).trans (hk2.2.mono (by simp))).trans (keeps_drew_b _ _)
      have hor := HO0.out.r.lt
      have hob0 := HO0.out.b.lt
      have hszV := hT2.kp.size
      have HF : Hid (BTakeIs (m1, ⟨2, 0, s, x, 0, 0, p, ks, l⟩, outB ⟨2, 0, s, x, 0, 0, p, ks, l⟩ k) w (.returned (.tuple #[m1.val, .agg #[.int .i64 2, .int .i64 0, .int .i64 s, .slice ia x.length ic, .int .i64 0, .int .i64 0, .int .i64 p, .slice ra ks.length rc, .slice da l.length dc], .slice oa (outB ⟨2, 0, s, x, 0, 0, p, ks, l⟩ k).length oc])) _) := Lib.hid ⟨_, _, _, oa, _, _, _, oc, rfl, hT3.bi.keeps hkk hT3.fi hT3.fr hT3.fd (by intro x hx; simp at hx; omega), hoi.keeps hkk (fun g off e hm => by have := hof g off e; simp at hm; simp only [World.size_setCell] at this hszV; omega), hoc, hBV4.trans (hkk.below hBV4.size (by intro x hx; simp at hx; omega))⟩
      unfold set9 at y0 y1 y2 q0 q1 q2 q3 q4 q5 q6 q7 q8 HF
      unfold MR.val at HF
      clear hT1 hT2 hO hBV hb1 hT3 hO4 hBV4 h2 hb2 hof hoi hoc hk1 hob hk2 hbf hkk hszV hc HSM
      generalize (outB ⟨2, 0, s, x, 0, 0, p, ks, l⟩ k).length = ol at *
      generalize str m1.bits = gs at *
      generalize m1.all = gal at *
      generalize m1.fail = gf at *
      go_wp2_with fail
      go_region
      go_wp2
      refine bodyPost_ret (v := .tuple #[.agg #[.string gs, .int .i64 gal, .int .i64 gf], .agg #[.int .i64 2, .int .i64 0, .int .i64 s, .slice ia x.length ic, .int .i64 0, .int .i64 0, .int .i64 p, .slice ra ks.length rc, .slice da l.length dc], .slice oa ol oc]) ?_ rfl ?_
      · simp [results, Tryz.results20, go_sem, y0, y1, y2, q0, q1, q2, q3, q4, q5, q6, q7, q8]
      · rw [HAN.out]; exact HF.out
  · have t7 : (m1.fail != 0) = true := bne_iff_ne.2 hf
    have HAN := Lib.hid (HE1.out hf)
    clear HE1 HE2 HE3
    have hk1 := hO.r.set3 (.string (str m1.bits)) (.int .i64 m1.all) (.int .i64 m1.fail)
    have hob := hO.b.keeps hk1.2 (by simp)
    have hk2 := hob.set9 (.int .i64 0) (.int .i64 0) (.int .i64 0) (.slice none 0 0) (.int .i64 0) (.int .i64 0) (.int .i64 0) (.slice none 0 0) (.slice none 0 0)
    have hr2 := hk1.1.keeps hk2.2 (by simp)
    have hbf := hBV.trans ((hk1.2.below hBV.size (by intro x hx; simp at hx; omega)).trans (hk2.2.below (Nat.le_trans hBV.size hk1.2.size) (by intro x hx; simp at hx; omega)))
    obtain ⟨_, e0, e1, e2, g0, g1, g2⟩ := hO.r
    obtain ⟨_, y0, y1, y2, _, _, _⟩ := hr2
    have x0 := hO.b.c 0 _ rfl
    have x1 := hO.b.c 1 _ rfl
    have x2 := hO.b.c 2 _ rfl
    have x3 := hO.b.c 3 _ rfl
    have x4 := hO.b.c 4 _ rfl
    have x5 := hO.b.c 5 _ rfl
    have x6 := hO.b.c 6 _ rfl
    have x7 := hO.b.c 7 _ rfl
    have x8 := hO.b.c 8 _ rfl
    have z0 := hO.b.f 0 (by decide)
    have z1 := hO.b.f 1 (by decide)
    have z2 := hO.b.f 2 (by decide)
    have z3 := hO.b.f 3 (by decide)
    have z4 := hO.b.f 4 (by decide)
    have z5 := hO.b.f 5 (by decide)
    have z6 := hO.b.f 6 (by decide)
    have z7 := hO.b.f 7 (by decide)
    have z8 := hO.b.f 8 (by decide)
    have q0 := hk2.1.c 0 _ rfl
    have q1 := hk2.1.c 1 _ rfl
    have q2 := hk2.1.c 2 _ rfl
    have q3 := hk2.1.c 3 _ rfl
    have q4 := hk2.1.c 4 _ rfl
    have q5 := hk2.1.c 5 _ rfl
    have q6 := hk2.1.c 6 _ rfl
    have q7 := hk2.1.c 7 _ rfl
    have q8 := hk2.1.c 8 _ rfl
    have HF : Hid (BTakeIs (m1, Blk.none, []) w (.returned (.tuple #[m1.val, .agg #[.int .i64 0, .int .i64 0, .int .i64 0, .slice none 0 0, .int .i64 0, .int .i64 0, .int .i64 0, .slice none 0 0, .slice none 0 0], .slice none 0 0])) _) := Lib.hid (BTakeIs.none hbf)
    unfold set9 at y0 y1 y2 q0 q1 q2 q3 q4 q5 q6 q7 q8 HF
    unfold MR.val at HF
    clear hT1 hT2 hO hBV hf hb1
    clear hk1 hob hk2 hbf
    generalize str m1.bits = gs at *
    generalize m1.all = gal at *
    generalize m1.fail = gf at *
    go_wp2_with fail
    refine bodyPost_ret (v := .tuple #[.agg #[.string gs, .int .i64 gal, .int .i64 gf], .agg #[.int .i64 0, .int .i64 0, .int .i64 0, .slice none 0 0, .int .i64 0, .int .i64 0, .int .i64 0, .slice none 0 0, .slice none 0 0], .slice none 0 0]) ?_ rfl ?_
    · simp [results, Tryz.results20, go_sem, y0, y1, y2, q0, q1, q2, q3, q4, q5, q6, q7, q8]
    · rw [HAN.out]; exact HF.out

end Go.Proofs.YtefbakhhlonafaaGreat
