import Derived.Test.YtefbakhhlonafaaGreatBlkH6

section
namespace Go.Proofs.YtefbakhhlonafaaGreat
open Go.RowKit Go.Proofs Go.Proofs.PipeM Go.Proofs.PipeA Go.Proofs.BlkM
set_option maxRecDepth 100000

set_option maxHeartbeats 6400000 in
theorem rTake_0 (m : MR) (k mm : Nat) (w : World) (hb : m.bits.length ≤ 1000000000) (hn1 : 1 ≤ k) (hn : k ≤ 1024) (hm1 : 8 ≤ mm) (hm2 : mm ≤ 26) (hk : (m.take 2).2 = 0) :
    Calls Tryz.prog 20 #[m.val, .int .i64 k, .int .i64 mm] w (BTakeIs (m.block k mm) w) := by
  have hok := samp_ok hn1 hn hm1 hm2
  have HTK := fun W => Lib.hid (mTake m 2 W hb)
  have hlen1 := Nat.le_trans (MR.take_len m 2) hb
  have HD := fun W => Lib.hid (rDepth mm W)
  have hdep : depthB mm = true := decide_eq_true (by omega)
  rw [hdep] at HD
  have hkb : m.kindB k mm = ((m.take 2).1, ⟨0, 0, 0, [], 0, 0, 0, [], []⟩) := by unfold MR.kindB; dsimp only; rw [hk]; rfl
  have HE1 := Lib.hid (fun hf : (m.take 2).1.fail ≠ 0 => MR.block_fail hok hkb hf)
  have HE2 := Lib.hid (fun (hf : (m.take 2).1.fail = 0) (hc : codeB ⟨0, 0, 0, [], 0, 0, 0, [], []⟩ k mm ≠ 0) => MR.block_bad hok hkb hf hc)
  have HE3 := Lib.hid (fun (hf : (m.take 2).1.fail = 0) (hc : codeB ⟨0, 0, 0, [], 0, 0, 0, [], []⟩ k mm = 0) => MR.block_ok hok hkb hf hc)
  rw [hk] at HTK
  obtain ⟨W0, hW0⟩ : ∃ W0, W0 = (((w.alloc (.cells #[.string (str m.bits), .int .i64 m.all, .int .i64 m.fail] 50)).alloc (.cells #[.string ⟨#[]⟩, .int .i64 0, .int .i64 0] 50)).alloc (.cells #[.int .i64 0, .int .i64 0, .int .i64 0, .slice none 0 0, .int .i64 0, .int .i64 0, .int .i64 0, .slice none 0 0, .slice none 0 0] 24)).alloc (.cells #[.int .i64 0, .int .i64 0, .int .i64 0, .slice none 0 0, .int .i64 0, .int .i64 0, .int .i64 0, .slice none 0 0, .slice none 0 0] 24) := ⟨_, rfl⟩
  obtain ⟨hst, ho0, hb0⟩ := takeat_start w m rfl rfl hW0
  have HST := Lib.hid hst
  have HO0 := Lib.hid ho0
  have HB0 := Lib.hid hb0
  have HW0 := Lib.hid hW0
  have HV : Hid (m.val = .agg #[.string (str m.bits), .int .i64 m.all, .int .i64 m.fail]) := Lib.hid rfl
  rw [HV.out] at HTK ⊢
  generalize m.block k mm = ans at *
  generalize (m.take 2).1 = m1 at *
  clear hst ho0 hb0 hW0 hkb hk hdep hok
  go_enter Tryz.func20, Tryz.ntmps20
  go_wp2_with fail
  refine (HD _).out.mono ?_
  rintro e w1 ⟨rfl, rfl⟩
  go_wp2_with fail
  rw [← HW0.out]
  refine (HTK _).out.mono ?_
  rintro e w1 ⟨rfl, hb1⟩
  have hT1 := HST.out.call hb1
  have hT2 := (hT1.read m1).store (b' := ⟨0, 0, 0, [], 0, 0, 0, [], []⟩) (ia' := none) (ra' := none) (da' := none) (ic' := 0) (rc' := 0) (dc' := 0) 0 (.int .i64 0) rfl (by decide) (blkIn_none _) (fresh_none _) (fresh_none _) (fresh_none _)
  obtain ⟨_, c0, c1, c2, f0, f1, f2⟩ := hT1.r
  have k0 := hT1.c 0 (.int .i64 0) rfl
  have p0 := hT1.f 0 (by decide)
  obtain ⟨_, d0, d1, d2, _, _, _⟩ := hT2.r
  have j0 := hT2.c 0 (.int .i64 0) rfl
  have hO := HO0.out.keeps hT2.kp (by simp; try omega) (by simp; try omega)
  have hBV := HB0.out.trans (hT2.kp.below HB0.out.size (by intro x hx; simp at hx; omega))
  unfold MR.val
  by_cases hf : m1.fail = 0
  · have t7 : (m1.fail != 0) = false := by rw [hf]; rfl
    have j1 := hT2.c 1 (.int .i64 0) rfl
    have j2 := hT2.c 2 (.int .i64 0) rfl
    have j3 := hT2.c 3 (.slice none 0 0) rfl
    have j4 := hT2.c 4 (.int .i64 0) rfl
    have j5 := hT2.c 5 (.int .i64 0) rfl
    have j6 := hT2.c 6 (.int .i64 0) rfl
    have j7 := hT2.c 7 (.slice none 0 0) rfl
    have j8 := hT2.c 8 (.slice none 0 0) rfl
    have HSM := Lib.hid (rSamples10 ⟨0, 0, 0, [], 0, 0, 0, [], []⟩ none none none 0 0 0 k mm _ hT2.bi)
    rw [Int.toNat_natCast] at HSM
    have HTT := Lib.hid hT2
    by_cases hc : codeB ⟨0, 0, 0, [], 0, 0, 0, [], []⟩ k mm = 0
    rotate_left
    · have HAN := Lib.hid (HE2.out hf hc)
      have u1 : (codeB ⟨0, 0, 0, [], 0, 0, 0, [], []⟩ k mm != 0) = true := bne_iff_ne.2 hc
      have HNC := Lib.hid hc
      have HG := fun W => Lib.hid (mGive m1 (codeB ⟨0, 0, 0, [], 0, 0, 0, [], []⟩ k mm) W)
      obtain ⟨gr, hgr⟩ : ∃ gr, gr = m1.give (codeB ⟨0, 0, 0, [], 0, 0, 0, [], []⟩ k mm) := ⟨_, rfl⟩
      rw [← hgr] at HG HAN
      generalize codeB ⟨0, 0, 0, [], 0, 0, 0, [], []⟩ k mm = cb at *
      unfold MR.val at HG
      clear HE1 HE2 HE3 hc hf hgr
      go_wp2_with fail
      refine HSM.out.mono ?_
      rintro e w2 h2
      obtain ⟨rfl, hb2⟩ := h2.elim (fun h => h.2) (fun h => absurd h.1 HNC.out)
      have hT3 := HTT.out.call hb2
      obtain ⟨_, d0, d1, d2, _, _, _⟩ := hT3.r
      clear h2 hb2
      go_wp2_with fail
      refine (HG _).out.mono ?_
      rintro e w3 ⟨rfl, hb3⟩
      have hT4 := hT3.call hb3
      have hO4 := HO0.out.keeps hT4.kp (by simp; try omega) (by simp; try omega)
      have hBV4 := HB0.out.trans (hT4.kp.below HB0.out.size (by intro x hx; simp at hx; omega))
      have hk1 := hO4.r.set3 (.string (str gr.bits)) (.int .i64 gr.all) (.int .i64 gr.fail)
      have hob := hO4.b.keeps hk1.2 (by simp)
      have hk2 := hob.set9 (.int .i64 0) (.int .i64 0) (.int .i64 0) (.slice none 0 0) (.int .i64 0) (.int .i64 0) (.int .i64 0) (.slice none 0 0) (.slice none 0 0)
      have hr2 := hk1.1.keeps hk2.2 (by simp)
      have hbf := hBV4.trans ((hk1.2.below hBV4.size (by intro x hx; simp at hx; omega)).trans (hk2.2.below (Nat.le_trans hBV4.size hk1.2.size) (by intro x hx; simp at hx; omega)))
      obtain ⟨_, e0, e1, e2, g0, g1, g2⟩ := hO4.r
      obtain ⟨_, y0, y1, y2, _, _, _⟩ := hr2
      have x0 := hO4.b.c 0 _ rfl
      have x1 := hO4.b.c 1 _ rfl
      have x2 := hO4.b.c 2 _ rfl
      have x3 := hO4.b.c 3 _ rfl
      have x4 := hO4.b.c 4 _ rfl
      have x5 := hO4.b.c 5 _ rfl
      have x6 := hO4.b.c 6 _ rfl
      have x7 := hO4.b.c 7 _ rfl
      have x8 := hO4.b.c 8 _ rfl
      have z0 := hO4.b.f 0 (by decide)
      have z1 := hO4.b.f 1 (by decide)
      have z2 := hO4.b.f 2 (by decide)
      have z3 := hO4.b.f 3 (by decide)
      have z4 := hO4.b.f 4 (by decide)
      have z5 := hO4.b.f 5 (by decide)
      have z6 := hO4.b.f 6 (by decide)
      have z7 := hO4.b.f 7 (by decide)
      have z8 := hO4.b.f 8 (by decide)
      have q0 := hk2.1.c 0 _ rfl
      have q1 := hk2.1.c 1 _ rfl
      have q2 := hk2.1.c 2 _ rfl
      have q3 := hk2.1.c 3 _ rfl
      have q4 := hk2.1.c 4 _ rfl
      have q5 := hk2.1.c 5 _ rfl
      have q6 := hk2.1.c 6 _ rfl
      have q7 := hk2.1.c 7 _ rfl
      have q8 := hk2.1.c 8 _ rfl
      have HF : Hid (BTakeIs (gr, Blk.none, []) w (.returned (.tuple #[gr.val, .agg #[.int .i64 0, .int .i64 0, .int .i64 0, .slice none 0 0, .int .i64 0, .int .i64 0, .int .i64 0, .slice none 0 0, .slice none 0 0], .slice none 0 0])) _) := Lib.hid (BTakeIs.none hbf)
      unfold set9 at y0 y1 y2 q0 q1 q2 q3 q4 q5 q6 q7 q8 HF
      unfold MR.val at HF
      clear hT1 hT2 hO hBV hb1 hT3 hT4 hO4 hBV4 hb3
      clear hk1 hob hk2 hbf
      generalize str gr.bits = gs at *
      generalize gr.all = gal at *
      generalize gr.fail = gf at *
      go_wp2_with fail
      refine bodyPost_ret (v := .tuple #[.agg #[.string gs, .int .i64 gal, .int .i64 gf], .agg #[.int .i64 0, .int .i64 0, .int .i64 0, .slice none 0 0, .int .i64 0, .int .i64 0, .int .i64 0, .slice none 0 0, .slice none 0 0], .slice none 0 0]) ?_ rfl ?_
      · simp [results, Tryz.results20, go_sem, y0, y1, y2, q0, q1, q2, q3, q4, q5, q6, q7, q8]
      · rw [HAN.out]; exact HF.out
    · have HAN := Lib.hid (HE3.out hf hc)
      rw [hc] at HSM
      clear HE1 HE2 HE3 hf
      go_wp2_with fail
      refine HSM.out.mono ?_
      rintro e w2 h2
      obtain ⟨oa, oc, rfl, hoi, hoc, hb2, hof⟩ := h2.elim (fun h => absurd rfl h.1) (fun h => h.2)
      have hT3 := HTT.out.call hb2
      obtain ⟨_, d0, d1, d2, _, _, _⟩ := hT3.r
      have i0 := hT3.c 0 (.int .i64 0) rfl
      have i1 := hT3.c 1 (.int .i64 0) rfl
      have i2 := hT3.c 2 (.int .i64 0) rfl
      have i3 := hT3.c 3 (.slice none 0 0) rfl
      have i4 := hT3.c 4 (.int .i64 0) rfl
      have i5 := hT3.c 5 (.int .i64 0) rfl
      have i6 := hT3.c 6 (.int .i64 0) rfl
      have i7 := hT3.c 7 (.slice none 0 0) rfl
      have i8 := hT3.c 8 (.slice none 0 0) rfl
      have hO4 := HO0.out.keeps hT3.kp (by simp; try omega) (by simp; try omega)
      have hBV4 := HB0.out.trans (hT3.kp.below HB0.out.size (by intro x hx; simp at hx; omega))
      have hk1 := hO4.r.set3 (.string (str m1.bits)) (.int .i64 m1.all) (.int .i64 m1.fail)
      have hob := hO4.b.keeps hk1.2 (by simp)
      have hk2 := hob.set9 (.int .i64 0) (.int .i64 0) (.int .i64 0) (.slice none 0 0) (.int .i64 0) (.int .i64 0) (.int .i64 0) (.slice none 0 0) (.slice none 0 0)
      have hr2 := hk1.1.keeps hk2.2 (by simp)
      have hbf := hBV4.trans ((hk1.2.below hBV4.size (by intro x hx; simp at hx; omega)).trans (hk2.2.below (Nat.le_trans hBV4.size hk1.2.size) (by intro x hx; simp at hx; omega)))
      obtain ⟨_, e0, e1, e2, g0, g1, g2⟩ := hO4.r
      obtain ⟨_, y0, y1, y2, _, _, _⟩ := hr2
      have x0 := hO4.b.c 0 _ rfl
      have x1 := hO4.b.c 1 _ rfl
      have x2 := hO4.b.c 2 _ rfl
      have x3 := hO4.b.c 3 _ rfl
      have x4 := hO4.b.c 4 _ rfl
      have x5 := hO4.b.c 5 _ rfl
      have x6 := hO4.b.c 6 _ rfl
      have x7 := hO4.b.c 7 _ rfl
      have x8 := hO4.b.c 8 _ rfl
      have z0 := hO4.b.f 0 (by decide)
      have z1 := hO4.b.f 1 (by decide)
      have z2 := hO4.b.f 2 (by decide)
      have z3 := hO4.b.f 3 (by decide)
      have z4 := hO4.b.f 4 (by decide)
      have z5 := hO4.b.f 5 (by decide)
      have z6 := hO4.b.f 6 (by decide)
      have z7 := hO4.b.f 7 (by decide)
      have z8 := hO4.b.f 8 (by decide)
      have q0 := hk2.1.c 0 _ rfl
      have q1 := hk2.1.c 1 _ rfl
      have q2 := hk2.1.c 2 _ rfl
      have q3 := hk2.1.c 3 _ rfl
      have q4 := hk2.1.c 4 _ rfl
      have q5 := hk2.1.c 5 _ rfl
      have q6 := hk2.1.c 6 _ rfl
      have q7 := hk2.1.c 7 _ rfl
      have q8 := hk2.1.c 8 _ rfl
      have hkk := ((hk1.2.mono (bs' := [w.heap.size + 1, w.heap.size + 1 + 1]) (by simp)).trans (hk2.2.mono (by simp))).trans (keeps_drew_b _ _)
      have hor := HO0.out.r.lt
      have hob0 := HO0.out.b.lt
      have hszV := hT2.kp.size
      have HF : Hid (BTakeIs (m1, ⟨0, 0, 0, [], 0, 0, 0, [], []⟩, outB ⟨0, 0, 0, [], 0, 0, 0, [], []⟩ k) w (.returned (.tuple #[m1.val, .agg #[.int .i64 0, .int .i64 0, .int .i64 0, .slice none 0 0, .int .i64 0, .int .i64 0, .int .i64 0, .slice none 0 0, .slice none 0 0], .slice oa (outB ⟨0, 0, 0, [], 0, 0, 0, [], []⟩ k).length oc])) _) := Lib.hid ⟨_, _, _, oa, _, _, _, oc, rfl, hT3.bi.keeps hkk hT3.fi hT3.fr hT3.fd (by intro x hx; simp at hx; omega), hoi.keeps hkk (fun g off e hm => by have := hof g off e; simp at hm; simp only [World.size_setCell] at this hszV; omega), hoc, hBV4.trans (hkk.below hBV4.size (by intro x hx; simp at hx; omega))⟩
      unfold set9 at y0 y1 y2 q0 q1 q2 q3 q4 q5 q6 q7 q8 HF
      unfold MR.val at HF
      clear hT1 hT2 hO hBV hb1 hT3 hO4 hBV4 h2 hb2 hof hoi hoc hk1 hob hk2 hbf hkk hszV hc HSM
      generalize (outB ⟨0, 0, 0, [], 0, 0, 0, [], []⟩ k).length = ol at *
      generalize str m1.bits = gs at *
      generalize m1.all = gal at *
      generalize m1.fail = gf at *
      go_wp2_with fail
      go_region
      go_wp2
      refine bodyPost_ret (v := .tuple #[.agg #[.string gs, .int .i64 gal, .int .i64 gf], .agg #[.int .i64 0, .int .i64 0, .int .i64 0, .slice none 0 0, .int .i64 0, .int .i64 0, .int .i64 0, .slice none 0 0, .slice none 0 0], .slice oa ol oc]) ?_ rfl ?_
      · simp [results, Tryz.results20, go_sem, y0, y1, y2, q0, q1, q2, q3, q4, q5, q6, q7, q8]
      · rw [HAN.out]; exact HF.out
  · have t7 : (m1.fail != 0) = true := bne_iff_ne.2 hf
    have HAN := Lib.hid (HE1.out hf)
    clear HE1 HE2 HE3
    have hk1 := hO.r.set3 (.string (str m1.bits)) (.int .i64 m1.all) (.int .i64 m1.fail)
    have hob := hO.b.keeps hk1.2 (by simp)
    have hk2 := hob.set9 (.int .i64 0) (.int .i64 0) (.int .i64 0) (.slice none 0 0) (.int .i64 0) (.int .i64 0) (.int .i64 0) (.slice none 0 0) (.slice none 0 0)
    have hr2 := hk1.1.keeps hk2.2 (by simp)
    have hbf := hBV.trans ((hk1.2.below hBV.size (by intro x hx; simp at hx; omega)).trans (hk2.2.below (Nat.le_trans hBV.size hk1.2.size) (by intro x hx; simp at hx; omega)))
    obtain ⟨_, e0, e1, e2, g0, g1, g2⟩ := hO.r
    obtain ⟨_, y0, y1, y2, _, _, _⟩ := hr2
    have x0 := hO.b.c 0 _ rfl
    have x1 := hO.b.c 1 _ rfl
    have x2 := hO.b.c 2 _ rfl
    have x3 := hO.b.c 3 _ rfl
    have x4 := hO.b.c 4 _ rfl
    have x5 := hO.b.c 5 _ rfl
    have x6 := hO.b.c 6 _ rfl
    have x7 := hO.b.c 7 _ rfl
    have x8 := hO.b.c 8 _ rfl
    have z0 := hO.b.f 0 (by decide)
    have z1 := hO.b.f 1 (by decide)
    have z2 := hO.b.f 2 (by decide)
    have z3 := hO.b.f 3 (by decide)
    have z4 := hO.b.f 4 (by decide)
    have z5 := hO.b.f 5 (by decide)
    have z6 := hO.b.f 6 (by decide)
    have z7 := hO.b.f 7 (by decide)
    have z8 := hO.b.f 8 (by decide)
    have q0 := hk2.1.c 0 _ rfl
    have q1 := hk2.1.c 1 _ rfl
    have q2 := hk2.1.c 2 _ rfl
    have q3 := hk2.1.c 3 _ rfl
    have q4 := hk2.1.c 4 _ rfl
    have q5 := hk2.1.c 5 _ rfl
    have q6 := hk2.1.c 6 _ rfl
    have q7 := hk2.1.c 7 _ rfl
    have q8 := hk2.1.c 8 _ rfl
    have HF : Hid (BTakeIs (m1, Blk.none, []) w (.returned (.tuple #[m1.val, .agg #[.int .i64 0, .int .i64 0, .int .i64 0, .slice none 0 0, .int .i64 0, .int .i64 0, .int .i64 0, .slice none 0 0, .slice none 0 0], .slice none 0 0])) _) := Lib.hid (BTakeIs.none hbf)
    unfold set9 at y0 y1 y2 q0 q1 q2 q3 q4 q5 q6 q7 q8 HF
    unfold MR.val at HF
    clear hT1 hT2 hO hBV hf hb1
    clear hk1 hob hk2 hbf
    generalize str m1.bits = gs at *
    generalize m1.all = gal at *
    generalize m1.fail = gf at *
    go_wp2_with fail
    refine bodyPost_ret (v := .tuple #[.agg #[.string gs, .int .i64 gal, .int .i64 gf], .agg #[.int .i64 0, .int .i64 0, .int .i64 0, .slice none 0 0, .int .i64 0, .int .i64 0, .int .i64 0, .slice none 0 0, .slice none 0 0], .slice none 0 0]) ?_ rfl ?_
    · simp [results, Tryz.results20, go_sem, y0, y1, y2, q0, q1, q2, q3, q4, q5, q6, q7, q8]
    · rw [HAN.out]; exact HF.out
end Go.Proofs.YtefbakhhlonafaaGreat
end

section
namespace Go.Proofs.YtefbakhhlonafaaGreat
open Go.RowKit Go.Proofs Go.Proofs.PipeM Go.Proofs.PipeA Go.Proofs.BlkM
set_option maxRecDepth 100000

set_option maxHeartbeats 6400000 in
theorem rTake_1 (m : MR) (k mm : Nat) (w : World) (hb : m.bits.length ≤ 1000000000) (hn1 : 1 ≤ k) (hn : k ≤ 1024) (hm1 : 8 ≤ mm) (hm2 : mm ≤ 26) (hk : (m.take 2).2 = 1) :
    Calls Tryz.prog 20 #[m.val, .int .i64 k, .int .i64 mm] w (BTakeIs (m.block k mm) w) := by
  have hok := samp_ok hn1 hn hm1 hm2
  have HTK := fun W => Lib.hid (mTake m 2 W hb)
  have hlen1 := Nat.le_trans (MR.take_len m 2) hb
  have HD := fun W => Lib.hid (rDepth mm W)
  have hdep : depthB mm = true := decide_eq_true (by omega)
  rw [hdep] at HD
  obtain ⟨ma, hma⟩ : ∃ ma, ma = (m.take 2).1 := ⟨_, rfl⟩
  rw [← hma] at hlen1
  have hkb : m.kindB k mm = ((ma.take mm).1, ⟨1, ma.intV mm, 0, [], 0, 0, 0, [], []⟩) := by unfold MR.kindB; dsimp only; rw [hk, ← hma]; rfl
  have HIN := fun W => Lib.hid (mInt ma mm W (by omega) (by omega) hlen1)
  generalize (ma.take mm).1 = m1 at *
  generalize ma.intV mm = v at *
  have HE1 := Lib.hid (fun hf : m1.fail ≠ 0 => MR.block_fail hok hkb hf)
  have HE2 := Lib.hid (fun (hf : m1.fail = 0) (hc : codeB ⟨1, v, 0, [], 0, 0, 0, [], []⟩ k mm ≠ 0) => MR.block_bad hok hkb hf hc)
  have HE3 := Lib.hid (fun (hf : m1.fail = 0) (hc : codeB ⟨1, v, 0, [], 0, 0, 0, [], []⟩ k mm = 0) => MR.block_ok hok hkb hf hc)
  rw [hk, ← hma] at HTK
  obtain ⟨W0, hW0⟩ : ∃ W0, W0 = (((w.alloc (.cells #[.string (str m.bits), .int .i64 m.all, .int .i64 m.fail] 50)).alloc (.cells #[.string ⟨#[]⟩, .int .i64 0, .int .i64 0] 50)).alloc (.cells #[.int .i64 0, .int .i64 0, .int .i64 0, .slice none 0 0, .int .i64 0, .int .i64 0, .int .i64 0, .slice none 0 0, .slice none 0 0] 24)).alloc (.cells #[.int .i64 0, .int .i64 0, .int .i64 0, .slice none 0 0, .int .i64 0, .int .i64 0, .int .i64 0, .slice none 0 0, .slice none 0 0] 24) := ⟨_, rfl⟩
  obtain ⟨hst, ho0, hb0⟩ := takeat_start w m rfl rfl hW0
  have HST := Lib.hid hst
  have HO0 := Lib.hid ho0
  have HB0 := Lib.hid hb0
  have HW0 := Lib.hid hW0
  have HV : Hid (m.val = .agg #[.string (str m.bits), .int .i64 m.all, .int .i64 m.fail]) := Lib.hid rfl
  rw [HV.out] at HTK ⊢
  generalize m.block k mm = ans at *
  unfold MR.val at HIN
  clear hst ho0 hb0 hW0 hkb hk hdep hok hma
  go_enter Tryz.func20, Tryz.ntmps20
  go_wp2_with fail
  refine (HD _).out.mono ?_
  rintro e w1 ⟨rfl, rfl⟩
  go_wp2_with fail
  rw [← HW0.out]
  refine (HTK _).out.mono ?_
  rintro e w1 ⟨rfl, hb1⟩
  have hTa := HST.out.call hb1
  have hTb := (hTa.read ma).store (b' := ⟨1, 0, 0, [], 0, 0, 0, [], []⟩) (ia' := none) (ra' := none) (da' := none) (ic' := 0) (rc' := 0) (dc' := 0) 0 (.int .i64 1) rfl (by decide) ⟨(blkIn_none _).i, (blkIn_none _).r, (blkIn_none _).d, Nat.zero_le _, Nat.zero_le _, Nat.zero_le _, Nat.le_refl _, Nat.le_refl _, Nat.le_refl _⟩ (fresh_none _) (fresh_none _) (fresh_none _)
  obtain ⟨_, c0, c1, c2, f0, f1, f2⟩ := hTa.r
  have k0 := hTa.c 0 (.int .i64 0) rfl
  have p0 := hTa.f 0 (by decide)
  obtain ⟨_, d0, d1, d2, _, _, _⟩ := hTb.r
  have j0 := hTb.c 0 (.int .i64 1) rfl
  have HTB := Lib.hid hTb
  unfold MR.val
  clear hTa hTb hb1
  go_wp2_with fail
  refine (HIN _).out.mono ?_
  rintro e w2 ⟨rfl, hb2⟩
  have hT1 := HTB.out.call hb2
  have hT2 := (hT1.read m1).store (b' := ⟨1, v, 0, [], 0, 0, 0, [], []⟩) (ia' := none) (ra' := none) (da' := none) (ic' := 0) (rc' := 0) (dc' := 0) 1 (.int .i64 v) rfl (by decide) ⟨(blkIn_none _).i, (blkIn_none _).r, (blkIn_none _).d, Nat.zero_le _, Nat.zero_le _, Nat.zero_le _, Nat.le_refl _, Nat.le_refl _, Nat.le_refl _⟩ (fresh_none _) (fresh_none _) (fresh_none _)
  clear c0 c1 c2 f0 f1 f2 k0 p0 d0 d1 d2 j0
  obtain ⟨_, c0, c1, c2, f0, f1, f2⟩ := hT1.r
  have k0 := hT1.c 1 (.int .i64 0) rfl
  have p0 := hT1.f 1 (by decide)
  obtain ⟨_, d0, d1, d2, _, _, _⟩ := hT2.r
  have j0 := hT2.c 0 (.int .i64 1) rfl
  have hO := HO0.out.keeps hT2.kp (by simp; try omega) (by simp; try omega)
  have hBV := HB0.out.trans (hT2.kp.below HB0.out.size (by intro x hx; simp at hx; omega))
  have hb1 := hb2
  clear hb2
  unfold MR.val
  by_cases hf : m1.fail = 0
  · have t7 : (m1.fail != 0) = false := by rw [hf]; rfl
    have j1 := hT2.c 1 (.int .i64 v) rfl
    have j2 := hT2.c 2 (.int .i64 0) rfl
    have j3 := hT2.c 3 (.slice none 0 0) rfl
    have j4 := hT2.c 4 (.int .i64 0) rfl
    have j5 := hT2.c 5 (.int .i64 0) rfl
    have j6 := hT2.c 6 (.int .i64 0) rfl
    have j7 := hT2.c 7 (.slice none 0 0) rfl
    have j8 := hT2.c 8 (.slice none 0 0) rfl
    have HSM := Lib.hid (rSamples10 ⟨1, v, 0, [], 0, 0, 0, [], []⟩ none none none 0 0 0 k mm _ hT2.bi)
    rw [Int.toNat_natCast] at HSM
    have HTT := Lib.hid hT2
    by_cases hc : codeB ⟨1, v, 0, [], 0, 0, 0, [], []⟩ k mm = 0
    rotate_left
    · have HAN := Lib.hid (HE2.out hf hc)
      have u1 : (codeB ⟨1, v, 0, [], 0, 0, 0, [], []⟩ k mm != 0) = true := bne_iff_ne.2 hc
      have HNC := Lib.hid hc
      have HG := fun W => Lib.hid (mGive m1 (codeB ⟨1, v, 0, [], 0, 0, 0, [], []⟩ k mm) W)
      obtain ⟨gr, hgr⟩ : ∃ gr, gr = m1.give (codeB ⟨1, v, 0, [], 0, 0, 0, [], []⟩ k mm) := ⟨_, rfl⟩
      rw [← hgr] at HG HAN
      generalize codeB ⟨1, v, 0, [], 0, 0, 0, [], []⟩ k mm = cb at *
      unfold MR.val at HG
      clear HE1 HE2 HE3 hc hf hgr
      go_wp2_with fail
      refine HSM.out.mono ?_
      rintro e w2 h2
      obtain ⟨rfl, hb2⟩ := h2.elim (fun h => h.2) (fun h => absurd h.1 HNC.out)
      have hT3 := HTT.out.call hb2
      obtain ⟨_, d0, d1, d2, _, _, _⟩ := hT3.r
      clear h2 hb2
      go_wp2_with fail
      refine (HG _).out.mono ?_
      rintro e w3 ⟨rfl, hb3⟩
      have hT4 := hT3.call hb3
      have hO4 := HO0.out.keeps hT4.kp (by simp; try omega) (by simp; try omega)
      have hBV4 := HB0.out.trans (hT4.kp.below HB0.out.size (by intro x hx; simp at hx; omega))
      have hk1 := hO4.r.set3 (.string (str gr.bits)) (.int .i64 gr.all) (.int .i64 gr.fail)
      have hob := hO4.b.keeps hk1.2 (by simp)
      have hk2 := hob.set9 (.int .i64 0) (.int .i64 0) (.int .i64 0) (.slice none 0 0) (.int .i64 0) (.int .i64 0) (.int .i64 0) (.slice none 0 0) (.slice none 0 0)
      have hr2 := hk1.1.keeps hk2.2 (by simp)
      have hbf := hBV4.trans ((hk1.2.below hBV4.size (by intro x hx; simp at hx; omega)).trans (hk2.2.below (Nat.le_trans hBV4.size hk1.2.size) (by intro x hx; simp at hx; omega)))
      obtain ⟨_, e0, e1, e2, g0, g1, g2⟩ := hO4.r
      obtain ⟨_, y0, y1, y2, _, _, _⟩ := hr2
      have x0 := hO4.b.c 0 _ rfl
      have x1 := hO4.b.c 1 _ rfl
      have x2 := hO4.b.c 2 _ rfl
      have x3 := hO4.b.c 3 _ rfl
      have x4 := hO4.b.c 4 _ rfl
      have x5 := hO4.b.c 5 _ rfl
      have x6 := hO4.b.c 6 _ rfl
      have x7 := hO4.b.c 7 _ rfl
      have x8 := hO4.b.c 8 _ rfl
      have z0 := hO4.b.f 0 (by decide)
      have z1 := hO4.b.f 1 (by decide)
      have z2 := hO4.b.f 2 (by decide)
      have z3 := hO4.b.f 3 (by decide)
      have z4 := hO4.b.f 4 (by decide)
      have z5 := hO4.b.f 5 (by decide)
      have z6 := hO4.b.f 6 (by decide)
      have z7 := hO4.b.f 7 (by decide)
      have z8 := hO4.b.f 8 (by decide)
      have q0 := hk2.1.c 0 _ rfl
      have q1 := hk2.1.c 1 _ rfl
      have q2 := hk2.1.c 2 _ rfl
      have q3 := hk2.1.c 3 _ rfl
      have q4 := hk2.1.c 4 _ rfl
      have q5 := hk2.1.c 5 _ rfl
      have q6 := hk2.1.c 6 _ rfl
      have q7 := hk2.1.c 7 _ rfl
      have q8 := hk2.1.c 8 _ rfl
      have HF : Hid (BTakeIs (gr, Blk.none, []) w (.returned (.tuple #[gr.val, .agg #[.int .i64 0, .int .i64 0, .int .i64 0, .slice none 0 0, .int .i64 0, .int .i64 0, .int .i64 0, .slice none 0 0, .slice none 0 0], .slice none 0 0])) _) := Lib.hid (BTakeIs.none hbf)
      unfold set9 at y0 y1 y2 q0 q1 q2 q3 q4 q5 q6 q7 q8 HF
      unfold MR.val at HF
      clear hT1 hT2 hO hBV hb1 hT3 hT4 hO4 hBV4 hb3
      clear hk1 hob hk2 hbf
      generalize str gr.bits = gs at *
      generalize gr.all = gal at *
      generalize gr.fail = gf at *
      go_wp2_with fail
      refine bodyPost_ret (v := .tuple #[.agg #[.string gs, .int .i64 gal, .int .i64 gf], .agg #[.int .i64 0, .int .i64 0, .int .i64 0, .slice none 0 0, .int .i64 0, .int .i64 0, .int .i64 0, .slice none 0 0, .slice none 0 0], .slice none 0 0]) ?_ rfl ?_
      · simp [results, Tryz.results20, go_sem, y0, y1, y2, q0, q1, q2, q3, q4, q5, q6, q7, q8]
      · rw [HAN.out]; exact HF.out
    · have HAN := Lib.hid (HE3.out hf hc)
      rw [hc] at HSM
      clear HE1 HE2 HE3 hf
      go_wp2_with fail
      refine HSM.out.mono ?_
      rintro e w2 h2
      obtain ⟨oa, oc, rfl, hoi, hoc, hb2, hof⟩ := h2.elim (fun h => absurd rfl h.1) (fun h => h.2)
      have hT3 := HTT.out.call hb2
      obtain ⟨_, d0, d1, d2, _, _, _⟩ := hT3.r
      have i0 := hT3.c 0 (.int .i64 1) rfl
      have i1 := hT3.c 1 (.int .i64 v) rfl
      have i2 := hT3.c 2 (.int .i64 0) rfl
      have i3 := hT3.c 3 (.slice none 0 0) rfl
      have i4 := hT3.c 4 (.int .i64 0) rfl
      have i5 := hT3.c 5 (.int .i64 0) rfl
      have i6 := hT3.c 6 (.int .i64 0) rfl
      have i7 := hT3.c 7 (.slice none 0 0) rfl
      have i8 := hT3.c 8 (.slice none 0 0) rfl
      have hO4 := HO0.out.keeps hT3.kp (by simp; try omega) (by simp; try omega)
      have hBV4 := HB0.out.trans (hT3.kp.below HB0.out.size (by intro x hx; simp at hx; omega))
      have hk1 := hO4.r.set3 (.string (str m1.bits)) (.int .i64 m1.all) (.int .i64 m1.fail)
      have hob := hO4.b.keeps hk1.2 (by simp)
      have hk2 := hob.set9 (.int .i64 1) (.int .i64 v) (.int .i64 0) (.slice none 0 0) (.int .i64 0) (.int .i64 0) (.int .i64 0) (.slice none 0 0) (.slice none 0 0)
      have hr2 := hk1.1.keeps hk2.2 (by simp)
      have hbf := hBV4.trans ((hk1.2.below hBV4.size (by intro x hx; simp at hx; omega)).trans (hk2.2.below (Nat.le_trans hBV4.size hk1.2.size) (by intro x hx; simp at hx; omega)))
      obtain ⟨_, e0, e1, e2, g0, g1, g2⟩ := hO4.r
      obtain ⟨_, y0, y1, y2, _, _, _⟩ := hr2
      have x0 := hO4.b.c 0 _ rfl
      have x1 := hO4.b.c 1 _ rfl
      have x2 := hO4.b.c 2 _ rfl
      have x3 := hO4.b.c 3 _ rfl
      have x4 := hO4.b.c 4 _ rfl
      have x5 := hO4.b.c 5 _ rfl
      have x6 := hO4.b.c 6 _ rfl
      have x7 := hO4.b.c 7 _ rfl
      have x8 := hO4.b.c 8 _ rfl
      have z0 := hO4.b.f 0 (by decide)
      have z1 := hO4.b.f 1 (by decide)
      have z2 := hO4.b.f 2 (by decide)
      have z3 := hO4.b.f 3 (by decide)
      have z4 := hO4.b.f 4 (by decide)
      have z5 := hO4.b.f 5 (by decide)
      have z6 := hO4.b.f 6 (by decide)
      have z7 := hO4.b.f 7 (by decide)
      have z8 := hO4.b.f 8 (by decide)
      have q0 := hk2.1.c 0 _ rfl
      have q1 := hk2.1.c 1 _ rfl
      have q2 := hk2.1.c 2 _ rfl
      have q3 := hk2.1.c 3 _ rfl
      have q4 := hk2.1.c 4 _ rfl
      have q5 := hk2.1.c 5 _ rfl
      have q6 := hk2.1.c 6 _ rfl
      have q7 := hk2.1.c 7 _ rfl
      have q8 := hk2.1.c 8 _ rfl
      have hkk := ((hk1.2.mono (bs' := [w.heap.size + 1, w.heap.size + 1 + 1]) (by simp)).trans (hk2.2.mono (by simp))).trans (keeps_drew_b _ _)
      have hor := HO0.out.r.lt
      have hob0 := HO0.out.b.lt
      have hszV := hT2.kp.size
      have HF : Hid (BTakeIs (m1, ⟨1, v, 0, [], 0, 0, 0, [], []⟩, outB ⟨1, v, 0, [], 0, 0, 0, [], []⟩ k) w (.returned (.tuple #[m1.val, .agg #[.int .i64 1, .int .i64 v, .int .i64 0, .slice none 0 0, .int .i64 0, .int .i64 0, .int .i64 0, .slice none 0 0, .slice none 0 0], .slice oa (outB ⟨1, v, 0, [], 0, 0, 0, [], []⟩ k).length oc])) _) := Lib.hid ⟨_, _, _, oa, _, _, _, oc, rfl, hT3.bi.keeps hkk hT3.fi hT3.fr hT3.fd (by intro x hx; simp at hx; omega), hoi.keeps hkk (fun g off e hm => by have := hof g off e; simp at hm; simp only [World.size_setCell] at this hszV; omega), hoc, hBV4.trans (hkk.below hBV4.size (by intro x hx; simp at hx; omega))⟩
      unfold set9 at y0 y1 y2 q0 q1 q2 q3 q4 q5 q6 q7 q8 HF
      unfold MR.val at HF
      clear hT1 hT2 hO hBV hb1 hT3 hO4 hBV4 h2 hb2 hof hoi hoc hk1 hob hk2 hbf hkk hszV hc HSM
      generalize (outB ⟨1, v, 0, [], 0, 0, 0, [], []⟩ k).length = ol at *
      generalize str m1.bits = gs at *
      generalize m1.all = gal at *
      generalize m1.fail = gf at *
      go_wp2_with fail
      go_region
      go_wp2
      refine bodyPost_ret (v := .tuple #[.agg #[.string gs, .int .i64 gal, .int .i64 gf], .agg #[.int .i64 1, .int .i64 v, .int .i64 0, .slice none 0 0, .int .i64 0, .int .i64 0, .int .i64 0, .slice none 0 0, .slice none 0 0], .slice oa ol oc]) ?_ rfl ?_
      · simp [results, Tryz.results20, go_sem, y0, y1, y2, q0, q1, q2, q3, q4, q5, q6, q7, q8]
      · rw [HAN.out]; exact HF.out
  · have t7 : (m1.fail != 0) = true := bne_iff_ne.2 hf
    have HAN := Lib.hid (HE1.out hf)
    clear HE1 HE2 HE3
    have hk1 := hO.r.set3 (.string (str m1.bits)) (.int .i64 m1.all) (.int .i64 m1.fail)
    have hob := hO.b.keeps hk1.2 (by simp)
    have hk2 := hob.set9 (.int .i64 0) (.int .i64 0) (.int .i64 0) (.slice none 0 0) (.int .i64 0) (.int .i64 0) (.int .i64 0) (.slice none 0 0) (.slice none 0 0)
    have hr2 := hk1.1.keeps hk2.2 (by simp)
    have hbf := hBV.trans ((hk1.2.below hBV.size (by intro x hx; simp at hx; omega)).trans (hk2.2.below (Nat.le_trans hBV.size hk1.2.size) (by intro x hx; simp at hx; omega)))
    obtain ⟨_, e0, e1, e2, g0, g1, g2⟩ := hO.r
    obtain ⟨_, y0, y1, y2, _, _, _⟩ := hr2
    have x0 := hO.b.c 0 _ rfl
    have x1 := hO.b.c 1 _ rfl
    have x2 := hO.b.c 2 _ rfl
    have x3 := hO.b.c 3 _ rfl
    have x4 := hO.b.c 4 _ rfl
    have x5 := hO.b.c 5 _ rfl
    have x6 := hO.b.c 6 _ rfl
    have x7 := hO.b.c 7 _ rfl
    have x8 := hO.b.c 8 _ rfl
    have z0 := hO.b.f 0 (by decide)
    have z1 := hO.b.f 1 (by decide)
    have z2 := hO.b.f 2 (by decide)
    have z3 := hO.b.f 3 (by decide)
    have z4 := hO.b.f 4 (by decide)
    have z5 := hO.b.f 5 (by decide)
    have z6 := hO.b.f 6 (by decide)
    have z7 := hO.b.f 7 (by decide)
    have z8 := hO.b.f 8 (by decide)
    have q0 := hk2.1.c 0 _ rfl
    have q1 := hk2.1.c 1 _ rfl
    have q2 := hk2.1.c 2 _ rfl
    have q3 := hk2.1.c 3 _ rfl
    have q4 := hk2.1.c 4 _ rfl
    have q5 := hk2.1.c 5 _ rfl
    have q6 := hk2.1.c 6 _ rfl
    have q7 := hk2.1.c 7 _ rfl
    have q8 := hk2.1.c 8 _ rfl
    have HF : Hid (BTakeIs (m1, Blk.none, []) w (.returned (.tuple #[m1.val, .agg #[.int .i64 0, .int .i64 0, .int .i64 0, .slice none 0 0, .int .i64 0, .int .i64 0, .int .i64 0, .slice none 0 0, .slice none 0 0], .slice none 0 0])) _) := Lib.hid (BTakeIs.none hbf)
    unfold set9 at y0 y1 y2 q0 q1 q2 q3 q4 q5 q6 q7 q8 HF
    unfold MR.val at HF
    clear hT1 hT2 hO hBV hf hb1
    clear hk1 hob hk2 hbf
    generalize str m1.bits = gs at *
    generalize m1.all = gal at *
    generalize m1.fail = gf at *
    go_wp2_with fail
    refine bodyPost_ret (v := .tuple #[.agg #[.string gs, .int .i64 gal, .int .i64 gf], .agg #[.int .i64 0, .int .i64 0, .int .i64 0, .slice none 0 0, .int .i64 0, .int .i64 0, .int .i64 0, .slice none 0 0, .slice none 0 0], .slice none 0 0]) ?_ rfl ?_
    · simp [results, Tryz.results20, go_sem, y0, y1, y2, q0, q1, q2, q3, q4, q5, q6, q7, q8]
    · rw [HAN.out]; exact HF.out

end Go.Proofs.YtefbakhhlonafaaGreat
end
