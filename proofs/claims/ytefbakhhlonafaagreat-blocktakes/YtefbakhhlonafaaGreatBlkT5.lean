import Derived.Test.YtefbakhhlonafaaGreatBlkT4

namespace Go.Proofs.YtefbakhhlonafaaGreat
open Go.RowKit Go.Proofs Go.Proofs.PipeM Go.Proofs.PipeA Go.Proofs.BlkM Go.Proofs.BlkB
set_option maxRecDepth 100000

theorem nil_ints (W : World) (ao : Option Addr) : IntsAt W ao [] := fun j hj => by simp at hj

set_option maxHeartbeats 6400000 in
theorem cTakeFields (b : Nat) (ao : Option Addr) (s : RS) (n d : Nat) (w : World) (hn : n ≤ 1024) (h : RdA w b ao s) (ha : ∀ g off, ao = some ⟨g, off, none⟩ → g < w.heap.size) :
    Calls Tryz.prog 47 #[.pointer (some ⟨b, 0, none⟩), .int .i64 n, .int .i64 d] w (FieldsIs w b ao (s.kindB n d)) := by
  have hlt := h.lt
  have hbx := box_below w (.cells #[.int .i64 0, .int .i64 0, .int .i64 0, .slice none 0 0, .int .i64 0, .int .i64 0, .int .i64 0, .slice none 0 0, .slice none 0 0] 24)
  have hB0 := box9_new w (.int .i64 0) (.int .i64 0) (.int .i64 0) (.slice none 0 0) (.int .i64 0) (.int .i64 0) (.int .i64 0) (.slice none 0 0) (.slice none 0 0) 24
  obtain ⟨W0, hW0⟩ : ∃ W0, W0 = w.alloc (.cells #[.int .i64 0, .int .i64 0, .int .i64 0, .slice none 0 0, .int .i64 0, .int .i64 0, .int .i64 0, .slice none 0 0, .slice none 0 0] 24) := ⟨_, rfl⟩
  rw [← hW0] at hbx hB0
  have hR0 : RdA W0 b ao s := h.keeps (keeps_of_below hbx []) (by simp) (by simp)
  have HT1 := Lib.hid (aTake b ao s 2 W0 hR0)
  have HTS := fun W (hr : RdA W b ao (s.takeS 2)) => Lib.hid (aSigned b ao (s.takeS 2) d W hr)
  have HTN := fun W (hr : RdA W b ao (s.takeS 2)) (hg : ∀ g off, ao = some ⟨g, off, none⟩ → g < W.heap.size) => Lib.hid (cTakeNormal b ao (s.takeS 2) n W hn hr hg)
  have HTE := fun W (hr : RdA W b ao (s.takeS 2)) (hg : ∀ g off, ao = some ⟨g, off, none⟩ → g < W.heap.size) => Lib.hid (cTakeEach b ao (s.takeS 2) n d W hn hr hg)
  have hl2 : s.takeV 2 < 2 ^ 2 := takeV_lt2 _ 2
  have HE : Hid (s.kindB n d = if s.takeV 2 = 1 then ((s.takeS 2).signedS d, ⟨1, (s.takeS 2).signedV d, 0, [], 0, 0, 0, [], []⟩) else if s.takeV 2 = 2 then (s.takeS 2).normB n else if s.takeV 2 = 3 then (((s.takeS 2).intsS d n).1, ⟨3, 0, 0, [], 0, 0, 0, [], ((s.takeS 2).intsS d n).2⟩) else (s.takeS 2, Blk.none)) := rfl
  have HB0 := Lib.hid hB0
  have HBX := Lib.hid hbx
  have HW0 := Lib.hid hW0
  have HA := Lib.hid ha
  have hbn : b ≠ w.heap.size := by omega
  generalize s.takeV 2 = v2 at *
  generalize s.kindB n d = R at *
  have HKP : Hid (∀ W, Keeps [b, w.heap.size] W0 W → Keeps [b] w W) := fun W hk => (keeps_of_below HBX.out [b]).trans_new hk (by intro x hx; simp at hx; rcases hx with rfl | rfl; exact .inl (by simp); exact .inr (Nat.le_refl _))
  have hv2 : IntKind.i64.wrap (v2 : Int) = (v2 : Int) := IntWalk.i64_in _ (by omega)
  have hsz0 : w.heap.size < W0.heap.size := HB0.out.lt
  have HAO : Hid (∀ W : World, W0.heap.size ≤ W.heap.size → ∀ g off, ao = some ⟨g, off, none⟩ → g < W.heap.size) := fun W hW g off e => Nat.lt_of_lt_of_le (HA.out g off e) (by omega)
  have HBS : Hid (∀ x ∈ [b, w.heap.size], x < W0.heap.size) := by intro x hx; simp at hx; rcases hx with rfl | rfl <;> omega
  clear h ha hbx hB0 hR0 hW0
  have hcase : v2 = 0 ∨ v2 = 1 ∨ v2 = 2 ∨ v2 = 3 := by omega
  clear hl2
  rcases hcase with rfl | rfl | rfl | rfl
  · have hR : R = (s.takeS 2, Blk.none) := by rw [HE.out]; simp
    subst hR
    clear HE HTS HTN HTE
    go_enter Tryz.func47, Tryz.ntmps47
    go_wp2_with fail
    rw [← HW0.out]
    refine HT1.out.mono ?_
    rintro e w1 ⟨rfl, hr1, hk1⟩
    have HX1 := Lib.hid (HB0.out.keeps hk1 (by simp; omega))
    have HK1 : Hid (Keeps [b, w.heap.size] W0 w1) := hk1.mono (by simp)
    have HR1 := Lib.hid hr1
    clear hr1 hk1
    have c0 := HX1.out.c 0 (.int .i64 0) rfl
    have c1 := HX1.out.c 1 (.int .i64 0) rfl
    have c2 := HX1.out.c 2 (.int .i64 0) rfl
    have c3 := HX1.out.c 3 (.slice none 0 0) rfl
    have c4 := HX1.out.c 4 (.int .i64 0) rfl
    have c5 := HX1.out.c 5 (.int .i64 0) rfl
    have c6 := HX1.out.c 6 (.int .i64 0) rfl
    have c7 := HX1.out.c 7 (.slice none 0 0) rfl
    have c8 := HX1.out.c 8 (.slice none 0 0) rfl
    have f0 := HX1.out.f 0 (by decide)
    have f1 := HX1.out.f 1 (by decide)
    have f2 := HX1.out.f 2 (by decide)
    have f3 := HX1.out.f 3 (by decide)
    have f4 := HX1.out.f 4 (by decide)
    have f5 := HX1.out.f 5 (by decide)
    have f6 := HX1.out.f 6 (by decide)
    have f7 := HX1.out.f 7 (by decide)
    have f8 := HX1.out.f 8 (by decide)
    go_wp2
    obtain ⟨hX8, hk8⟩ := HX1.out.set9 (.int .i64 0) (.int .i64 0) (.int .i64 0) (.slice none 0 0) (.int .i64 0) (.int .i64 0) (.int .i64 0) (.slice none 0 0) (.slice none 0 0)
    have HK8 := Lib.hid (HKP.out _ (HK1.out.trans (hk8.mono (by simp))))
    have HR8 := Lib.hid (HR1.out.keeps hk8 (by simp; omega) (fun g off e => by have := HA.out g off e; simp; omega))
    unfold Go.Proofs.YtefbakhhlonafaaGreat.set9 at hX8 hk8 HK8 HR8
    have R0 := hX8.c 0 (.int .i64 0) rfl
    have R1 := hX8.c 1 (.int .i64 0) rfl
    have R2 := hX8.c 2 (.int .i64 0) rfl
    have R3 := hX8.c 3 (.slice none 0 0) rfl
    have R4 := hX8.c 4 (.int .i64 0) rfl
    have R5 := hX8.c 5 (.int .i64 0) rfl
    have R6 := hX8.c 6 (.int .i64 0) rfl
    have R7 := hX8.c 7 (.slice none 0 0) rfl
    have R8 := hX8.c 8 (.slice none 0 0) rfl
    refine bodyPost_ret (v := .agg #[.int .i64 0, .int .i64 0, .int .i64 0, .slice none 0 0, .int .i64 0, .int .i64 0, .int .i64 0, .slice none 0 0, .slice none 0 0]) (by simp [results, Tryz.results47, go_sem, R0, R1, R2, R3, R4, R5, R6, R7, R8]) rfl ?_
    exact ⟨none, none, none, 0, 0, 0, rfl, HR8.out, blkIn_none _, fresh_none _, fresh_none _, fresh_none _, HK8.out⟩
  · have hR : R = ((s.takeS 2).signedS d, ⟨1, (s.takeS 2).signedV d, 0, [], 0, 0, 0, [], []⟩) := by rw [HE.out]; simp
    subst hR
    clear HE HTN HTE
    go_enter Tryz.func47, Tryz.ntmps47
    go_wp2_with fail
    rw [← HW0.out]
    refine HT1.out.mono ?_
    rintro e w1 ⟨rfl, hr1, hk1⟩
    have HX1 := Lib.hid (HB0.out.keeps hk1 (by simp; omega))
    have HK1 : Hid (Keeps [b, w.heap.size] W0 w1) := hk1.mono (by simp)
    have HC1 := HTS w1 hr1
    clear hr1 hk1
    generalize (s.takeS 2).signedV d = z at *
    go_wp2_with fail
    refine HC1.out.mono ?_
    rintro e w2 ⟨rfl, hr2, hk2⟩
    have HX2 := Lib.hid (HX1.out.keeps hk2 (by simp; omega))
    have HK2 : Hid (Keeps [b, w.heap.size] W0 w2) := HK1.out.trans (hk2.mono (by simp))
    have HR2 := Lib.hid hr2
    clear hr2 hk2
    have c0 := HX2.out.c 0 (.int .i64 0) rfl
    have c1 := HX2.out.c 1 (.int .i64 0) rfl
    have c2 := HX2.out.c 2 (.int .i64 0) rfl
    have c3 := HX2.out.c 3 (.slice none 0 0) rfl
    have c4 := HX2.out.c 4 (.int .i64 0) rfl
    have c5 := HX2.out.c 5 (.int .i64 0) rfl
    have c6 := HX2.out.c 6 (.int .i64 0) rfl
    have c7 := HX2.out.c 7 (.slice none 0 0) rfl
    have c8 := HX2.out.c 8 (.slice none 0 0) rfl
    have f0 := HX2.out.f 0 (by decide)
    have f1 := HX2.out.f 1 (by decide)
    have f2 := HX2.out.f 2 (by decide)
    have f3 := HX2.out.f 3 (by decide)
    have f4 := HX2.out.f 4 (by decide)
    have f5 := HX2.out.f 5 (by decide)
    have f6 := HX2.out.f 6 (by decide)
    have f7 := HX2.out.f 7 (by decide)
    have f8 := HX2.out.f 8 (by decide)
    go_wp2
    obtain ⟨hX8, hk8⟩ := HX2.out.set9 (.int .i64 1) (.int .i64 z) (.int .i64 0) (.slice none 0 0) (.int .i64 0) (.int .i64 0) (.int .i64 0) (.slice none 0 0) (.slice none 0 0)
    have HK8 := Lib.hid (HKP.out _ (HK2.out.trans (hk8.mono (by simp))))
    have HR8 := Lib.hid (HR2.out.keeps hk8 (by simp; omega) (fun g off e => by have := HA.out g off e; simp; omega))
    unfold Go.Proofs.YtefbakhhlonafaaGreat.set9 at hX8 hk8 HK8 HR8
    have R0 := hX8.c 0 (.int .i64 1) rfl
    have R1 := hX8.c 1 (.int .i64 z) rfl
    have R2 := hX8.c 2 (.int .i64 0) rfl
    have R3 := hX8.c 3 (.slice none 0 0) rfl
    have R4 := hX8.c 4 (.int .i64 0) rfl
    have R5 := hX8.c 5 (.int .i64 0) rfl
    have R6 := hX8.c 6 (.int .i64 0) rfl
    have R7 := hX8.c 7 (.slice none 0 0) rfl
    have R8 := hX8.c 8 (.slice none 0 0) rfl
    refine bodyPost_ret (v := .agg #[.int .i64 1, .int .i64 z, .int .i64 0, .slice none 0 0, .int .i64 0, .int .i64 0, .int .i64 0, .slice none 0 0, .slice none 0 0]) (by simp [results, Tryz.results47, go_sem, R0, R1, R2, R3, R4, R5, R6, R7, R8]) rfl ?_
    exact ⟨none, none, none, 0, 0, 0, rfl, HR8.out, ⟨nil_ints _ _, nil_ints _ _, nil_ints _ _, Nat.zero_le _, Nat.zero_le _, Nat.zero_le _, Nat.le_refl _, Nat.le_refl _, Nat.le_refl _⟩, fresh_none _, fresh_none _, fresh_none _, HK8.out⟩
  · have hR : R = (s.takeS 2).normB n := by rw [HE.out]; simp
    subst hR
    clear HE HTS HTE
    go_enter Tryz.func47, Tryz.ntmps47
    go_wp2_with fail
    rw [← HW0.out]
    refine HT1.out.mono ?_
    rintro e w1 ⟨rfl, hr1, hk1⟩
    have HX1 := Lib.hid (HB0.out.keeps hk1 (by simp; omega))
    have HK1 : Hid (Keeps [b, w.heap.size] W0 w1) := hk1.mono (by simp)
    have HC1 := HTN w1 hr1 (HAO.out w1 HK1.out.size)
    clear hr1 hk1
    generalize (s.takeS 2).normB n = R at *
    obtain ⟨R1, kind, value, shift, index, lag, gain, part, rice, data⟩ := R
    go_wp2_with fail
    refine HC1.out.mono ?_
    rintro e w2 ⟨ia, ka, da, ic, kc, dc, he, hr2, hI2, hfi, hfk, hfd, hk2⟩
    unfold blkV at he
    dsimp only at he
    have HIB := Lib.hid hI2
    have HI2 := Lib.hid hI2.i
    have HQ2 := Lib.hid hI2.r
    have HD2 := Lib.hid hI2.d
    have HX2 := Lib.hid (HX1.out.keeps hk2 (by simp; omega))
    have HK2 : Hid (Keeps [b, w.heap.size] W0 w2) := HK1.out.trans (hk2.mono (by simp))
    have HR2 := Lib.hid hr2
    have HFI : Hid (FreshOf W0 ia) := fun g off e => Nat.le_trans HK1.out.size (hfi g off e)
    have HFK : Hid (FreshOf W0 ka) := fun g off e => Nat.le_trans HK1.out.size (hfk g off e)
    have HFD : Hid (FreshOf W0 da) := fun g off e => Nat.le_trans HK1.out.size (hfd g off e)
    dsimp only at HI2 HQ2 HD2 HR2
    clear hr2 hk2 hI2 hfi hfk hfd HC1
    generalize hie : index.length = il at *
    generalize hqe : rice.length = rl at *
    generalize hde : data.length = dl at *
    have HIE := Lib.hid hie
    have HQE := Lib.hid hqe
    have HDE := Lib.hid hde
    clear hie hqe hde
    subst he
    have c0 := HX2.out.c 0 (.int .i64 0) rfl
    have c1 := HX2.out.c 1 (.int .i64 0) rfl
    have c2 := HX2.out.c 2 (.int .i64 0) rfl
    have c3 := HX2.out.c 3 (.slice none 0 0) rfl
    have c4 := HX2.out.c 4 (.int .i64 0) rfl
    have c5 := HX2.out.c 5 (.int .i64 0) rfl
    have c6 := HX2.out.c 6 (.int .i64 0) rfl
    have c7 := HX2.out.c 7 (.slice none 0 0) rfl
    have c8 := HX2.out.c 8 (.slice none 0 0) rfl
    have f0 := HX2.out.f 0 (by decide)
    have f1 := HX2.out.f 1 (by decide)
    have f2 := HX2.out.f 2 (by decide)
    have f3 := HX2.out.f 3 (by decide)
    have f4 := HX2.out.f 4 (by decide)
    have f5 := HX2.out.f 5 (by decide)
    have f6 := HX2.out.f 6 (by decide)
    have f7 := HX2.out.f 7 (by decide)
    have f8 := HX2.out.f 8 (by decide)
    go_wp2
    obtain ⟨hX8, hk8⟩ := HX2.out.set9 (.int .i64 kind) (.int .i64 value) (.int .i64 shift) (.slice ia il ic) (.int .i64 lag) (.int .i64 gain) (.int .i64 part) (.slice ka rl kc) (.slice da dl dc)
    have HK8 := Lib.hid (HKP.out _ (HK2.out.trans (hk8.mono (by simp))))
    have HL0 := Lib.hid (HI2.out.far HFI.out hk8 (fun x hx => HBS.out x (by simp at hx ⊢; exact .inr hx)))
    have HL1 := Lib.hid (HQ2.out.far HFK.out hk8 (fun x hx => HBS.out x (by simp at hx ⊢; exact .inr hx)))
    have HL2 := Lib.hid (HD2.out.far HFD.out hk8 (fun x hx => HBS.out x (by simp at hx ⊢; exact .inr hx)))
    have HR8 := Lib.hid (HR2.out.keeps hk8 (by simp; omega) (fun g off e => by have := HA.out g off e; simp; omega))
    unfold Go.Proofs.YtefbakhhlonafaaGreat.set9 at hX8 hk8 HK8 HR8 HL0 HL1 HL2
    have R0 := hX8.c 0 (.int .i64 kind) rfl
    have R1 := hX8.c 1 (.int .i64 value) rfl
    have R2 := hX8.c 2 (.int .i64 shift) rfl
    have R3 := hX8.c 3 (.slice ia il ic) rfl
    have R4 := hX8.c 4 (.int .i64 lag) rfl
    have R5 := hX8.c 5 (.int .i64 gain) rfl
    have R6 := hX8.c 6 (.int .i64 part) rfl
    have R7 := hX8.c 7 (.slice ka rl kc) rfl
    have R8 := hX8.c 8 (.slice da dl dc) rfl
    refine bodyPost_ret (v := .agg #[.int .i64 kind, .int .i64 value, .int .i64 shift, .slice ia il ic, .int .i64 lag, .int .i64 gain, .int .i64 part, .slice ka rl kc, .slice da dl dc]) (by simp [results, Tryz.results47, go_sem, R0, R1, R2, R3, R4, R5, R6, R7, R8]) rfl ?_
    have hsz : w.heap.size ≤ W0.heap.size := by omega
    exact ⟨ia, ka, da, ic, kc, dc, by unfold blkV; dsimp only; rw [HIE.out, HQE.out, HDE.out], HR8.out, ⟨HL0.out, HL1.out, HL2.out, HIB.out.il, HIB.out.rl, HIB.out.dl, HIB.out.ic, HIB.out.rc, HIB.out.dc⟩, fun g off e => Nat.le_trans hsz (HFI.out g off e), fun g off e => Nat.le_trans hsz (HFK.out g off e), fun g off e => Nat.le_trans hsz (HFD.out g off e), HK8.out⟩
  · have hR : R = (((s.takeS 2).intsS d n).1, ⟨3, 0, 0, [], 0, 0, 0, [], ((s.takeS 2).intsS d n).2⟩) := by rw [HE.out]; simp
    subst hR
    clear HE HTS HTN
    go_enter Tryz.func47, Tryz.ntmps47
    go_wp2_with fail
    rw [← HW0.out]
    refine HT1.out.mono ?_
    rintro e w1 ⟨rfl, hr1, hk1⟩
    have HX1 := Lib.hid (HB0.out.keeps hk1 (by simp; omega))
    have HK1 : Hid (Keeps [b, w.heap.size] W0 w1) := hk1.mono (by simp)
    have HC1 := HTE w1 hr1 (HAO.out w1 HK1.out.size)
    have hll := intsS_length d n (s.takeS 2)
    clear hr1 hk1
    generalize (s.takeS 2).intsS d n = R at *
    obtain ⟨R1, data⟩ := R
    dsimp only at hll ⊢
    go_wp2_with fail
    refine HC1.out.mono ?_
    rintro e w2 ⟨da, dc, he, hr2, hi2, hf2, hc2, hk2⟩
    dsimp only at he hc2
    rw [hll] at he hc2
    subst he
    have HX2 := Lib.hid (HX1.out.keeps hk2 (by simp; omega))
    have HK2 : Hid (Keeps [b, w.heap.size] W0 w2) := HK1.out.trans (hk2.mono (by simp))
    have HR2 := Lib.hid hr2
    have HD2 := Lib.hid hi2
    have HC2 := Lib.hid hc2
    have HFD : Hid (FreshOf W0 da) := fun g off e => Nat.le_trans HK1.out.size (hf2 g off e)
    have HLL := Lib.hid hll
    dsimp only at HR2 HD2
    clear hr2 hk2 hi2 hf2 hc2 hll HC1
    have c0 := HX2.out.c 0 (.int .i64 0) rfl
    have c1 := HX2.out.c 1 (.int .i64 0) rfl
    have c2 := HX2.out.c 2 (.int .i64 0) rfl
    have c3 := HX2.out.c 3 (.slice none 0 0) rfl
    have c4 := HX2.out.c 4 (.int .i64 0) rfl
    have c5 := HX2.out.c 5 (.int .i64 0) rfl
    have c6 := HX2.out.c 6 (.int .i64 0) rfl
    have c7 := HX2.out.c 7 (.slice none 0 0) rfl
    have c8 := HX2.out.c 8 (.slice none 0 0) rfl
    have f0 := HX2.out.f 0 (by decide)
    have f1 := HX2.out.f 1 (by decide)
    have f2 := HX2.out.f 2 (by decide)
    have f3 := HX2.out.f 3 (by decide)
    have f4 := HX2.out.f 4 (by decide)
    have f5 := HX2.out.f 5 (by decide)
    have f6 := HX2.out.f 6 (by decide)
    have f7 := HX2.out.f 7 (by decide)
    have f8 := HX2.out.f 8 (by decide)
    go_wp2
    obtain ⟨hX8, hk8⟩ := HX2.out.set9 (.int .i64 3) (.int .i64 0) (.int .i64 0) (.slice none 0 0) (.int .i64 0) (.int .i64 0) (.int .i64 0) (.slice none 0 0) (.slice da n dc)
    have HK8 := Lib.hid (HKP.out _ (HK2.out.trans (hk8.mono (by simp))))
    have HL0 := Lib.hid (HD2.out.far HFD.out hk8 (fun x hx => HBS.out x (by simp at hx ⊢; exact .inr hx)))
    have HR8 := Lib.hid (HR2.out.keeps hk8 (by simp; omega) (fun g off e => by have := HA.out g off e; simp; omega))
    unfold Go.Proofs.YtefbakhhlonafaaGreat.set9 at hX8 hk8 HK8 HR8 HL0
    have R0 := hX8.c 0 (.int .i64 3) rfl
    have R1 := hX8.c 1 (.int .i64 0) rfl
    have R2 := hX8.c 2 (.int .i64 0) rfl
    have R3 := hX8.c 3 (.slice none 0 0) rfl
    have R4 := hX8.c 4 (.int .i64 0) rfl
    have R5 := hX8.c 5 (.int .i64 0) rfl
    have R6 := hX8.c 6 (.int .i64 0) rfl
    have R7 := hX8.c 7 (.slice none 0 0) rfl
    have R8 := hX8.c 8 (.slice da n dc) rfl
    refine bodyPost_ret (v := .agg #[.int .i64 3, .int .i64 0, .int .i64 0, .slice none 0 0, .int .i64 0, .int .i64 0, .int .i64 0, .slice none 0 0, .slice da n dc]) (by simp [results, Tryz.results47, go_sem, R0, R1, R2, R3, R4, R5, R6, R7, R8]) rfl ?_
    have hsz : w.heap.size ≤ W0.heap.size := by omega
    exact ⟨none, none, da, 0, 0, dc, by unfold blkV; dsimp only; rw [HLL.out]; rfl, HR8.out, ⟨nil_ints _ _, nil_ints _ _, HL0.out, Nat.zero_le _, Nat.zero_le _, by dsimp only; rw [HLL.out]; omega, Nat.le_refl _, Nat.le_refl _, by dsimp only; rw [HLL.out]; exact HC2.out⟩, fresh_none _, fresh_none _, fun g off e => Nat.le_trans hsz (HFD.out g off e), HK8.out⟩
end Go.Proofs.YtefbakhhlonafaaGreat
