import Derived.Test.YtbbcemgcanclnaaWefC8
namespace Go.Proofs.Ytbbcemgcanclnaa
open Go.RowKit Go.Proofs Go.Proofs.PipeM Go.Proofs.PipeA Go.Proofs.WefM
set_option maxRecDepth 100000

set_option maxHeartbeats 1600000 in
theorem cBestW' (ao bo : Option Addr) (cap cap2 : Nat) (own m : List Int) (w : World) (hl : own.length ≤ 1000) (hi : IntsAt w ao own) (hj : IntsAt w bo m) (hc : codeRest ⟨false, 0, 0, 0, 0⟩ own m = 0) :
    Calls Try.prog 20 #[.slice ao own.length cap, .slice bo m.length cap2] w fun e w' => e = .returned (.agg #[.int .i64 0, .int .i64 (bestTo own m 15 : Nat), .int .i64 0]) ∧ Below w.heap.size w w' := by
  have hz := codeRest_zero hc
  have hb1 := box_below w (.cells #[.int .i64 0, .int .i64 0, .int .i64 0] 22)
  have hB1 := box3_new w 0 0 0 22
  have hz1 : (w.alloc (.cells #[.int .i64 0, .int .i64 0, .int .i64 0] 22)).heap.size = w.heap.size + 1 := by simp
  obtain ⟨W1, hW1⟩ : ∃ W1, W1 = w.alloc (.cells #[.int .i64 0, .int .i64 0, .int .i64 0] 22) := ⟨_, rfl⟩
  rw [← hW1] at hb1 hB1 hz1
  have hb2 := box_below W1 (.cells #[.int .i64 0, .int .i64 0, .int .i64 0] 57)
  have hB2 := box3_new W1 0 0 0 57
  have hB12 := hB1.below hb2
  have hbw := hb1.trans (hb2.mono (by omega))
  rw [hz1] at hB2
  have HIW : Hid (∀ W, Below w.heap.size w W → IntsAt W ao own) := fun W hb => hi.below hb
  have HJW : Hid (∀ W, Below w.heap.size w W → IntsAt W bo m) := fun W hb => hj.below hb
  have HCK := Lib.hid (cCheckW ao bo cap cap2 own m W1 (by omega) (by omega) (HIW.out _ hb1) (HJW.out _ hb1))
  rw [if_pos hz.2.1, hz.2.2.1, hz.2.2.2, if_pos (by decide)] at HCK
  have HLF : Hid (∀ (g : Nat) (gi : Int) W, gi = (g : Int) → g ≤ 15 → Below w.heap.size w W → Calls Try.prog 38 #[.slice ao own.length cap, .slice bo m.length cap2, .int .i64 gi] W fun e w' => e = .returned (.int .i64 (sumG own m g : Nat)) ∧ W = w') := fun g gi W h1 h2 hb =>
    cLeftW ao bo cap cap2 own m g gi W h1 h2 hl hz.2.1 hz.2.2.1 hz.2.2.2 (HIW.out W hb) (HJW.out W hb)
  have HL0 := Lib.hid (HLF.out 0 0 W1 rfl (by decide) hb1)
  have HST : Hid (∀ c, bestTo own m (c + 1) = if sumG own m (c + 1) < sumG own m (bestTo own m c) then c + 1 else bestTo own m c) := fun c => rfl
  obtain ⟨W2, hW2⟩ : ∃ W2, W1.alloc (.cells #[.int .i64 0, .int .i64 0, .int .i64 0] 57) = W2 := ⟨_, rfl⟩
  rw [hW2] at hB2 hB12 hbw
  have HB1 := Lib.hid hB12
  have HB2 := Lib.hid hB2
  have HBW := Lib.hid hbw
  have HW1 := Lib.hid hW1
  generalize hml : m.length = ml at *
  obtain ⟨XB, hXB⟩ : ∃ XB, W1.heap.size = XB := ⟨_, rfl⟩
  have HXB : Hid (XB = w.heap.size + 1) := by show _ = _; omega
  have c0 := hB2.c0
  have c1 := hB2.c1
  have c2 := hB2.c2
  have f0 := hB2.f0
  have f1 := hB2.f1
  have f2 := hB2.f2
  rw [← HXB.out] at c0 c1 c2 f0 f1 f2
  clear hi hj hc hz hb1 hb2 hB1 hB2 hB12 hbw hW1 hml hz1
  go_enter Try.func20, Try.ntmps20
  go_wp2_with fail
  rw [← HW1.out]
  refine HCK.out.mono ?_
  rintro e w1 ⟨rfl, rfl⟩
  go_wp2_with fail
  refine HL0.out.mono ?_
  rintro e w1 ⟨rfl, rfl⟩
  go_wp2
  obtain ⟨hs0, hk0⟩ := HB2.out.set 0 0 0
  rw [← HXB.out] at hs0 hk0
  have HS0 : Hid (Box3 (((W2.setCell ⟨XB, 0, none⟩ (.int .i64 0)).setCell ⟨XB, 1, none⟩ (.int .i64 0)).setCell ⟨XB, 2, none⟩ (.int .i64 0)) XB 0 0 0) := hs0
  have HK0 : Hid (Box3 (((W2.setCell ⟨XB, 0, none⟩ (.int .i64 0)).setCell ⟨XB, 1, none⟩ (.int .i64 0)).setCell ⟨XB, 2, none⟩ (.int .i64 0)) w.heap.size 0 0 0) := HB1.out.keeps hk0 (by have := HXB.out; simp; omega)
  have HQ0 : Hid (Below w.heap.size w (((W2.setCell ⟨XB, 0, none⟩ (.int .i64 0)).setCell ⟨XB, 1, none⟩ (.int .i64 0)).setCell ⟨XB, 2, none⟩ (.int .i64 0))) := HBW.out.trans (hk0.below HBW.out.size (by have := HXB.out; intro x hx; simp at hx; omega))
  clear hs0 hk0 c0 c1 c2 f0 f1 f2 hXB hW2 HB1 HB2 HBW HCK HL0
  generalize ((W2.setCell ⟨XB, 0, none⟩ (.int .i64 0)).setCell ⟨XB, 1, none⟩ (.int .i64 0)).setCell ⟨XB, 2, none⟩ (.int .i64 0) = W3 at *
  go_loopg [6, 7, 8] 15 (fun gk s g q wr => ∃ c : Nat, c ≤ 15 ∧ gk + c = 15 ∧ g = .int .i64 ((c + 1 : Nat) : Int) ∧ s = .int .i64 (sumG own m (bestTo own m c) : Nat) ∧ Hid (Box3 wr XB 0 (bestTo own m c : Nat) 0) ∧ Hid (Box3 wr w.heap.size 0 0 0) ∧ Hid (Below w.heap.size w wr))
  case atStart => exact ⟨0, by omega, by omega, rfl, rfl, HS0, HK0, HQ0⟩
  case round =>
    obtain ⟨c, hc, hgk, rfl, rfl, HX, HY, HB⟩ := hrel
    have HGK := Lib.hid hgk
    clear hgk
    by_cases hlt : c < 15
    · have t1 : decide (((c + 1 : Nat) : Int) ≤ 15) = true := decide_eq_true (by omega)
      obtain ⟨d, hd⟩ : ∃ d, d = c + 1 := ⟨_, rfl⟩
      have hd1 : 1 ≤ d := by omega
      have hd2 : d ≤ 15 := by omega
      have HSTc := Lib.hid (HST.out c)
      have HD := Lib.hid hd
      rw [← hd] at t1 HSTc ⊢
      have HL1 := Lib.hid (HLF.out d d wr rfl hd2 HB.out)
      clear hd
      go_wp2_with fail
      refine HL1.out.mono ?_
      rintro e w3 ⟨rfl, rfl⟩
      by_cases hlss : sumG own m d < sumG own m (bestTo own m c)
      · have u1 : decide ((sumG own m d : Int) < (sumG own m (bestTo own m c) : Int)) = true := decide_eq_true (by omega)
        have u1n : decide (sumG own m d < sumG own m (bestTo own m c)) = true := decide_eq_true hlss
        have HSTd : Hid (bestTo own m d = d) := by show _ = _; rw [HSTc.out, if_pos hlss]
        obtain ⟨hs1, hk1⟩ := HX.out.set 0 d 0
        have HXs : Hid (Box3 (set3 wr XB 0 d 0) XB 0 (bestTo own m d : Nat) 0) := by show Box3 _ _ _ _ _; rw [HSTd.out]; exact hs1
        have HYs := Lib.hid (HY.out.keeps hk1 (by have := HXB.out; simp; omega))
        have HBs := Lib.hid (HB.out.trans (hk1.below HB.out.size (by have := HXB.out; intro x hx; simp at hx; omega)))
        have c0 := HX.out.c0
        have c1 := HX.out.c1
        have c2 := HX.out.c2
        have f0 := HX.out.f0
        have f1 := HX.out.f1
        have f2 := HX.out.f2
        unfold set3 at HXs HYs HBs
        clear hs1 hk1 hlss
        go_wp2
        go_roundg (gk - 1)
        case rel => exact ⟨d, by omega, by have := HGK.out; have := HD.out; omega, by go_num, by rw [HSTd.out], HXs, HYs, HBs⟩
        case measure => have := HGK.out; omega
      · have u1 : decide ((sumG own m d : Int) < (sumG own m (bestTo own m c) : Int)) = false := decide_eq_false (by omega)
        have u1n : decide (sumG own m d < sumG own m (bestTo own m c)) = false := decide_eq_false hlss
        have HSTd : Hid (bestTo own m d = bestTo own m c) := by show _ = _; rw [HSTc.out, if_neg hlss]
        have HXs : Hid (Box3 wr XB 0 (bestTo own m d : Nat) 0) := by show Box3 _ _ _ _ _; rw [HSTd.out]; exact HX.out
        clear hlss
        go_wp2
        go_roundg (gk - 1)
        case rel => exact ⟨d, by omega, by have := HGK.out; have := HD.out; omega, by go_num, by rw [HSTd.out], HXs, HY, HB⟩
        case measure => have := HGK.out; omega
    · obtain rfl : c = 15 := by omega
      have t1 : decide (((15 + 1 : Nat) : Int) ≤ 15) = false := by decide
      generalize hge : bestTo own m 15 = g at *
      have HG := Lib.hid hge
      clear hge
      have c0 := HX.out.c0
      have c1 := HX.out.c1
      have c2 := HX.out.c2
      have d0 := HY.out.c0
      have d1 := HY.out.c1
      have d2 := HY.out.c2
      have f0 := HY.out.f0
      have f1 := HY.out.f1
      have f2 := HY.out.f2
      go_wp2
      obtain ⟨hs1, hk1⟩ := HY.out.set 0 (g : Nat) 0
      unfold set3 at hs1 hk1
      have R0 := hs1.c0
      have R1 := hs1.c1
      have R2 := hs1.c2
      have HBs := Lib.hid (HB.out.trans (hk1.below HB.out.size (by simp)))
      refine bodyPost_ret (v := .agg #[.int .i64 0, .int .i64 (g : Nat), .int .i64 0]) (by simp [results, Try.results20, go_sem, R0, R1, R2]) rfl ?_
      exact ⟨by rw [HG.out], HBs.out⟩
end Go.Proofs.Ytbbcemgcanclnaa
