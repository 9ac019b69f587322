import Derived.Test.YtbbcemgcanclnaaWefC2
namespace Go.Proofs.Ytbbcemgcanclnaa
open Go.RowKit Go.Proofs Go.Proofs.PipeM Go.Proofs.PipeA Go.Proofs.WefM
set_option maxRecDepth 100000

theorem goodW_some (x : Wv) (ch : Int) (hs : x.some = true) : goodW x ch = (decide (0 ≤ x.master) && (decide (x.master < min ch 8) && (!noneG x && (gIn x.g0 && (gIn x.g1 && gIn x.g2))))) := by
  unfold goodW
  rw [hs, if_pos rfl]
  have h : decide (x.master < min ch 8) = (decide (x.master < ch) && decide (x.master < 8)) := by
    rw [Bool.eq_iff_iff]
    simp only [Bool.and_eq_true, decide_eq_true_eq]
    omega
  rw [h]
  generalize gIn x.g0 = a
  generalize gIn x.g1 = b
  generalize gIn x.g2 = c
  generalize noneG x = d
  generalize decide (0 ≤ x.master) = e
  generalize decide (x.master < ch) = f
  generalize decide (x.master < 8) = g
  revert a b c d e f g
  decide
theorem goodW_none (x : Wv) (ch : Int) (hs : x.some = false) : goodW x ch = goodW x 8 := by
  unfold goodW
  rw [hs]
  rfl

set_option maxHeartbeats 1600000 in
theorem cGoodW (x : Wv) (ch : Int) (w : World) :
    Calls Try.prog 23 #[wvV x, .int .i64 ch] w fun e w' => e = .returned (.bool (goodW x ch)) ∧ Below w.heap.size w w' := by
  have HB := Lib.hid (box_below w (.cells #[.bool x.some, .int .i64 x.master, .int .i64 x.g0, .int .i64 x.g1, .int .i64 x.g2] 24))
  have hn0 := heap_alloc_new w (.cells #[.bool x.some, .int .i64 x.master, .int .i64 x.g0, .int .i64 x.g1, .int .i64 x.g2] 24)
  have k0 := cell_of_heap hn0 0
  have k1 := cell_of_heap hn0 1
  have k2 := cell_of_heap hn0 2
  have k3 := cell_of_heap hn0 3
  have k4 := cell_of_heap hn0 4
  simp only [List.getElem?_toArray, List.getElem?_cons_zero, List.getElem?_cons_succ] at k0 k1 k2 k3 k4
  obtain ⟨W0, hW0⟩ : ∃ W0, W0 = w.alloc (.cells #[.bool x.some, .int .i64 x.master, .int .i64 x.g0, .int .i64 x.g1, .int .i64 x.g2] 24) := ⟨_, rfl⟩
  rw [← hW0] at k0 k1 k2 k3 k4 HB
  have HAG := Lib.hid (cAreGood x W0)
  have HW0 := Lib.hid hW0
  unfold wvV
  unfold gnV at HAG
  cases hs : x.some with
  | false =>
    have hq : ∀ W, (binOp .eql 24 (.agg #[.bool false, .int .i64 x.master, .int .i64 x.g0, .int .i64 x.g1, .int .i64 x.g2]) (.agg #[.bool false, .int .i64 0, .int .i64 0, .int .i64 0, .int .i64 0])).run Try.prog W = .ok (.bool (goodW x 8)) W := fun W => bin_weave0 x W hs
    have hg : ∀ (W : World) (y z : Operand), (eqGuard .eql 24 y z (.agg #[.bool false, .int .i64 x.master, .int .i64 x.g0, .int .i64 x.g1, .int .i64 x.g2]) (.agg #[.bool false, .int .i64 0, .int .i64 0, .int .i64 0, .int .i64 0])).run Try.prog W = .ok () W := fun W y z => guard_weave W y z _ _
    rw [goodW_none x ch hs]
    rw [hs] at k0 HW0
    generalize goodW x 8 = d at *
    clear hn0 hW0 HAG hs
    go_enter Try.func23, Try.ntmps23
    go_wp2_with fail
    rw [← HW0.out]
    go_wp2
    go_ret
    exact ⟨rfl, HB.out⟩
  | true =>
    rw [goodW_some x ch hs]
    rw [hs] at k0 HW0
    generalize (!noneG x && (gIn x.g0 && (gIn x.g1 && gIn x.g2))) = d at *
    obtain ⟨mn, hmn⟩ : ∃ mn, mn = min ch 8 := ⟨_, rfl⟩
    have hmc : (ch < 8 ∧ mn = ch) ∨ (¬ ch < 8 ∧ mn = 8) := by omega
    rw [← hmn]
    have HMC := Lib.hid hmc
    clear hn0 hW0 hmn hmc hs
    by_cases h0 : 0 ≤ x.master
    · have t1 : decide (0 ≤ x.master) = true := decide_eq_true h0
      have t1b : decide (x.master ≥ 0) = true := decide_eq_true h0
      clear h0
      go_enter Try.func23, Try.ntmps23
      go_wp2_with fail
      all_goals rw [← HW0.out]
      all_goals have hmc := HMC.out
      all_goals first
        | (have hy : decide (x.master < mn) = true := decide_eq_true (by omega)
           have HY := Lib.hid hy
           clear hmc hy
           refine HAG.out.mono ?_
           rintro e w1 ⟨rfl, hb1⟩
           have HB1 := Lib.hid (HB.out.trans (hb1.mono HB.out.size))
           clear hb1
           go_wp2
           go_ret
           exact ⟨by rw [HY.out, t1]; rfl, HB1.out⟩)
        | (have hy : decide (x.master < mn) = false := decide_eq_false (by omega)
           have HY := Lib.hid hy
           clear hmc hy
           go_ret
           exact ⟨by rw [HY.out]; rfl, HB.out⟩)
    · have t1 : decide (0 ≤ x.master) = false := decide_eq_false h0
      rw [t1]
      clear HAG h0
      go_enter Try.func23, Try.ntmps23
      go_wp2_with fail
      rw [← HW0.out]
      go_wp2
      go_ret
      exact ⟨rfl, HB.out⟩

set_option maxHeartbeats 800000 in
theorem cCheckW (ao bo : Option Addr) (cap cap2 : Nat) (own m : List Int) (w : World) (hl : own.length ≤ 9223372036854775807) (hl2 : m.length ≤ 9223372036854775807) (hi : IntsAt w ao own) (hj : IntsAt w bo m) :
    Calls Try.prog 24 #[.slice ao own.length cap, .slice bo m.length cap2] w fun e w' => e = .returned (.int .i64 (if own.length = m.length then (if own.all inS && m.all inS then 0 else 9) else 8)) ∧ w = w' := by
  have HO := Lib.hid (cAnyNoSample ao cap own w hl hi)
  have HM := Lib.hid (cAnyNoSample bo cap2 m w hl2 hj)
  generalize own.all inS = a at *
  generalize m.all inS = c at *
  clear hi hj
  by_cases hlen : own.length = m.length
  · have t1 : ((own.length : Int) != (m.length : Int)) = false := by rw [bne_eq_false_iff_eq]; omega
    have t2 : (own.length != m.length) = false := by rw [bne_eq_false_iff_eq]; exact hlen
    rw [if_pos hlen]
    generalize m.length = ml at *
    generalize own.length = ol at *
    clear hlen
    cases a with
    | false =>
      clear HM
      go_enter Try.func24, Try.ntmps24
      go_wp2_with fail
      refine HO.out.mono ?_
      rintro e w1 ⟨rfl, rfl⟩
      go_wp2
      go_ret
      exact ⟨rfl, rfl⟩
    | true =>
      cases c with
      | false =>
        go_enter Try.func24, Try.ntmps24
        go_wp2_with fail
        refine HO.out.mono ?_
        rintro e w1 ⟨rfl, rfl⟩
        go_wp2_with fail
        refine HM.out.mono ?_
        rintro e w1 ⟨rfl, rfl⟩
        go_wp2
        go_ret
        exact ⟨rfl, rfl⟩
      | true =>
        go_enter Try.func24, Try.ntmps24
        go_wp2_with fail
        refine HO.out.mono ?_
        rintro e w1 ⟨rfl, rfl⟩
        go_wp2_with fail
        refine HM.out.mono ?_
        rintro e w1 ⟨rfl, rfl⟩
        go_wp2
        go_ret
        exact ⟨rfl, rfl⟩
  · have t1 : ((own.length : Int) != (m.length : Int)) = true := by rw [bne_iff_ne]; omega
    have t2 : (own.length != m.length) = true := by rw [bne_iff_ne]; exact hlen
    rw [if_neg hlen]
    generalize m.length = ml at *
    generalize own.length = ol at *
    clear hlen HM HO
    go_enter Try.func24, Try.ntmps24
    go_wp2
    go_ret
    exact ⟨rfl, rfl⟩

/-- What is wrong ahead of the channel that comes out. -/
def codeAhead (x : Wv) (n : Nat) (m : List Int) (most : Int) : Int :=
  if goodW x 8 then (if n = m.length then (if 0 ≤ most ∧ most ≤ 8388607 then (if m.all inS then 0 else 9) else 1) else 8) else 2
set_option maxHeartbeats 1600000 in
theorem cCheckBackW (x : Wv) (ao bo : Option Addr) (cap cap2 n : Nat) (m : List Int) (most : Int) (w : World) (hl2 : m.length ≤ 9223372036854775807) (hj : IntsAt w bo m) :
    Calls Try.prog 30 #[wvV x, .slice ao n cap, .slice bo m.length cap2, .int .i64 most] w fun e w' => e = .returned (.int .i64 (codeAhead x n m most)) ∧ Below w.heap.size w w' := by
  have HB := Lib.hid (box_below w (.cells #[.bool x.some, .int .i64 x.master, .int .i64 x.g0, .int .i64 x.g1, .int .i64 x.g2] 24))
  have hn0 := heap_alloc_new w (.cells #[.bool x.some, .int .i64 x.master, .int .i64 x.g0, .int .i64 x.g1, .int .i64 x.g2] 24)
  have k0 := cell_of_heap hn0 0
  have k1 := cell_of_heap hn0 1
  have k2 := cell_of_heap hn0 2
  have k3 := cell_of_heap hn0 3
  have k4 := cell_of_heap hn0 4
  simp only [List.getElem?_toArray, List.getElem?_cons_zero, List.getElem?_cons_succ] at k0 k1 k2 k3 k4
  obtain ⟨W0, hW0⟩ : ∃ W0, W0 = w.alloc (.cells #[.bool x.some, .int .i64 x.master, .int .i64 x.g0, .int .i64 x.g1, .int .i64 x.g2] 24) := ⟨_, rfl⟩
  rw [← hW0] at k0 k1 k2 k3 k4 HB
  have HG := Lib.hid (cGoodW x 8 W0)
  have HM := fun W (hb : Below W0.heap.size W0 W) => Lib.hid (cAnyNoSample bo cap2 m W hl2 ((hj.below HB.out).below hb))
  have HW0 := Lib.hid hW0
  have hcode : codeAhead x n m most = codeAhead x n m most := rfl
  unfold wvV at HG ⊢
  unfold codeAhead
  generalize goodW x 8 = g at *
  generalize m.all inS = c at *
  clear hn0 hW0 hj hcode
  cases g with
  | false =>
    clear HM
    go_enter Try.func30, Try.ntmps30
    go_wp2_with fail
    rw [← HW0.out]
    refine HG.out.mono ?_
    rintro e w1 ⟨rfl, hb1⟩
    have HB1 := Lib.hid (HB.out.trans (hb1.mono HB.out.size))
    clear hb1 k0 k1 k2 k3 k4
    go_wp2
    go_ret
    exact ⟨rfl, HB1.out⟩
  | true =>
    rw [if_pos rfl]
    by_cases hlen : n = m.length
    · have t1 : ((n : Int) != (m.length : Int)) = false := by rw [bne_eq_false_iff_eq]; omega
      have t2 : (n != m.length) = false := by rw [bne_eq_false_iff_eq]; exact hlen
      rw [if_pos hlen]
      generalize m.length = ml at *
      clear hlen
      by_cases h1 : most < 0
      · have t3 : decide (most < 0) = true := decide_eq_true h1
        rw [if_neg (by omega)]
        clear HM h1
        go_enter Try.func30, Try.ntmps30
        go_wp2_with fail
        rw [← HW0.out]
        refine HG.out.mono ?_
        rintro e w1 ⟨rfl, hb1⟩
        have HB1 := Lib.hid (HB.out.trans (hb1.mono HB.out.size))
        clear hb1 k0 k1 k2 k3 k4
        go_wp2
        go_ret
        exact ⟨rfl, HB1.out⟩
      · have t3 : decide (most < 0) = false := decide_eq_false h1
        by_cases h2 : 8388607 < most
        · have t4 : decide (8388607 < most) = true := decide_eq_true h2
          rw [if_neg (by omega)]
          clear HM h1 h2
          go_enter Try.func30, Try.ntmps30
          go_wp2_with fail
          rw [← HW0.out]
          refine HG.out.mono ?_
          rintro e w1 ⟨rfl, hb1⟩
          have HB1 := Lib.hid (HB.out.trans (hb1.mono HB.out.size))
          clear hb1 k0 k1 k2 k3 k4
          go_wp2
          go_ret
          exact ⟨rfl, HB1.out⟩
        · have t4 : decide (8388607 < most) = false := decide_eq_false h2
          rw [if_pos (by omega)]
          clear h1 h2
          cases c
          all_goals
            go_enter Try.func30, Try.ntmps30
            go_wp2_with fail
            rw [← HW0.out]
            refine HG.out.mono ?_
            rintro e w1 ⟨rfl, hb1⟩
            have HB1 := Lib.hid (HB.out.trans (hb1.mono HB.out.size))
            have HM1 := HM w1 hb1
            clear hb1 k0 k1 k2 k3 k4 HM
            go_wp2_with fail
            refine HM1.out.mono ?_
            rintro e w2 ⟨rfl, rfl⟩
            go_wp2
            go_ret
            exact ⟨rfl, HB1.out⟩
    · have t1 : ((n : Int) != (m.length : Int)) = true := by rw [bne_iff_ne]; omega
      have t2 : (n != m.length) = true := by rw [bne_iff_ne]; exact hlen
      rw [if_neg hlen]
      generalize m.length = ml at *
      clear hlen HM
      go_enter Try.func30, Try.ntmps30
      go_wp2_with fail
      rw [← HW0.out]
      refine HG.out.mono ?_
      rintro e w1 ⟨rfl, hb1⟩
      have HB1 := Lib.hid (HB.out.trans (hb1.mono HB.out.size))
      clear hb1 k0 k1 k2 k3 k4
      go_wp2
      go_ret
      exact ⟨rfl, HB1.out⟩
end Go.Proofs.Ytbbcemgcanclnaa
