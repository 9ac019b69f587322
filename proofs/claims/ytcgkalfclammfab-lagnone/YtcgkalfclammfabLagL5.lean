import Derived.Test.YtcgkalfclammfabLagL4
namespace Go.Proofs.Ytcgkalfclammfab
open Go.RowKit Go.Proofs Go.Proofs.PipeA Go.Proofs.LagM
set_option maxRecDepth 100000

set_option maxHeartbeats 3200000 in
theorem lagNone (ao : Option Addr) (cap : Nat) (l : List Int) (w : World) (hll : l.length ≤ 9223372036854775807) (hcap : l.length ≤ cap) (hi : IntsAt w ao l) :
    Calls Try.prog 6 #[.slice ao l.length cap] w fun e w' => e = .returned (.bool true) ∧ Below w.heap.size w w' := by
  have HA := fun W => Lib.hid (awake8 W)
  have HI := Lib.hid hi
  have HW := fun W h => Lib.hid (rWrong 0 0 ao cap l W hll h)
  clear hi
  by_cases hlen : l.length ≤ 24
  · rcases code_zero_or 0 0 l with hc | hne
    · have hal := (codeT_zero hc).2
      have HAL := Lib.hid hal
      have HC0 := Lib.hid hc
      have HOF := fun W h => Lib.hid (cOff 0 0 ao cap l W (by omega) h)
      rw [hc, show (0 : Int).toNat = 0 from rfl, off_none] at HOF
      rw [hc] at HW
      clear hc
      have HCB := fun W h => Lib.hid (cBest ao cap l W hlen hcap HAL.out h)
      have hok := bestA_ok l (l.length - 1)
      have hle := bestA_le l (l.length - 1)
      rw [cost_none] at hle
      generalize bestA l (l.length - 1) = u at *
      obtain ⟨p, q⟩ := u
      have hgt : goodT (p : Int) (q : Int) = true := by
        rcases hok with ⟨h1, h2⟩ | h
        · simp only at h1 h2
          subst h1 h2
          rfl
        · exact goodT_nat (by omega) (by omega) (by omega) (by omega)
      have hq15 : (0 : Int) ≤ (q : Int) ∧ (q : Int) ≤ 15 := by
        rcases hok with h | h
        · simp only at h; omega
        · simp only at h; omega
      unfold costT at hle
      simp only at hle
      have HGD := fun W => Lib.hid (cGood p q W)
      have HOB := fun W h => Lib.hid (cOff p q ao cap l W (by omega) h)
      rw [codeT_of hgt hal, Int.toNat_natCast] at HOB
      rw [hgt] at HGD
      have hol := offL_length p (q : Int) l
      have HS1 : Hid (∀ a' c' W, IntsAt W a' (offL p (q : Int) l) → Calls Try.prog 19 #[.slice a' l.length c'] W fun e w' => e = .returned (.int .i64 (sumN (offL p (q : Int) l) : Nat)) ∧ W = w') := fun a' c' W hW => by
        have := rSum a' c' (offL p (q : Int) l) W (by rw [hol]; omega) (off_small hq15 hal) hW
        rw [hol] at this
        exact this
      have HS2 := fun W h => Lib.hid (rSum ao cap l W (by omega) (list_small hal) h)
      have HOL := Lib.hid hol
      generalize sumN (offL p (q : Int) l) = s1 at *
      generalize sumN l = s2 at *
      unfold termV at HCB HGD HOB HOF
      simp only at HCB
      clear hal hok hgt hq15 hol hcap
      go_enter Try.func6, Try.ntmps6
      go_wp2_with fail
      refine (HA _).out.mono ?_
      rintro e w1 ⟨rfl, hb1⟩
      have HB1 := Lib.hid hb1
      have HI1 := Lib.hid (HI.out.below hb1)
      clear hb1
      go_wp2_with fail
      refine (HW _ HI1.out).out.mono ?_
      rintro e w2 ⟨rfl, rfl⟩
      go_wp2_with fail
      refine (HOF _ HI1.out).out.mono ?_
      rintro e w2 h2
      rcases h2 with ⟨h2, _⟩ | ⟨_, ao2, cap2, rfl, hi2, _, hb2⟩
      · exact absurd rfl h2
      · have HB2 := Lib.hid (HB1.out.trans (hb2.mono HB1.out.size))
        have HI2 := Lib.hid (HI1.out.below hb2)
        have HU2 := Lib.hid hi2
        have HCB2 := Lib.hid (HCB w2 HI2.out).out
        clear hi2 hb2 HOF HCB HW
        go_wp2_with fail
        refine HCB2.out.mono ?_
        rintro e w3 ⟨rfl, hb3⟩
        have hb4 := box_below w3 (.cells #[.int .i64 (p : Int), .int .i64 (q : Int)] 23)
        have hb34 := hb3.trans (hb4.mono hb3.size)
        have HB4 := Lib.hid (HB2.out.trans (hb34.mono HB2.out.size))
        have HI4 := Lib.hid (HI2.out.below hb34)
        have HU4 := Lib.hid (HU2.out.below hb34)
        have HN := Lib.hid (World.alloc_heap_new w3 (.cells #[.int .i64 (p : Int), .int .i64 (q : Int)] 23))
        have HR := Lib.hid (HOB _ HI4.out).out
        clear hb3 hb4 hb34 HCB2 HOB HI1 HI2 HU2
        go_wp2_with fail
        refine HR.out.mono ?_
        rintro e w5 h5
        rcases h5 with ⟨h5, _⟩ | ⟨_, ao5, cap5, rfl, hi5, _, hb5⟩
        · exact absurd rfl h5
        · have HN5 := Lib.hid ((hb5.block _ (Array.getElem?_eq_some_iff.1 HN.out).1).trans HN.out)
          have HB5 := Lib.hid (HB4.out.trans (hb5.mono HB4.out.size))
          have HI5 := Lib.hid (HI4.out.below hb5)
          have HU5 := Lib.hid hi5
          have HSM := Lib.hid (same_yes ao2 ao cap2 cap l w5 (by omega) (HU4.out.below hb5) HI5.out)
          rw [HOL.out]
          clear hb5 hi5 HR HN HI4 HU4
          go_wp2_with fail
          refine HSM.out.mono ?_
          rintro e w6 ⟨rfl, k6, hw6⟩
          have hb6 : Below w5.heap.size w5 w6 := by rw [hw6]; exact below_drewN (Below.refl _ _) _
          have HN6 := Lib.hid ((hb6.block _ (Array.getElem?_eq_some_iff.1 HN5.out).1).trans HN5.out)
          have HB6 := Lib.hid (HB5.out.trans (hb6.mono HB5.out.size))
          have HI6 := Lib.hid (HI5.out.below hb6)
          have HU6 := Lib.hid (HU5.out.below hb6)
          obtain ⟨k0, k1, _, _⟩ := cells_two HN6.out
          clear hw6 hb6 HN5 HI5 HU5 HSM
          go_wp2_with fail
          refine (HGD _).out.mono ?_
          rintro e w7 ⟨rfl, hb7⟩
          have HB7 := Lib.hid (HB6.out.trans (hb7.mono HB6.out.size))
          have HI7 := Lib.hid (HI6.out.below hb7)
          have HU7 := Lib.hid (HU6.out.below hb7)
          clear hb7 HI6 HU6 k0 k1
          go_wp2_with fail
          refine (HS1.out _ _ _ HU7.out).mono ?_
          rintro e w8 ⟨rfl, rfl⟩
          go_wp2_with fail
          refine (HS2 _ HI7.out).out.mono ?_
          rintro e w9 ⟨rfl, rfl⟩
          have t1 : decide (s1 ≤ s2) = true := decide_eq_true hle
          go_wp2
          go_ret
          exact ⟨by simp, HB7.out⟩
    · generalize codeT 0 0 l = cd at *
      go_enter Try.func6, Try.ntmps6
      go_wp2_with fail
      refine (HA _).out.mono ?_
      rintro e w1 ⟨rfl, hb1⟩
      have HB1 := Lib.hid hb1
      have HI1 := Lib.hid (HI.out.below hb1)
      clear hb1
      go_wp2_with fail
      refine (HW _ HI1.out).out.mono ?_
      rintro e w2 ⟨rfl, rfl⟩
      go_wp2_with fail
      refine (HA _).out.mono ?_
      rintro e w3 ⟨rfl, hb3⟩
      have HB3 := Lib.hid (HB1.out.trans (hb3.mono HB1.out.size))
      clear hb3
      go_wp2
      go_ret
      exact ⟨rfl, HB3.out⟩
  · have t1 : decide (24 < (l.length : Int)) = true := decide_eq_true (by omega)
    go_enter Try.func6, Try.ntmps6
    go_wp2_with fail
    refine (HA _).out.mono ?_
    rintro e w1 ⟨rfl, hb1⟩
    have HB1 := Lib.hid hb1
    clear hb1
    go_wp2_with fail
    refine (HA _).out.mono ?_
    rintro e w3 ⟨rfl, hb3⟩
    have HB3 := Lib.hid (HB1.out.trans (hb3.mono HB1.out.size))
    clear hb3
    go_wp2
    go_ret
    exact ⟨rfl, HB3.out⟩
end Go.Proofs.Ytcgkalfclammfab
