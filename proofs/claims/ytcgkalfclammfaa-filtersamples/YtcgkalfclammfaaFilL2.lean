import Derived.Test.YtcgkalfclammfaaFilL1
namespace Go.Proofs.Ytcgkalfclammfaa
open Go.RowKit Go.Proofs Go.Proofs.PipeA Go.Proofs.LatM Go.Proofs.FilM
set_option maxRecDepth 100000

set_option maxHeartbeats 3200000 in
theorem filterSamples (ao bo : Option Addr) (cap cap2 : Nat) (l rs : List Int) (most : Int) (w : World) (hmw : -9223372036854775808 ≤ most ∧ most ≤ 9223372036854775807) (hll : l.length ≤ 9223372036854775807) (hxl : rs.length ≤ 9223372036854775807) (hcap : l.length ≤ cap) (hi : IntsAt w ao l) (hj : IntsAt w bo rs) :
    Calls Try.prog 4 #[.slice ao l.length cap, .slice bo rs.length cap2, .int .i64 most] w fun e w' => e = .returned (.bool true) ∧ Below w.heap.size w w' := by
  have HA := fun W => Lib.hid (awake7 W)
  have HI := Lib.hid hi
  have HJ := Lib.hid hj
  have HF := fun W => Lib.hid (cFew ao bo cap cap2 l rs W hll hxl)
  have HMW := Lib.hid hmw
  clear hi hj hmw
  cases hfw : fewB l rs with
  | false =>
    rw [hfw] at HF
    clear hfw
    go_enter Try.func4, Try.ntmps4
    go_wp2_with fail
    refine (HA _).out.mono ?_
    rintro e w1 ⟨rfl, hb1⟩
    go_wp2_with fail
    refine (HF _).out.mono ?_
    rintro e w1' ⟨rfl, rfl⟩
    go_wp2_with fail
    refine (HA _).out.mono ?_
    rintro e w2 ⟨rfl, hb2⟩
    go_wp2
    go_ret
    exact ⟨rfl, hb1.trans (hb2.mono hb1.size)⟩
  | true =>
    rw [hfw] at HF
    obtain ⟨hl24, hx60⟩ := fewB_of hfw
    clear hfw
    go_enter Try.func4, Try.ntmps4
    go_wp2_with fail
    refine (HA _).out.mono ?_
    rintro e w1 ⟨rfl, hb1⟩
    have hi1 := HI.out.below hb1
    have hj1 := HJ.out.below hb1
    obtain ⟨g, gcap, w2, hrun, ho2, hg1, hg2, hgc, hb2⟩ := run_copyI (ty := 22) (cap := cap2) (World.alloc_heap_new w1 (.cells #[] 3)) (by omega) (hj1.below (box_below w1 (.cells #[] 3)))
    have hb12 : Below w1.heap.size w1 w2 := (box_below w1 _).trans hb2
    have HB2 := Lib.hid (hb1.trans (hb12.mono hb1.size))
    have HI2 := Lib.hid (hi1.below hb12)
    have HJ2 := Lib.hid (hj1.below hb12)
    have HO2 := Lib.hid ho2
    have HC := Lib.hid (cSamples ao (some ⟨g, 0, none⟩) cap gcap l rs most w2 HMW.out hll (by omega) HI2.out ho2)
    clear hb1 hi1 hj1 ho2 hb2 hb12 hg1 hg2 HI HJ
    go_wp2_with fail
    refine (HF _).out.mono ?_
    rintro e w1' ⟨rfl, rfl⟩
    go_wp2_with (at_builtin; refine wpList_append_run rfl _ _ 22 rfl _ _ _ _ rfl rfl hrun ?_)
    refine HC.out.mono ?_
    rintro e w3 h
    obtain ⟨cd, hcd⟩ : ∃ cd, cd = codeS l rs most := ⟨_, rfl⟩
    rcases h with ⟨hc, rfl, hb3⟩ | ⟨hc, ao3, cap3, rfl, hi3, hc3, hb3⟩
    · have HR := Lib.hid (rSamples ao bo cap cap2 l rs most w3 HMW.out hll hcap (by omega) (HI2.out.below hb3) (HJ2.out.below hb3))
      have hne : (codeS l rs most != 0) = true := by rw [bne_iff_ne]; exact hc
      have HB3 := Lib.hid (HB2.out.trans (hb3.mono HB2.out.size))
      have HO3 := Lib.hid (HO2.out.below hb3)
      have HJ3 := Lib.hid (HJ2.out.below hb3)
      have HNE := Lib.hid hc
      clear hb3 hrun HC hc
      rw [← hcd] at hne ⊢
      go_wp2_with fail
      refine HR.out.mono ?_
      rintro e w4 h
      rcases h with ⟨_, rfl, hb4⟩ | ⟨hc, _⟩
      · have hs1 := refSame none none 0 0 [] [] w4 (by simp) (IntsAt.nil' _ _) (IntsAt.nil' _ _)
        rw [decide_eq_true rfl] at hs1
        have HS1 := Lib.hid hs1
        have hs2 := fun k => refSame (some ⟨g, 0, none⟩) bo gcap cap2 rs rs (w4.drewN k) (by omega) ((HO3.out.below hb4).drewN k) ((HJ3.out.below hb4).drewN k)
        rw [decide_eq_true rfl] at hs2
        have HS2 := fun k => Lib.hid (hs2 k)
        have HB4 := Lib.hid (HB3.out.trans (hb4.mono HB3.out.size))
        rw [← hcd]
        clear hs1 hs2 hb4 hcd HNE HR
        simp only [List.length_nil] at HS1
        go_wp2_with fail
        refine HS1.out.mono ?_
        rintro e w5 ⟨rfl, k5, rfl⟩
        go_wp2_with fail
        refine (HS2 _).out.mono ?_
        rintro e w6 ⟨rfl, k6, hw6⟩
        have HB6 : Hid (Below w.heap.size w w6) := by show Below _ _ _; rw [hw6]; exact below_drewN (below_drewN HB4.out _) _
        clear hw6
        go_wp2
        go_ret
        exact ⟨rfl, HB6.out⟩
      · exact absurd hc HNE.out
    · have HR := Lib.hid (rSamples ao bo cap cap2 l rs most w3 HMW.out hll hcap (by omega) (HI2.out.below hb3) (HJ2.out.below hb3))
      have HB3 := Lib.hid (HB2.out.trans (hb3.mono HB2.out.size))
      have HO3 := Lib.hid (HO2.out.below hb3)
      have HJ3 := Lib.hid (HJ2.out.below hb3)
      have HI3 := Lib.hid (HI2.out.below hb3)
      have HL3 := Lib.hid hi3
      have HC0 := Lib.hid hc
      clear hb3 hrun HC hc hcd hi3 HO2 HJ2 HI2 HB2
      go_wp2_with fail
      refine HR.out.mono ?_
      rintro e w4 h
      rcases h with ⟨hc, _⟩ | ⟨_, ao4, cap4, rfl, hi4, _, hb4⟩
      · exact absurd HC0.out hc
      · have hs1 := refSame ao3 ao4 cap3 cap4 (smp l rs rs.length) (smp l rs rs.length) w4 (by rw [smp_length]; omega) (HL3.out.below hb4) hi4
        rw [decide_eq_true rfl, smp_length] at hs1
        have HS1 := Lib.hid hs1
        have hs2 := fun k => refSame (some ⟨g, 0, none⟩) bo gcap cap2 rs rs (w4.drewN k) (by omega) ((HO3.out.below hb4).drewN k) ((HJ3.out.below hb4).drewN k)
        rw [decide_eq_true rfl] at hs2
        have HS2 := fun k => Lib.hid (hs2 k)
        have HB4 := Lib.hid (HB3.out.trans (hb4.mono HB3.out.size))
        have HJ4 := Lib.hid (HJ3.out.below hb4)
        have HSM := fun k => Lib.hid (cResiduals ao ao3 cap cap3 l (smp l rs rs.length) (w4.drewN k) hll (by rw [smp_length]; omega) (by rw [smp_length]; exact hc3) ((HI3.out.below hb4).drewN k) ((HL3.out.below hb4).drewN k))
        rw [smp_length] at HSM
        clear hs1 hs2 hb4 hi4 HR
        by_cases hmost : most = 67108864
        · have t1 : (most == 67108864) = true := by rw [hmost]; rfl
          clear hmost
          go_wp2_with fail
          refine HS1.out.mono ?_
          rintro e w5 ⟨rfl, k5, rfl⟩
          go_wp2_with fail
          refine (HS2 _).out.mono ?_
          rintro e w6 ⟨rfl, k6, hw6⟩
          have HB6 : Hid (Below w.heap.size w w6) := by show Below _ _ _; rw [hw6]; exact below_drewN (below_drewN HB4.out _) _
          clear hw6
          go_wp2
          go_ret
          exact ⟨rfl, HB6.out⟩
        · have t1 : (most == 67108864) = false := by rw [beq_eq_false_iff_ne]; exact hmost
          have HMO := Lib.hid hmost
          clear hmost
          go_wp2_with fail
          refine HS1.out.mono ?_
          rintro e w5 ⟨rfl, k5, rfl⟩
          go_wp2_with fail
          refine (HS2 _).out.mono ?_
          rintro e w6 ⟨rfl, k6, rfl⟩
          rw [World.drewN_drewN]
          generalize k5 + k6 = k
          go_wp2_with fail
          refine (HSM _).out.mono ?_
          rintro e w7 h
          rcases h with ⟨hc, _⟩ | ⟨_, H, rfl, hi7, _, _, hb7⟩
          · exact absurd (back_R HC0.out HMO.out) hc
          · rw [res_smp] at hi7
            rw [smp_length]
            have hb47 : Below w4.heap.size w4 w7 := ((keeps_drewN w4 k []).below (Nat.le_refl _) (by simp)).trans hb7
            have hs3 := refSame (some ⟨H, 0, none⟩) bo rs.length cap2 rs rs w7 (by omega) hi7 (HJ4.out.below hb47)
            rw [decide_eq_true rfl] at hs3
            have HS3 := Lib.hid hs3
            have HB7 := Lib.hid (HB4.out.trans (hb47.mono HB4.out.size))
            clear hs3 hb47 hb7 hi7 HS1 HS2 HSM
            go_wp2_with fail
            refine HS3.out.mono ?_
            rintro e w8 ⟨rfl, k8, hw8⟩
            have HB8 : Hid (Below w.heap.size w w8) := by show Below _ _ _; rw [hw8]; exact below_drewN HB7.out _
            clear hw8
            go_wp2
            go_ret
            exact ⟨rfl, HB8.out⟩
end Go.Proofs.Ytcgkalfclammfaa
