import Derived.Test.YtengpeaagfilmaaLatL1
namespace Go.Proofs.Ytengpeaagfilmaa
open Go.RowKit Go.Proofs Go.Proofs.PipeA Go.Proofs.LatM
set_option maxRecDepth 100000

theorem reflV_at {l : List Int} {j : Nat} (h : j < l.length) (h2 : j < (reflV l).length) : (reflV l)[j] = refl j l[j] := by
  have := reflV_get h
  rw [getD_at h2] at this
  exact this

set_option maxHeartbeats 3200000 in
theorem latticeCoefs (ao : Option Addr) (cap : Nat) (l : List Int) (w : World) (hll : l.length ≤ 9223372036854775807) (hi : IntsAt w ao l) :
    Calls Try.prog 3 #[.slice ao l.length cap] w fun e w' => e = .returned (.bool true) ∧ Below w.heap.size w w' := by
  have HA := fun W => Lib.hid (awake W)
  by_cases hp : l.length > 40
  · have t1 : decide ((l.length : Int) > 40) = true := decide_eq_true (by omega)
    clear hp
    go_enter Try.func3, Try.ntmps3
    go_wp2_with fail
    refine (HA _).out.mono ?_
    rintro e w1 ⟨rfl, hb1⟩
    go_wp2_with fail
    refine (HA _).out.mono ?_
    rintro e w2 ⟨rfl, hb2⟩
    go_wp2
    go_ret
    exact ⟨rfl, hb1.trans (hb2.mono hb1.size)⟩
  · have t1 : decide ((l.length : Int) > 40) = false := decide_eq_false (by omega)
    have HI0 := Lib.hid hi
    clear hi
    cases hgd : goodL l with
    | false =>
      have HGD := Lib.hid hgd
      clear hgd
      go_enter Try.func3, Try.ntmps3
      go_wp2_with fail
      refine (HA _).out.mono ?_
      rintro e w1 ⟨rfl, hb1⟩
      have HB := Lib.hid hb1
      have HC := Lib.hid (cGood ao cap l w1 hll (HI0.out.below hb1))
      have HR := Lib.hid (rGood ao cap l w1 hll (HI0.out.below hb1))
      rw [HGD.out] at HC HR
      clear hb1
      go_wp2_with fail
      refine HR.out.mono ?_
      rintro e w2 ⟨rfl, rfl⟩
      go_wp2_with fail
      refine HC.out.mono ?_
      rintro e w2 ⟨rfl, rfl⟩
      go_wp2
      go_ret
      exact ⟨rfl, HB.out⟩
    | true =>
      have HGD := Lib.hid hgd
      have hl16 := good_len hgd
      clear hgd
      go_enter Try.func3, Try.ntmps3
      go_wp2_with fail
      refine (HA _).out.mono ?_
      rintro e w1 ⟨rfl, hb1⟩
      have hi1 := HI0.out.below hb1
      have HC := Lib.hid (cGood ao cap l w1 hll hi1)
      have HR := Lib.hid (rGood ao cap l w1 hll hi1)
      rw [HGD.out] at HC HR
      obtain ⟨g, cap2, w2, hrun, hi2, hg1, hg2, _, hb2⟩ := run_copyI (ty := 22) (cap := cap) (World.alloc_heap_new w1 (.cells #[] 3)) (by omega) (hi1.below (box_below w1 (.cells #[] 3)))
      have hb12 : Below w1.heap.size w1 w2 := (box_below w1 _).trans hb2
      have hB2 : Below w.heap.size w w2 := hb1.trans (hb12.mono hb1.size)
      have HB2 := Lib.hid hB2
      have HI2 := Lib.hid hi2
      have HL2 := Lib.hid (hi1.below hb12)
      have HCO := Lib.hid (cCoefs (some ⟨g, 0, none⟩) cap2 l w2 HGD.out hi2)
      clear hb1 hi1 hi2 hb2 hb12 hB2 HI0
      go_wp2_with fail
      refine HR.out.mono ?_
      rintro e w3 ⟨rfl, rfl⟩
      go_wp2_with fail
      refine HC.out.mono ?_
      rintro e w3 ⟨rfl, rfl⟩
      go_wp2_with (at_builtin; refine wpList_append_run rfl _ _ 22 rfl _ _ _ _ rfl rfl hrun ?_)
      refine HCO.out.mono ?_
      rintro e w3 ⟨ao3, cap3, rfl, hi3, _, _, hb3⟩
      rw [cf_length]
      have HRE := Lib.hid (cReflect (some ⟨g, 0, none⟩) cap2 l w3 HGD.out (HI2.out.below hb3))
      clear HC HR HCO hrun
      go_wp2_with fail
      refine HRE.out.mono ?_
      rintro e w4 ⟨H, rfl, hi4, _, _, hb4⟩
      rw [reflV_length]
      have hb24 : Below w2.heap.size w2 w4 := hb3.trans (hb4.mono hb3.size)
      have HB4 := Lib.hid (HB2.out.trans (hb24.mono HB2.out.size))
      have HO4 := Lib.hid (HI2.out.below hb24)
      have HL4 := Lib.hid (HL2.out.below hb24)
      have HA4 := Lib.hid (hi3.below hb4)
      have HK4 := Lib.hid hi4
      have HRC := Lib.hid (rCoefs ao cap l w4 HGD.out HL4.out)
      clear hi3 hb3 hi4 hb4 hb24 HRE HI2 HL2 HB2
      go_wp2_with fail
      refine HRC.out.mono ?_
      rintro e w5 ⟨ao5, cap5, rfl, hi5, hb5⟩
      have HSA : Hid (Calls Try.prog 14 #[.slice ao3 l.length cap3, .slice ao5 l.length cap5] w5 fun e w' => e = .returned (.bool true) ∧ ∃ k, w' = w5.drewN k) := by
        have := refSame ao3 ao5 cap3 cap5 (cf l l.length) (cf l l.length) w5 (by rw [cf_length]; omega) (HA4.out.below hb5) hi5
        rw [cf_length, decide_eq_true rfl] at this
        exact this
      have hO5 := HO4.out.below hb5
      have hL5 := HL4.out.below hb5
      have HSB := fun k => Lib.hid (refSame (some ⟨g, 0, none⟩) ao cap2 cap l l (w5.drewN k) (by omega) (hO5.drewN k) (hL5.drewN k))
      rw [decide_eq_true rfl] at HSB
      rw [cf_length]
      have HB5 := Lib.hid (HB4.out.trans (hb5.mono HB4.out.size))
      have HL5 := Lib.hid hL5
      have HK5 := Lib.hid (HK4.out.below hb5)
      have HA5 := Lib.hid (HA4.out.below hb5)
      clear hi5 hb5 hO5 hL5 HRC HO4 HL4 HK4 HA4 HB4
      go_wp2_with fail
      refine HSA.out.mono ?_
      rintro e w6 ⟨rfl, k6, rfl⟩
      go_wp2_with fail
      refine (HSB _).out.mono ?_
      rintro e w7 ⟨rfl, k7, hw7⟩
      have HB7 : Hid (Below w.heap.size w w7) := by show Below _ _ _; rw [hw7]; exact below_drewN (below_drewN HB5.out _) _
      have HL7 : Hid (IntsAt w7 ao l) := by show IntsAt _ _ _; rw [hw7]; exact (HL5.out.drewN _).drewN _
      have HK7 : Hid (IntsAt w7 (some ⟨H, 0, none⟩) (reflV l)) := by show IntsAt _ _ _; rw [hw7]; exact (HK5.out.drewN _).drewN _
      have HA7 : Hid (IntsAt w7 ao3 (cf l l.length)) := by show IntsAt _ _ _; rw [hw7]; exact (HA5.out.drewN _).drewN _
      clear hw7 HSA HSB HB5 HL5 HK5 HA5
      go_wp2
      go_loopg [7, 51] l.length (fun gk q i wr => ∃ j d : Nat, j ≤ l.length ∧ gk + j = l.length ∧ i = .int .i64 j ∧ Hid (wr = w7.drewN d))
      case atStart => exact ⟨0, 0, Nat.zero_le _, by omega, rfl, rfl⟩
      case round =>
        obtain ⟨j, d, hjc, hgk, rfl, HW⟩ := hrel
        have HGK := Lib.hid hgk
        clear hgk
        by_cases hlt : j < l.length
        · have hltR : j < (reflV l).length := by rw [reflV_length]; exact hlt
          have hltC : j < (cf l l.length).length := by rw [cf_length]; exact hlt
          obtain ⟨b, off, rfl, hg0, hcell⟩ := HL7.out j hlt
          obtain ⟨b2, off2, he2, hg3, hcell2⟩ := HK7.out j hltR
          simp only [Option.some.injEq, Addr.mk.injEq, and_true] at he2
          obtain ⟨rfl, rfl⟩ := he2
          obtain ⟨b3, off3, rfl, hg4, hcell3⟩ := HA7.out j hltC
          have hix := good_at HGD.out hlt
          have HRF := fun W => Lib.hid (rReflection j l[j] W (by omega) hix)
          have hcb := cf_small HGD.out hl16 _ (List.getElem_mem hltC)
          rw [reflV_at hlt hltR] at hcell2
          generalize refl j l[j] = k at hcell2 HRF
          generalize l[j] = x at hcell HRF hix
          generalize (cf l l.length)[j] = y at hcell3 hcb
          rw [Nat.zero_add] at hcell2
          have k1 : wr.cell? ⟨b, off + j, none⟩ = some (.int .i64 x) := by rw [HW.out]; exact hcell
          have k2 : wr.cell? ⟨H, j, none⟩ = some (.int .i64 k) := by rw [HW.out]; exact hcell2
          have k3 : wr.cell? ⟨b3, off3 + j, none⟩ = some (.int .i64 y) := by rw [HW.out]; exact hcell3
          have t3 : decide (y > 1073741824) = false := decide_eq_false (by omega)
          have t4 : decide (y < -1073741824) = false := decide_eq_false (by omega)
          have t5 : (k != k) = false := by simp
          clear hcell hcell2 hcell3 hg0 hg3 hg4 hltR hltC hix hcb
          go_wp2
          go_quiet ((go_at_call 16; exact quiet_left (HRF _).out))
          go_wp2
          go_roundg (gk - 1)
          case rel => exact ⟨j + 1, _, by omega, by have := HGK.out; omega, by go_num, by show _ = _; rw [HW.out]; exact World.drewN_drewN _ _ _⟩
          case measure => have := HGK.out; omega
        · obtain rfl : j = l.length := by omega
          go_wp2
          go_ret
          exact ⟨rfl, by rw [HW.out]; exact below_drewN HB7.out _⟩
end Go.Proofs.Ytengpeaagfilmaa
