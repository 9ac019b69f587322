import Derived.Test.YtmgckfkdbepkdaaTreL2
namespace Go.Proofs.Ytmgckfkdbepkdaa
open Go.RowKit Go.Proofs Go.Proofs.PipeA Go.Proofs.TreM
set_option maxRecDepth 100000

set_option maxHeartbeats 3200000 in
theorem treeOthers (s t : List UInt8) (size : Int) (w : World) (hsl : s.length ≤ 9223372036854775807) (htl : t.length ≤ 9223372036854775807) :
    Calls Try.prog 9 #[.string (bs s), .string (bs t), .int .i64 size] w fun e w' => e = .returned (.bool true) ∧ Below w.heap.size w w' := by
  have HA := fun W => Lib.hid (awake9 W)
  have hEQ := str_ne s t
  obtain ⟨S, hS⟩ : ∃ S, S = bs s := ⟨_, rfl⟩
  obtain ⟨T, hT⟩ : ∃ T, T = bs t := ⟨_, rfl⟩
  have hSz : S.size = s.length := by rw [hS, bs_size]
  have hTz : T.size = t.length := by rw [hT, bs_size]
  by_cases hlen : s.length ≤ 100 ∧ t.length ≤ 100
  · have HC := fun W => Lib.hid (cLeaves size s W (by omega))
    have HD := fun W => Lib.hid (cLeaves size t W (by omega))
    have hS1 : S.size ≤ 100 := by omega
    have hT1 : T.size ≤ 100 := by omega
    rw [← hS] at HC hEQ ⊢
    rw [← hT] at HD hEQ ⊢
    clear hS hT hlen hsl htl hSz hTz
    go_enter Try.func9, Try.ntmps9
    go_wp2_with fail
    refine (HA _).out.mono ?_
    rintro e w1 ⟨rfl, hb1⟩
    have HB1 := Lib.hid hb1
    clear hb1
    go_wp2_with fail
    refine (HC _).out.mono ?_
    rintro e w2 h2
    rcases h2 with ⟨hc, rfl, hb2⟩ | ⟨hc, ao2, cap2, l, hl, rfl, hi2, _, hl16, hb2⟩
    · have hne : (codeL size s != 0) = true := by rw [bne_iff_ne]; exact hc
      have HB2 := Lib.hid (HB1.out.trans (hb2.mono HB1.out.size))
      generalize codeL size s = cd at hne ⊢
      clear hb2 hc
      go_wp2_with fail
      refine (HD _).out.mono ?_
      rintro e w3 h3
      rcases h3 with ⟨_, rfl, hb3⟩ | ⟨_, ao3, cap3, l3, _, rfl, _, _, _, hb3⟩
      · have HB3 := Lib.hid (HB2.out.trans (hb3.mono HB2.out.size))
        generalize codeL size t = c4 at *
        clear hb3
        go_wp2
        go_ret
        exact ⟨rfl, HB3.out⟩
      · have HB3 := Lib.hid (HB2.out.trans (hb3.mono HB2.out.size))
        clear hb3
        go_wp2
        go_ret
        exact ⟨rfl, HB3.out⟩
    · have HB2 := Lib.hid (HB1.out.trans (hb2.mono HB1.out.size))
      have HI2 := Lib.hid hi2
      have HL := Lib.hid hl
      clear hb2 hi2 hc hl
      go_wp2_with fail
      refine (HD _).out.mono ?_
      rintro e w3 h3
      rcases h3 with ⟨hc, rfl, hb3⟩ | ⟨_, ao3, cap3, m, hm, rfl, hi3, _, hm16, hb3⟩
      · have hne : (codeL size t != 0) = true := by rw [bne_iff_ne]; exact hc
        have HB3 := Lib.hid (HB2.out.trans (hb3.mono HB2.out.size))
        generalize codeL size t = cd at hne ⊢
        clear hb3 hc
        go_wp2
        go_ret
        exact ⟨rfl, HB3.out⟩
      · have HB3 := Lib.hid (HB2.out.trans (hb3.mono HB2.out.size))
        have hij := leaves_inj HL.out hm
        have hdd : decide (l = m) = (s == t) := by
          rw [Bool.eq_iff_iff, decide_eq_true_eq, beq_iff_eq]; exact hij
        have hS3 := refSame ao2 ao3 cap2 cap3 l m w3 (by omega) (HI2.out.below hb3) hi3
        rw [hdd] at hS3
        have HS3 := Lib.hid hS3
        generalize (s == t) = d at *
        clear hb3 hi3 hm hij hdd hS3
        go_wp2_with fail
        refine HS3.out.mono ?_
        rintro e w5 ⟨rfl, k5, hw5⟩
        have HB5 : Hid (Below w.heap.size w w5) := by show Below _ _ _; rw [hw5]; exact below_drewN HB3.out k5
        clear hw5
        go_wp2
        go_ret
        exact ⟨by simp, HB5.out⟩
  · rw [← hS, ← hT]
    by_cases h1 : s.length ≤ 100
    · have hS1 : S.size ≤ 100 := by omega
      have hT1 : 100 < T.size := by omega
      have hT2 : T.size ≤ 9223372036854775807 := by omega
      clear hS hT hlen hsl htl hSz hTz hEQ h1
      go_enter Try.func9, Try.ntmps9
      go_wp2_with fail
      refine (HA _).out.mono ?_
      rintro e w1 ⟨rfl, hb1⟩
      have HB1 := Lib.hid hb1
      clear hb1
      go_wp2_with fail
      refine (HA _).out.mono ?_
      rintro e w2 ⟨rfl, hb2⟩
      have HB2 := Lib.hid (HB1.out.trans (hb2.mono HB1.out.size))
      clear hb2
      go_wp2
      go_ret
      exact ⟨rfl, HB2.out⟩
    · have hS1 : 100 < S.size := by omega
      have hS2 : S.size ≤ 9223372036854775807 := by omega
      have hT2 : T.size ≤ 9223372036854775807 := by omega
      clear hS hT hlen hsl htl hSz hTz hEQ h1
      go_enter Try.func9, Try.ntmps9
      go_wp2_with fail
      refine (HA _).out.mono ?_
      rintro e w1 ⟨rfl, hb1⟩
      have HB1 := Lib.hid hb1
      clear hb1
      go_wp2_with fail
      refine (HA _).out.mono ?_
      rintro e w2 ⟨rfl, hb2⟩
      have HB2 := Lib.hid (HB1.out.trans (hb2.mono HB1.out.size))
      clear hb2
      go_wp2
      go_ret
      exact ⟨rfl, HB2.out⟩
end Go.Proofs.Ytmgckfkdbepkdaa
