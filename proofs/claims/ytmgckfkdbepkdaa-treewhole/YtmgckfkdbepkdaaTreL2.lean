import Derived.Test.YtmgckfkdbepkdaaTreL1
namespace Go.Proofs.Ytmgckfkdbepkdaa
open Go.RowKit Go.Proofs Go.Proofs.PipeA Go.Proofs.TreM
set_option maxRecDepth 100000

theorem str_ne (a b : List UInt8) : ((bs a).toList == (bs b).toList) = (a == b) := by rw [bs_toList, bs_toList]

set_option maxHeartbeats 3200000 in
theorem treeTexts (ao : Option Addr) (cap : Nat) (l : List Int) (size : Int) (w : World) (hz : -9223372036854775808 ≤ size ∧ size ≤ 9223372036854775807) (hll : l.length ≤ 9223372036854775807) (hcap : l.length ≤ cap) (hi : IntsAt w ao l) :
    Calls Try.prog 4 #[.slice ao l.length cap, .int .i64 size] w fun e w' => e = .returned (.bool true) ∧ Below w.heap.size w w' := by
  have HA := fun W => Lib.hid (awake9 W)
  have HI := Lib.hid hi
  clear hi
  by_cases hlen : l.length ≤ 60
  · have HC := fun W h => Lib.hid (cText size ao cap l W (by omega) hcap h)
    have HR := fun W h => Lib.hid (rText size ao cap l W hz (by omega) hcap h)
    clear hcap
    go_enter Try.func4, Try.ntmps4
    go_wp2_with fail
    refine (HA _).out.mono ?_
    rintro e w1 ⟨rfl, hb1⟩
    have HB1 := Lib.hid hb1
    have HI1 := Lib.hid (HI.out.below hb1)
    clear hb1
    go_wp2_with fail
    refine (HC _ HI1.out).out.mono ?_
    rintro e w2 ⟨hb2, h2⟩
    have HB2 := Lib.hid (HB1.out.trans (hb2.mono HB1.out.size))
    have HI2 := Lib.hid (HI1.out.below hb2)
    have HR2 := Lib.hid (HR w2 HI2.out).out
    clear hb2 HC HR
    rcases h2 with ⟨hc, rfl⟩ | ⟨hc, t, ht, rfl, ht32⟩
    · have hne : (codeX size l != 0) = true := by rw [bne_iff_ne]; exact hc
      have HCD := Lib.hid hc
      have HCL : Hid (∀ W, Calls Try.prog 11 #[.string ⟨#[]⟩, .int .i64 size] W (LeavesIs size [] W)) := fun W => cLeaves size [] W (by simp)
      obtain ⟨cd, hcd⟩ : ∃ cd, cd = codeX size l := ⟨_, rfl⟩
      have HCE := Lib.hid hcd
      rw [← hcd] at hne ⊢
      clear hc hcd
      go_wp2_with fail
      refine HR2.out.mono ?_
      rintro e w3 ⟨⟨n3, rfl⟩, h3⟩
      rcases h3 with ⟨_, rfl⟩ | ⟨hc, _⟩
      · have HB3 : Hid (Below w.heap.size w (w2.drewN n3)) := below_drewN HB2.out n3
        generalize w2.drewN n3 = w3 at *
        rw [← HCE.out]
        clear HR2
        go_wp2_with fail
        refine (HCL.out _).mono ?_
        rintro e w4 h4
        rcases h4 with ⟨_, rfl, hb4⟩ | ⟨_, ao4, cap4, l4, _, rfl, _, _, _, hb4⟩
        · have HB4 := Lib.hid (HB3.out.trans (hb4.mono HB3.out.size))
          generalize codeL size [] = c4 at *
          clear hb4
          go_wp2
          go_ret
          exact ⟨rfl, HB4.out⟩
        · have HB4 := Lib.hid (HB3.out.trans (hb4.mono HB3.out.size))
          clear hb4
          go_wp2
          go_ret
          exact ⟨rfl, HB4.out⟩
      · exact absurd hc HCD.out
    · obtain ⟨n, rfl, hn1, hn2, _⟩ := codeX_zero hc
      rw [Int.toNat_natCast] at ht
      have HC0 := Lib.hid hc
      have HT := Lib.hid ht
      have hlv := text_leaves ht
      have HLV := Lib.hid hlv
      have HCL := fun W => Lib.hid (cLeaves (n : Int) t W (by omega))
      clear hc ht hlv
      go_wp2_with fail
      refine HR2.out.mono ?_
      rintro e w3 ⟨⟨n3, rfl⟩, h3⟩
      rcases h3 with ⟨hc, _⟩ | ⟨_, t3, ht3, rfl, _⟩
      · exact absurd HC0.out hc
      · rw [Int.toNat_natCast] at ht3
        obtain rfl : t3 = t := Option.some.inj (ht3.symm.trans HT.out)
        have HB3 : Hid (Below w.heap.size w (w2.drewN n3)) := below_drewN HB2.out n3
        have HI3 : Hid (IntsAt (w2.drewN n3) ao l) := HI2.out.drewN n3
        generalize w2.drewN n3 = w3 at *
        clear HR2 ht3
        go_wp2_with fail
        refine (HCL _).out.mono ?_
        rintro e w4 h4
        rcases h4 with ⟨hc, _⟩ | ⟨_, ao4, cap4, l4, hl4, rfl, hi4, _, _, hb4⟩
        · exact absurd (codeL_some (sizeB_nat hn1 hn2) HLV.out) hc
        · rw [Int.toNat_natCast] at hl4
          obtain rfl : l4 = l := Option.some.inj (hl4.symm.trans HLV.out)
          have HB4 := Lib.hid (HB3.out.trans (hb4.mono HB3.out.size))
          have HS4 := Lib.hid (same_yes ao4 ao cap4 cap l4 w4 (by omega) hi4 (HI3.out.below hb4))
          clear hb4 hi4 hl4
          go_wp2_with fail
          refine HS4.out.mono ?_
          rintro e w5 ⟨rfl, k5, hw5⟩
          have HB5 : Hid (Below w.heap.size w w5) := by show Below _ _ _; rw [hw5]; exact below_drewN HB4.out k5
          clear hw5
          go_wp2
          go_ret
          exact ⟨rfl, HB5.out⟩
  · have t1 : decide (60 < (l.length : Int)) = true := decide_eq_true (by omega)
    go_enter Try.func4, Try.ntmps4
    go_wp2_with fail
    refine (HA _).out.mono ?_
    rintro e w1 ⟨rfl, hb1⟩
    have HB1 := Lib.hid hb1
    clear hb1
    go_wp2_with fail
    refine (HA _).out.mono ?_
    rintro e w2 ⟨rfl, hb2⟩
    have HB2 := Lib.hid (HB1.out.trans (hb2.mono HB1.out.size))
    clear hb2
    go_wp2
    go_ret
    exact ⟨rfl, HB2.out⟩
end Go.Proofs.Ytmgckfkdbepkdaa
