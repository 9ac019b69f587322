import Derived.Test.YtcgkalfclammfaaFilF3
import Derived.Test.YtcgkalfclammfaaFilL1
namespace Go.Proofs.Ytcgkalfclammfaa
open Go.RowKit Go.Proofs Go.Proofs.PipeA Go.Proofs.LatM Go.Proofs.FilM
set_option maxRecDepth 100000

set_option maxHeartbeats 3200000 in
theorem filterLeast (ao bo : Option Addr) (cap cap2 : Nat) (l xs : List Int) (w : World) (hll : l.length ≤ 9223372036854775807) (hxl : xs.length ≤ 9223372036854775807) (hcap : l.length ≤ cap) (hcap2 : xs.length ≤ cap2) (hi : IntsAt w ao l) (hj : IntsAt w bo xs) :
    Calls Try.prog 5 #[.slice ao l.length cap, .slice bo xs.length cap2] w fun e w' => e = .returned (.bool true) ∧ Below w.heap.size w w' := by
  have HA := fun W => Lib.hid (awake7 W)
  have HI := Lib.hid hi
  have HJ := Lib.hid hj
  have HF := fun W => Lib.hid (cFew ao bo cap cap2 l xs W hll hxl)
  have HG := fun W (hb : Below w.heap.size w W) => Lib.hid (rGood ao cap l W hll (HI.out.below hb))
  clear hi hj
  cases hfw : fewB l xs with
  | false =>
    rw [hfw] at HF
    clear hfw
    go_enter Try.func5, Try.ntmps5
    go_wp2_with fail
    refine (HA _).out.mono ?_
    rintro e w1 ⟨rfl, hb1⟩
    go_wp2_with fail
    refine (HF _).out.mono ?_
    rintro e w1' ⟨rfl, rfl⟩
    go_wp2_with fail
    refine (HA _).out.mono ?_
    rintro e w2 ⟨rfl, hb2⟩
    go_wp2
    go_ret
    exact ⟨rfl, hb1.trans (hb2.mono hb1.size)⟩
  | true =>
    rw [hfw] at HF
    obtain ⟨hl24, hx60⟩ := fewB_of hfw
    clear hfw
    cases hgd : goodL l with
    | false =>
      rw [hgd] at HG
      clear hgd
      go_enter Try.func5, Try.ntmps5
      go_wp2_with fail
      refine (HA _).out.mono ?_
      rintro e w1 ⟨rfl, hb1⟩
      have HB1 := Lib.hid hb1
      clear hb1
      go_wp2_with fail
      refine (HF _).out.mono ?_
      rintro e w1' ⟨rfl, rfl⟩
      go_wp2_with fail
      refine (HG _ HB1.out).out.mono ?_
      rintro e w1' ⟨rfl, rfl⟩
      go_wp2_with fail
      refine (HA _).out.mono ?_
      rintro e w2 ⟨rfl, hb2⟩
      go_wp2
      go_ret
      exact ⟨rfl, HB1.out.trans (hb2.mono HB1.out.size)⟩
    | true =>
      rw [hgd] at HG
      have HGD := Lib.hid hgd
      have HR := fun W (hb : Below w.heap.size w W) => Lib.hid (rResiduals none bo 0 cap2 [] xs W (by simp) (by simp) (by omega) hcap2 (IntsAt.nil' _ _) (HJ.out.below hb))
      simp only [List.length_nil] at HR
      clear hgd
      go_enter Try.func5, Try.ntmps5
      go_wp2_with fail
      refine (HA _).out.mono ?_
      rintro e w1 ⟨rfl, hb1⟩
      have HB1 := Lib.hid hb1
      clear hb1
      go_wp2_with fail
      refine (HF _).out.mono ?_
      rintro e w1' ⟨rfl, rfl⟩
      go_wp2_with fail
      refine (HG _ HB1.out).out.mono ?_
      rintro e w1' ⟨rfl, rfl⟩
      go_wp2_with fail
      refine (HR _ HB1.out).out.mono ?_
      rintro e w2 h
      rcases h with ⟨hc, rfl, hb2⟩ | ⟨hc, ao2, cp2, rfl, _, hb2⟩
      · have t1 : (codeR [] xs != 0) = true := by rw [bne_iff_ne]; exact hc
        have HB2 := Lib.hid (HB1.out.trans (hb2.mono HB1.out.size))
        generalize codeR [] xs = cd at t1
        clear hb2 hc
        go_wp2
        go_ret
        exact ⟨rfl, HB2.out⟩
      · have HB2 := Lib.hid (HB1.out.trans (hb2.mono HB1.out.size))
        have hs := (codeR_zero hc).2
        have HSS := Lib.hid hs
        have HL := Lib.hid (cLeast ao bo cap cap2 l xs w2 HGD.out hs hll (by omega) hcap2 (HI.out.below HB2.out) (HJ.out.below HB2.out))
        clear hb2 hc hs
        go_wp2_with fail
        refine HL.out.mono ?_
        rintro e w3 ⟨k, rfl, hk, hb3⟩
        have HB3 := Lib.hid (HB2.out.trans (hb3.mono HB2.out.size))
        have HK := Lib.hid hk
        have HRL := Lib.hid (rLeast ao bo cap cap2 l xs w3 HGD.out HSS.out hcap (by omega) hcap2 (HI.out.below HB3.out) (HJ.out.below HB3.out))
        clear hb3 hk HL
        go_wp2_with fail
        refine HRL.out.mono ?_
        rintro e w4 ⟨j, rfl, hj, hb4⟩
        obtain rfl : j = k := hj.same HK.out
        have HB4 := Lib.hid (HB3.out.trans (hb4.mono HB3.out.size))
        clear hb4 hj HRL
        go_wp2
        go_ret
        exact ⟨by simp, HB4.out⟩
end Go.Proofs.Ytcgkalfclammfaa
