import Derived.Test.YtmgckfkdbepkdaaTreL3
namespace Go.Proofs.Ytmgckfkdbepkdaa
open Go.RowKit Go.Proofs Go.Proofs.PipeA Go.Proofs.TreM
set_option maxRecDepth 100000

theorem pow_int {d P : Nat} (hP : 2 ^ d = P) : ((2 : Int) ^ d) = (P : Int) := by
  subst hP
  rw [Int.natCast_pow]
  rfl
theorem pow_small {d : Nat} (h : d ≤ 6) : ∃ P : Nat, 2 ^ d = P ∧ P ≤ 64 := by
  have h1 : d = 0 ∨ d = 1 ∨ d = 2 ∨ d = 3 ∨ d = 4 ∨ d = 5 ∨ d = 6 := by omega
  rcases h1 with rfl | rfl | rfl | rfl | rfl | rfl | rfl
  · exact ⟨1, rfl, by decide⟩
  · exact ⟨2, rfl, by decide⟩
  · exact ⟨4, rfl, by decide⟩
  · exact ⟨8, rfl, by decide⟩
  · exact ⟨16, rfl, by decide⟩
  · exact ⟨32, rfl, by decide⟩
  · exact ⟨64, rfl, by decide⟩

set_option maxHeartbeats 3200000 in
theorem treeWhole (size : Int) (x y : Nat) (w : World) (hz : -9223372036854775808 ≤ size ∧ size ≤ 9223372036854775807) (hx : x ≤ 255) (hy : y ≤ 255) :
    Calls Try.prog 7 #[.int .i64 size, .int .u8 (x : Int), .int .u8 (y : Int)] w fun e w' => e = .returned (.bool true) ∧ Below w.heap.size w w' := by
  have HA := fun W => Lib.hid (awake9 W)
  cases hs : sizeB size with
  | false =>
    rcases sizeB_no hs with h1 | ⟨h1, h2⟩
    all_goals
      clear hs
      go_enter Try.func7, Try.ntmps7
      go_wp2_with fail
      refine (HA _).out.mono ?_
      rintro e w1 ⟨rfl, hb1⟩
      have HB1 := Lib.hid hb1
      clear hb1
      go_wp2_with fail
      refine (HA _).out.mono ?_
      rintro e w2 ⟨rfl, hb2⟩
      have HB2 := Lib.hid (HB1.out.trans (hb2.mono HB1.out.size))
      clear hb2
      go_wp2
      go_ret
      exact ⟨rfl, HB2.out⟩
  | true =>
    obtain ⟨n, rfl, hn1, hn2⟩ := sizeB_of hs
    have HSB := Lib.hid hs
    obtain ⟨d, hd, hd6⟩ : ∃ d : Nat, (x : Int) % 7 = (d : Int) ∧ d ≤ 6 := ⟨x % 7, by omega, by omega⟩
    obtain ⟨j, hj, hj5⟩ : ∃ j : Nat, (y : Int) % 6 = (j : Int) ∧ j ≤ 5 := ⟨y % 6, by omega, by omega⟩
    have HD := Lib.hid hd
    have HJ := Lib.hid hj
    obtain ⟨l, hl, hl1, hl2⟩ := wh_leaves n d
    have HL := Lib.hid hl
    obtain ⟨P, hP, hP64⟩ := pow_small hd6
    rw [hP] at hl1
    have hpi := pow_int hP
    have HWC := fun W => Lib.hid (cWholeB n d W hn1 hn2)
    have HWR := fun W => Lib.hid (rWhole 4 n d W (by omega) hn2 (by omega))
    have HLC := fun W => Lib.hid (cLeaves (n : Int) (wh 4 n d) W (by have := wh_short 4 n d; omega))
    have HMC := fun W => Lib.hid (cMayB j n W (by omega) (by omega))
    have HMR := fun W => Lib.hid (rMay j n W (by omega) (by omega))
    have HC0 : Hid (codeL (n : Int) (wh 4 n d) = 0) := codeL_some HSB.out hl
    have HP := Lib.hid hl1
    clear hs hd hj hl hl1 hP
    go_enter Try.func7, Try.ntmps7
    go_wp2_with fail
    refine (HA _).out.mono ?_
    rintro e w1 ⟨rfl, hb1⟩
    have HB1 := Lib.hid hb1
    clear hb1
    go_wp2_with fail
    rw [HD.out, HJ.out]
    refine (HWC _).out.mono ?_
    rintro e w2 ⟨rfl, hb2⟩
    have HB2 := Lib.hid (HB1.out.trans (hb2.mono HB1.out.size))
    clear hb2 HWC
    go_wp2_with fail
    refine (HLC _).out.mono ?_
    rintro e w3 h3
    rcases h3 with ⟨hc, _⟩ | ⟨_, ao3, cap3, l3, hl3, rfl, _, _, _, hb3⟩
    · exact absurd HC0.out hc
    · rw [Int.toNat_natCast] at hl3
      obtain rfl : l3 = l := Option.some.inj (hl3.symm.trans HL.out)
      have HB3 := Lib.hid (HB2.out.trans (hb3.mono HB2.out.size))
      clear hb3 HLC hl3
      generalize l3.length = m at *
      go_wp2_with fail
      refine (HWR _).out.mono ?_
      rintro e w4 ⟨rfl, rfl⟩
      generalize bs (wh 4 n d) = t at *
      go_wp2_with fail
      refine (HMC _).out.mono ?_
      rintro e w5 ⟨rfl, hb5⟩
      have HB5 := Lib.hid (HB3.out.trans (hb5.mono HB3.out.size))
      clear hb5
      go_wp2_with fail
      refine (HMR _).out.mono ?_
      rintro e w6 ⟨rfl, rfl⟩
      generalize may j n = b at *
      have hmP := HP.out
      clear HP
      go_wp2
      go_ret
      exact ⟨by rw [decide_eq_true (by omega)]; rfl, HB5.out⟩
end Go.Proofs.Ytmgckfkdbepkdaa
