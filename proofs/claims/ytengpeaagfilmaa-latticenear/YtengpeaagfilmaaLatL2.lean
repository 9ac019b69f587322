import Derived.Test.YtengpeaagfilmaaLatL1
namespace Go.Proofs.Ytengpeaagfilmaa
open Go.RowKit Go.Proofs Go.Proofs.PipeA Go.Proofs.LatM
set_option maxRecDepth 100000

theorem i8_half {i : Int} (h : -128 ≤ i ∧ i ≤ 127) : -64 ≤ i.tdiv 2 ∧ i.tdiv 2 ≤ 63 := by
  by_cases h0 : 0 ≤ i
  · rw [Int.tdiv_eq_ediv_of_nonneg h0]; omega
  · obtain ⟨y, rfl⟩ : ∃ y, i = -y := ⟨-i, by omega⟩
    rw [Int.neg_tdiv, Int.tdiv_eq_ediv_of_nonneg (by omega)]; omega

set_option maxHeartbeats 3200000 in
theorem latticeNear (pl : Nat) (want i : Int) (w : World) (hpl : pl ≤ 255) (hw0 : -9223372036854775808 ≤ want ∧ want ≤ 9223372036854775807) (hi : -128 ≤ i ∧ i ≤ 127) :
    Calls Try.prog 7 #[.int .u8 (pl : Int), .int .i64 want, .int .i8 i] w fun e w' => e = .returned (.bool true) ∧ Below w.heap.size w w' := by
  have HA := fun W => Lib.hid (awake W)
  by_cases hp : want > 1048576
  · have t1 : decide (want > 1048576) = true := decide_eq_true hp
    clear hp
    go_enter Try.func7, Try.ntmps7
    go_wp2_with fail
    refine (HA _).out.mono ?_
    rintro e w1 ⟨rfl, hb1⟩
    go_wp2_with fail
    refine (HA _).out.mono ?_
    rintro e w2 ⟨rfl, hb2⟩
    go_wp2
    go_ret
    exact ⟨rfl, hb1.trans (hb2.mono hb1.size)⟩
  · by_cases hq : want < -1048576
    · go_enter Try.func7, Try.ntmps7
      go_wp2_with fail
      refine (HA _).out.mono ?_
      rintro e w1 ⟨rfl, hb1⟩
      go_wp2_with fail
      refine (HA _).out.mono ?_
      rintro e w2 ⟨rfl, hb2⟩
      go_wp2
      go_ret
      exact ⟨rfl, hb1.trans (hb2.mono hb1.size)⟩
    · have hwt : -1048576 ≤ want ∧ want ≤ 1048576 := by omega
      obtain ⟨p, hpe⟩ : ∃ p, p = pl % 16 := ⟨_, rfl⟩
      have hp16 : p ≤ 100 := by omega
      have hpi : (pl : Int) % 16 = (p : Int) := by omega
      have HN := fun want hw W => Lib.hid (cNear p want W hp16 hw)
      have HN1 := fun W => HN want hwt W
      have HR := fun i hi W => Lib.hid (rReflection p i W hp16 hi)
      have HSZ := fun n W h => Lib.hid (cSize n W h)
      have hk := i8_half hi
      obtain ⟨k, hke⟩ : ∃ k, k = i.tdiv 2 := ⟨_, rfl⟩
      rw [← hke] at hk
      have hki : i.tdiv 2 = k := hke.symm
      clear hke hpe hp hq hw0
      go_enter Try.func7, Try.ntmps7
      go_wp2_with fail
      refine (HA _).out.mono ?_
      rintro e w1 ⟨rfl, hb1⟩
      have HB := Lib.hid hb1
      clear hb1
      go_wp2_with fail
      refine (HN1 _).out.mono ?_
      rintro e w2 ⟨n, rfl, hbest, rfl⟩
      have HBE := Lib.hid hbest
      have hn : -64 ≤ n ∧ n ≤ 63 := ⟨hbest.1, by have := hbest.2.1; omega⟩
      clear hbest HN1
      have hrn := refl_bound p hn
      have HRN := fun W => HR n hn W
      have HSN := fun W => HSZ (refl p n - want) W (by omega)
      rw [show (refl p n - want).natAbs = dist p want n from rfl] at HSN
      have hdn := dist_bound p hwt hn
      obtain ⟨d, hd⟩ : ∃ d, d = dist p want n := ⟨_, rfl⟩
      rw [← hd] at HSN hdn
      have HD := Lib.hid hd
      generalize refl p n = rn at hrn HRN HSN
      clear hd
      go_wp2_with fail
      refine (HRN _).out.mono ?_
      rintro e w2 ⟨rfl, rfl⟩
      go_wp2_with fail
      refine (HSN _).out.mono ?_
      rintro e w2 ⟨rfl, rfl⟩
      clear HRN HSN hrn
      go_wp2
      go_loopg [10, 11] 128 (fun gk c q wr => ∃ j : Int, -64 ≤ j ∧ j ≤ 64 ∧ (gk : Int) + j = 64 ∧ c = .int .i64 j ∧ w1 = wr)
      case atStart => exact ⟨-64, by omega, by omega, by omega, rfl, rfl⟩
      case round =>
        obtain ⟨j, hj1, hj2, hgk, rfl, rfl⟩ := hrel
        have HGK := Lib.hid hgk
        clear hgk
        by_cases hlt : j ≤ 63
        · have hrj := refl_bound p (show -64 ≤ j ∧ j ≤ 63 by omega)
          have HRJ := fun W => HR j (by omega) W
          have HSJ := fun W => HSZ (refl p j - want) W (by omega)
          rw [show (refl p j - want).natAbs = dist p want j from rfl] at HSJ
          have hdj := dist_bound p hwt (show -64 ≤ j ∧ j ≤ 63 by omega)
          have hcmp := HBE.out.2.2 j hj1 (by omega)
          rw [← HD.out] at hcmp
          generalize dist p want j = x at HSJ hdj hcmp
          generalize refl p j = rj at hrj HRJ HSJ
          have t1 : decide ((x : Int) < (d : Int)) = false := decide_eq_false (by omega)
          have t1' : decide (x < d) = false := decide_eq_false (by omega)
          rcases hcmp with hc | ⟨hc1, hc2⟩
          · have t2 : ((x : Int) == (d : Int)) = false := by rw [beq_eq_false_iff_ne]; omega
            have t2' : (x == d) = false := by rw [beq_eq_false_iff_ne]; omega
            clear hc
            go_wp2_with fail
            refine (HRJ _).out.mono ?_
            rintro e w2 ⟨rfl, rfl⟩
            go_wp2_with fail
            refine (HSJ _).out.mono ?_
            rintro e w2 ⟨rfl, rfl⟩
            go_wp2
            go_roundg (gk - 1)
            case rel => exact ⟨j + 1, by omega, by omega, by have := HGK.out; omega, by go_num, rfl⟩
            case measure => have := HGK.out; omega
          · subst hc1
            have t3 : decide (j < n) = false := decide_eq_false (by omega)
            clear hc2
            go_wp2_with fail
            refine (HRJ _).out.mono ?_
            rintro e w2 ⟨rfl, rfl⟩
            go_wp2_with fail
            refine (HSJ _).out.mono ?_
            rintro e w2 ⟨rfl, rfl⟩
            go_wp2
            go_roundg (gk - 1)
            case rel => exact ⟨j + 1, by omega, by omega, by have := HGK.out; omega, by go_num, rfl⟩
            case measure => have := HGK.out; omega
        · obtain rfl : j = 64 := by omega
          have HRK := fun W => HR k hk W
          have hrk := refl_bound p hk
          have HNK := fun W => HN (refl p k) (by omega) W
          have HOWN : Hid (∀ m, Best p (refl p k) m 64 → refl p m = refl p k) := fun m hm => best_own hm hk
          obtain ⟨rk, hrke⟩ : ∃ rk, rk = refl p k := ⟨_, rfl⟩
          rw [← hrke] at HRK HNK HOWN hrk
          clear hrke
          go_wp2_with fail
          refine (HRK _).out.mono ?_
          rintro e w2 ⟨rfl, rfl⟩
          go_wp2_with fail
          refine (HNK _).out.mono ?_
          rintro e w2 ⟨m, rfl, hbm, rfl⟩
          have hm : -64 ≤ m ∧ m ≤ 63 := ⟨hbm.1, by have := hbm.2.1; omega⟩
          have HRM := fun W => HR m hm W
          rw [HOWN.out m hbm] at HRM
          clear hbm HNK HRK
          go_wp2_with fail
          refine (HRM _).out.mono ?_
          rintro e w2 ⟨rfl, rfl⟩
          go_wp2
          go_ret
          exact ⟨by simp, HB.out⟩
end Go.Proofs.Ytengpeaagfilmaa
