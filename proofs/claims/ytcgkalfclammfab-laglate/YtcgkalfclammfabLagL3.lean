import Derived.Test.YtcgkalfclammfabLagL2
namespace Go.Proofs.Ytcgkalfclammfab
open Go.RowKit Go.Proofs Go.Proofs.PipeA Go.Proofs.LagM
set_option maxRecDepth 100000

theorem codeT_none (l : List Int) : codeT 0 0 l = if l.all inB then 0 else 9 := rfl

set_option maxHeartbeats 3200000 in
theorem lagLate (x : Nat) (ao : Option Addr) (cap : Nat) (l : List Int) (w : World) (hx : x ≤ 255) (hll : l.length ≤ 9223372036854775807) (hi : IntsAt w ao l) :
    Calls Try.prog 7 #[.int .u8 (x : Int), .slice ao l.length cap] w fun e w' => e = .returned (.bool true) ∧ Below w.heap.size w w' := by
  have HA := fun W => Lib.hid (awake8 W)
  have HI := Lib.hid hi
  have HW := fun W h => Lib.hid (rWrong 0 0 ao cap l W hll h)
  clear hi
  by_cases hlen : l.length ≤ 100
  · by_cases h0 : 0 < l.length
    · rcases code_zero_or 0 0 l with hc | hne
      · have HC := Lib.hid hc
        rw [hc] at HW
        clear hc
        have t1 : ((l.length : Int) == 0) = false := by rw [beq_eq_false_iff_ne]; omega
        go_enter Try.func7, Try.ntmps7
        go_wp2_with fail
        refine (HA _).out.mono ?_
        rintro e w1 ⟨rfl, hb1⟩
        have HB1 := Lib.hid hb1
        have HI1 := Lib.hid (HI.out.below hb1)
        clear hb1
        go_wp2_with fail
        refine (HW _ HI1.out).out.mono ?_
        rintro e w2 ⟨rfl, rfl⟩
        obtain ⟨n, hn, hn0, hn1⟩ : ∃ n : Nat, (l.length : Int) + (x : Int) % 50 = n ∧ l.length ≤ n ∧ n ≤ 255 := ⟨l.length + x % 50, by omega, by omega, by omega⟩
        obtain ⟨g, hg, hg0, hg1⟩ : ∃ g : Int, 1 + (x : Int) % 15 = g ∧ 1 ≤ g ∧ g ≤ 15 := ⟨_, rfl, by omega, by omega⟩
        have HN := Lib.hid hn
        have HG := Lib.hid hg
        have hcd : codeT (n : Int) g l = 0 := codeT_of (goodT_nat (by omega) hn1 hg0 hg1) (codeT_zero HC.out).2
        have HCD := Lib.hid hcd
        have HOF := fun W h => Lib.hid (cOff n g ao cap l W (by omega) h)
        have HON := fun W h => Lib.hid (cOn n g ao cap l W (by omega) h)
        rw [hcd, Int.toNat_natCast, off_late hn0] at HOF
        rw [codeO_ok hcd (by rw [on_late hn0]; exact (codeT_zero HC.out).2), Int.toNat_natCast, on_late hn0] at HON
        have HT := Lib.hid (TermAt.new w1 n g)
        unfold termV at HOF HON
        obtain ⟨wb, hwb⟩ : ∃ wb, wb = w1.alloc (.cells #[.int .i64 (n : Int), .int .i64 g] 23) := ⟨_, rfl⟩
        rw [← hwb] at HT
        have HWB := Lib.hid hwb
        have HI2 := Lib.hid (HI1.out.below HT.out.below)
        have HF1 := Lib.hid (HOF wb HI2.out).out
        clear hn hg hcd hn0 hn1 hg0 hg1 HW HCD HC HOF hwb
        go_wp2_with fail
        rw [HN.out, HG.out, ← HWB.out]
        refine HF1.out.mono ?_
        rintro e w3 h3
        rcases h3 with ⟨h3, _⟩ | ⟨_, ao3, cap3, rfl, hi3, _, hb3⟩
        · exact absurd rfl h3
        · have HT3 := Lib.hid (HT.out.mono hb3)
          have HI3 := Lib.hid (HI2.out.below hb3)
          have HU3 := Lib.hid hi3
          have HF2 := Lib.hid (HON w3 HI3.out).out
          obtain ⟨k0, k1⟩ := HT3.out.cells
          clear hb3 hi3 HF1 HON HT HWB HI2
          go_wp2_with fail
          refine HF2.out.mono ?_
          rintro e w4 h4
          rcases h4 with ⟨h4, _⟩ | ⟨_, ao4, cap4, rfl, hi4, _, hb4⟩
          · exact absurd rfl h4
          · have HT4 := Lib.hid (HT3.out.mono hb4)
            have HS4 := Lib.hid (same_yes ao3 ao cap3 cap l w4 (by omega) (HU3.out.below hb4) (HI3.out.below hb4))
            have HS5 := fun k => Lib.hid (same_yes ao4 ao cap4 cap l (w4.drewN k) (by omega) (hi4.drewN k) ((HI3.out.below hb4).drewN k))
            clear hb4 hi4 HF2 k0 k1
            go_wp2_with fail
            refine HS4.out.mono ?_
            rintro e w5 ⟨rfl, k5, rfl⟩
            go_wp2_with fail
            refine (HS5 k5).out.mono ?_
            rintro e w6 ⟨rfl, k6, rfl⟩
            have HT6 := Lib.hid ((HT4.out.drewN k5).drewN k6)
            generalize (w4.drewN k5).drewN k6 = w6 at *
            go_wp2
            go_ret
            exact ⟨rfl, HB1.out.trans (HT6.out.below.mono HB1.out.size)⟩
      · have t1 : ((l.length : Int) == 0) = false := by rw [beq_eq_false_iff_ne]; omega
        generalize codeT 0 0 l = cd at *
        go_enter Try.func7, Try.ntmps7
        go_wp2_with fail
        refine (HA _).out.mono ?_
        rintro e w1 ⟨rfl, hb1⟩
        have HB1 := Lib.hid hb1
        have HI1 := Lib.hid (HI.out.below hb1)
        clear hb1
        go_wp2_with fail
        refine (HW _ HI1.out).out.mono ?_
        rintro e w2 ⟨rfl, rfl⟩
        go_wp2_with fail
        refine (HA _).out.mono ?_
        rintro e w3 ⟨rfl, hb3⟩
        have HB3 := Lib.hid (HB1.out.trans (hb3.mono HB1.out.size))
        clear hb3
        go_wp2
        go_ret
        exact ⟨rfl, HB3.out⟩
    · have t1 : ((l.length : Int) == 0) = true := by rw [beq_iff_eq]; omega
      go_enter Try.func7, Try.ntmps7
      go_wp2_with fail
      refine (HA _).out.mono ?_
      rintro e w1 ⟨rfl, hb1⟩
      have HB1 := Lib.hid hb1
      clear hb1
      go_wp2_with fail
      refine (HA _).out.mono ?_
      rintro e w3 ⟨rfl, hb3⟩
      have HB3 := Lib.hid (HB1.out.trans (hb3.mono HB1.out.size))
      clear hb3
      go_wp2
      go_ret
      exact ⟨rfl, HB3.out⟩
  · have t1 : decide (100 < (l.length : Int)) = true := decide_eq_true (by omega)
    go_enter Try.func7, Try.ntmps7
    go_wp2_with fail
    refine (HA _).out.mono ?_
    rintro e w1 ⟨rfl, hb1⟩
    have HB1 := Lib.hid hb1
    clear hb1
    go_wp2_with fail
    refine (HA _).out.mono ?_
    rintro e w3 ⟨rfl, hb3⟩
    have HB3 := Lib.hid (HB1.out.trans (hb3.mono HB1.out.size))
    clear hb3
    go_wp2
    go_ret
    exact ⟨rfl, HB3.out⟩
end Go.Proofs.Ytcgkalfclammfab
