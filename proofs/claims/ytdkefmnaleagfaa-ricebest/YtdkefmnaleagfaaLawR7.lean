import Derived.Test.YtdkefmnaleagfaaLawR2
import Derived.Test.YtdkefmnaleagfaaRiceBestC
import Derived.Test.YtdkefmnaleagfaaCommon
namespace Go.Proofs.Ytdkefmnaleagfaa
open Go.RowKit Go.Proofs Go.Proofs.PipeM Go.Proofs.PipeA

set_option maxHeartbeats 800000 in
theorem rbest_big (ao : Option Addr) (cap len : Nat) (w : World) (hl : 60 < len) :
    Calls Try.prog 7 #[.slice ao len cap] w fun e w' => e = .returned (.bool true) ∧ Below w.heap.size w w' := by
  have t1 : decide ((60 : Int) < (len : Int)) = true := decide_eq_true (by omega)
  clear hl
  go_enter Try.func7, Try.ntmps7
  go_wp2_with fail
  refine (awake2 w).mono ?_
  rintro e w1 ⟨rfl, hb1⟩
  have HB1 := Lib.hid hb1
  clear hb1
  go_wp2_with fail
  refine (awake2 w1).mono ?_
  rintro e w2 ⟨rfl, hb2⟩
  have HB2 := Lib.hid hb2
  clear hb2
  go_wp2
  go_ret
  exact ⟨rfl, HB1.out.trans (HB2.out.mono HB1.out.size)⟩

set_option maxHeartbeats 1600000 in
theorem rbest_small (ao : Option Addr) (cap : Nat) (l : List Int) (w : World) (hl : l.length ≤ 60) (hi : IntsAt w ao l) (h64 : ∀ n ∈ l, -9223372036854775808 ≤ n ∧ n ≤ 9223372036854775807) :
    Calls Try.prog 7 #[.slice ao l.length cap] w fun e w' => e = .returned (.bool true) ∧ Below w.heap.size w w' := by
  have HI := Lib.hid hi
  have H64 := Lib.hid h64
  clear hi h64
  go_enter Try.func7, Try.ntmps7
  go_wp2_with fail
  refine (awake2 w).mono ?_
  rintro e w1 ⟨rfl, hb1⟩
  have HB1 := Lib.hid hb1
  have HI1 := Lib.hid (HI.out.below hb1)
  clear hb1 HI
  have t1 : decide ((60 : Int) < (l.length : Int)) = false := decide_eq_false (by omega)
  go_wp2
  clear t1
  go_loopg [4, 19] l.length (fun gk q i wr => ∃ c : Nat, c ≤ l.length ∧ gk + c = l.length ∧ i = .int .i64 c ∧ (Hid (∀ j (h : j < l.length), j < c → InR l[j])) ∧ w1 = wr)
  case atStart => exact ⟨0, Nat.zero_le _, by omega, rfl, fun j _ h => absurd h (by omega), rfl⟩
  case round =>
    obtain ⟨c, hc, hgk, rfl, HR, rfl⟩ := hrel
    have HGK := Lib.hid hgk
    clear hgk
    by_cases hlt : c < l.length
    · obtain ⟨g, off, rfl, hg, hcell⟩ := HI1.out c hlt
      have h6 := H64.out l[c] (List.getElem_mem hlt)
      have HNX : Hid (InR l[c] → ∀ j (h : j < l.length), j < c + 1 → InR l[j]) := by
        intro hin j hj hjc
        by_cases hjc2 : j < c
        · exact HR.out j hj hjc2
        · obtain rfl : j = c := by omega
          exact hin
      obtain ⟨n, hn⟩ : ∃ n, n = l[c] := ⟨_, rfl⟩
      rw [← hn] at hcell h6 HNX
      clear hn
      by_cases h1 : n < -8589934592
      · have t1 : decide (n < -8589934592) = true := decide_eq_true h1
        clear h1
        go_wp2
        go_ret
        exact ⟨rfl, HB1.out⟩
      · have t1 : decide (n < -8589934592) = false := decide_eq_false h1
        by_cases h2 : 8589934591 < n
        · have t2 : decide (8589934591 < n) = true := decide_eq_true h2
          clear h1 h2
          go_wp2
          go_ret
          exact ⟨rfl, HB1.out⟩
        · have t2 : decide (8589934591 < n) = false := decide_eq_false h2
          have HN2 := Lib.hid (HNX.out ⟨by omega, by omega⟩)
          clear h1 h2
          go_wp2
          go_roundg (gk - 1)
          case rel => exact ⟨c + 1, by omega, by have := HGK.out; omega, by go_num, HN2, rfl⟩
          case measure => have := HGK.out; omega
    · obtain rfl : c = l.length := by omega
      have HRR : Hid (∀ n ∈ l, InR n) := by
        intro n hn
        obtain ⟨j, hj, rfl⟩ := List.getElem_of_mem hn
        exact HR.out j hj hj
      clear HR H64
      go_wp2_with fail
      refine (cBest ao cap l w1 (by omega) HI1.out HRR.out).mono ?_
      rintro e w2 ⟨k, rfl, hbest, hb2⟩
      have HBEST := Lib.hid hbest
      have hk := hbest.1
      have HB2 : Hid (Below w.heap.size w w2) := HB1.out.trans (hb2.mono HB1.out.size)
      have HI2 := Lib.hid (HI1.out.below hb2)
      have htl := totalN_le l k hk
      have HT := Lib.hid (refTotal ao cap l k w2 (by omega) HI2.out HRR.out hk)
      obtain ⟨C, hC⟩ : ∃ C, C = totalN l k := ⟨_, rfl⟩
      rw [← hC] at htl HT ⊢
      have HC := Lib.hid hC
      have t3 : decide ((k : Int) < 0) = false := decide_eq_false (by omega)
      have t4 : decide ((24 : Int) < (k : Int)) = false := decide_eq_false (by omega)
      have t5 : ((C : Int) != (C : Int)) = false := bne_self_eq_false _
      clear hbest hb2 hC
      go_wp2_with fail
      refine HT.out.mono ?_
      rintro e w3 ⟨rfl, rfl⟩
      go_wp2
      clear t3 t4 t5 HT
      go_loopg [7, 8, 48] 25 (fun gk a b i wr => ∃ p : Nat, p ≤ 25 ∧ gk + p = 25 ∧ i = .int .i64 p ∧ Hid (Below w.heap.size w wr) ∧ Hid (IntsAt wr ao l))
      case atStart => exact ⟨0, Nat.zero_le _, by omega, rfl, HB2, HI2⟩
      case round =>
        obtain ⟨p, hp, hgk, rfl, HB3, HI3⟩ := hrel
        have HGK := Lib.hid hgk
        clear hgk HB2 HI2
        by_cases hpl : p < 25
        · have htp := totalN_le l p (by omega)
          have hbp := HBEST.out.2 p (by omega)
          have HT := Lib.hid (refTotal ao cap l p wr (by omega) HI3.out HRR.out (by omega))
          have HT2 := Lib.hid (cTotal ao cap l p wr (by omega) HI3.out HRR.out (by omega))
          rw [← HC.out] at hbp
          obtain ⟨T, hT⟩ : ∃ T, T = totalN l p := ⟨_, rfl⟩
          rw [← hT] at htp hbp HT HT2
          clear hT
          have t5 : ((T : Int) != (T : Int)) = false := bne_self_eq_false _
          have hCT : C ≤ T := hbp.1
          by_cases hTC : T = C
          · have t7 : ((T : Int) == (C : Int)) = true := by rw [beq_iff_eq]; omega
            have hkp : k ≤ p := hbp.2 hTC
            clear hbp hTC
            go_wp2_with fail
            refine HT.out.mono ?_
            rintro e w3 ⟨rfl, rfl⟩
            go_wp2_with fail
            refine HT2.out.mono ?_
            rintro e w4 ⟨rfl, hb4⟩
            have HB4 : Hid (Below w.heap.size w w4) := HB3.out.trans (hb4.mono HB3.out.size)
            have HI4 := Lib.hid (HI3.out.below hb4)
            clear hb4 HT HT2
            go_wp2
            go_roundg (gk - 1)
            case rel => exact ⟨p + 1, by omega, by have := HGK.out; omega, by go_num, HB4, HI4⟩
            case measure => have := HGK.out; omega
          · have t7 : ((T : Int) == (C : Int)) = false := beq_eq_false_iff_ne.2 (by omega)
            clear hbp hTC
            go_wp2_with fail
            refine HT.out.mono ?_
            rintro e w3 ⟨rfl, rfl⟩
            go_wp2_with fail
            refine HT2.out.mono ?_
            rintro e w4 ⟨rfl, hb4⟩
            have HB4 : Hid (Below w.heap.size w w4) := HB3.out.trans (hb4.mono HB3.out.size)
            have HI4 := Lib.hid (HI3.out.below hb4)
            clear hb4 HT HT2
            go_wp2
            go_roundg (gk - 1)
            case rel => exact ⟨p + 1, by omega, by have := HGK.out; omega, by go_num, HB4, HI4⟩
            case measure => have := HGK.out; omega
        · go_wp2
          go_ret
          exact ⟨rfl, HB3.out⟩
end Go.Proofs.Ytdkefmnaleagfaa
