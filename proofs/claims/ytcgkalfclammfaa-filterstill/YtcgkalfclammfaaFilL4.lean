import Derived.Test.YtcgkalfclammfaaFilL1
import Derived.Test.YtcgkalfclammfaaFilM2
namespace Go.Proofs.Ytcgkalfclammfaa
open Go.RowKit Go.Proofs Go.Proofs.PipeA Go.Proofs.LatM Go.Proofs.FilM
set_option maxRecDepth 100000

set_option maxHeartbeats 3200000 in
theorem filterStill (bo : Option Addr) (cap2 : Nat) (xs : List Int) (w : World) (hxl : xs.length ≤ 9223372036854775807) (hcap2 : xs.length ≤ cap2) (hj : IntsAt w bo xs) :
    Calls Try.prog 7 #[.slice bo xs.length cap2] w fun e w' => e = .returned (.bool true) ∧ Below w.heap.size w w' := by
  have HA := fun W => Lib.hid (awake7 W)
  have HJ := Lib.hid hj
  clear hj
  by_cases hx60 : 60 < xs.length
  · have t1 : decide (60 < (xs.length : Int)) = true := decide_eq_true (by omega)
    clear hx60
    go_enter Try.func7, Try.ntmps7
    go_wp2_with fail
    refine (HA _).out.mono ?_
    rintro e w1 ⟨rfl, hb1⟩
    go_wp2_with fail
    refine (HA _).out.mono ?_
    rintro e w2 ⟨rfl, hb2⟩
    go_wp2
    go_ret
    exact ⟨rfl, hb1.trans (hb2.mono hb1.size)⟩
  · have t1 : decide (60 < (xs.length : Int)) = false := decide_eq_false (by omega)
    have hx61 : xs.length ≤ 60 := by omega
    have HC1 : ∀ W : World, Below w.heap.size w W → Hid (Calls Try.prog 11 #[.slice (some ⟨W.heap.size, 0, none⟩) 1 1, .slice bo xs.length cap2] (W.alloc (.cells #[.int .i64 (-64)] 3)) (ResIs [-64] xs (W.alloc (.cells #[.int .i64 (-64)] 3)))) := fun W hb =>
      cResiduals (some ⟨W.heap.size, 0, none⟩) bo 1 cap2 [-64] xs _ (by simp) (by omega) hcap2 (ints_block (l := [-64]) (World.alloc_heap_new _ _)) (HJ.out.below (hb.alloc hb.size _))
    clear hx60
    go_enter Try.func7, Try.ntmps7
    go_wp2_with fail
    refine (HA _).out.mono ?_
    rintro e w1 ⟨rfl, hb1⟩
    have HB1 := Lib.hid hb1
    have HB1' := Lib.hid (hb1.alloc hb1.size (.cells #[.int .i64 (-64)] 3))
    clear hb1
    go_wp2_with fail
    refine (HC1 _ HB1.out).out.mono ?_
    rintro e w2 h
    have hcs := codeR_still xs
    rcases h with ⟨hc, rfl, hb2⟩ | ⟨hc, H, rfl, hi2, hH, hHlt, hb2⟩
    · have h9 : codeR [-64] xs = 9 := by
        rw [hcs] at hc ⊢
        split
        · rename_i h; rw [if_pos h] at hc; exact absurd rfl hc
        · rfl
      rw [h9]
      have HB2 := Lib.hid (HB1'.out.trans (hb2.mono HB1'.out.size))
      clear hb2 hc h9 hcs
      go_wp2
      go_ret
      exact ⟨rfl, HB2.out⟩
    · have HB2 := Lib.hid (HB1'.out.trans (hb2.mono HB1'.out.size))
      have HL2 := Lib.hid hi2
      have HS := Lib.hid (codeR_zero hc).2
      have HJ2 := Lib.hid (HJ.out.below HB2.out)
      clear hb2 hc hcs hi2 HB1 HB1' hH HJ HC1
      go_wp2
      go_loopg [5, 6, 7, 28] xs.length (fun gk q1 q2 q3 i wr => ∃ c : Nat, c ≤ xs.length ∧ gk + c = xs.length ∧ i = .int .i64 c ∧ wr = w2)
      case atStart => exact ⟨0, Nat.zero_le _, by omega, rfl, rfl⟩
      case round =>
        obtain ⟨c, hc, hgk, rfl, rfl⟩ := hrel
        have HGK := Lib.hid hgk
        clear hgk
        by_cases hlt : c < xs.length
        · obtain ⟨b, off, rfl, hb, hcell⟩ := HJ2.out c hlt
          obtain ⟨b', off', he, hb', hcell'⟩ := HL2.out c (by rw [res_length]; exact hlt)
          simp only [Option.some.injEq, Addr.mk.injEq, and_true] at he
          obtain ⟨rfl, rfl⟩ := he
          rw [Nat.zero_add] at hcell'
          by_cases h0 : c = 0
          · have e1 : (res [-64] xs)[c]'(by rw [res_length]; exact hlt) = xs[c] := by subst h0; exact res_still0 hlt
            rw [e1] at hcell'
            have t3 : decide (0 < c) = false := decide_eq_false (by omega)
            generalize xs[c] = x at hcell hcell'
            have t2 : (x != x) = false := by simp
            clear e1 hb hb' hc h0
            go_wp2
            go_roundg (gk - 1)
            case rel => exact ⟨c + 1, by omega, by have := HGK.out; omega, by go_num, rfl⟩
            case measure => have := HGK.out; omega
          · have t3 : decide (0 < c) = true := decide_eq_true (by omega)
            obtain ⟨b2, off2, he, _, hcell2⟩ := HJ2.out (c - 1) (by omega)
            simp only [Option.some.injEq, Addr.mk.injEq, and_true] at he
            obtain ⟨rfl, rfl⟩ := he
            have e1 : (res [-64] xs)[c]'(by rw [res_length]; exact hlt) = xs[c] - xs[c - 1]'(by omega) := res_still hlt (by omega)
            rw [e1] at hcell'
            have hb1 := all_S HS.out _ (List.getElem_mem hlt)
            have hb2 := all_S HS.out _ (List.getElem_mem (show c - 1 < xs.length by omega))
            have hq : (c : Int) - 1 = ((c - 1 : Nat) : Int) := by omega
            have hq2 : c - 1 < xs.length := by omega
            generalize xs[c - 1] = y at hcell2 hcell' hb2
            generalize xs[c] = x at hcell hcell' hb1
            generalize c - 1 = d at hcell2 hq hq2
            obtain ⟨z, hz⟩ : ∃ z, z = x - y := ⟨_, rfl⟩
            have hw : IntKind.i64.wrap (x - y) = z := by rw [hz]; exact IntWalk.i64_in _ (by omega)
            have hw2 : IntKind.i64.wrap ((c : Int) - 1) = (d : Int) := by rw [hq]; exact IntWalk.i64_in _ (by omega)
            rw [← hz] at hcell'
            have t2 : (z != z) = false := by simp
            clear e1 hb hb' hc h0 hz hq hb1 hb2
            go_wp2
            go_roundg (gk - 1)
            case rel => exact ⟨c + 1, by omega, by have := HGK.out; omega, by go_num, rfl⟩
            case measure => have := HGK.out; omega
        · obtain rfl : c = xs.length := by omega
          go_wp2
          go_ret
          exact ⟨by simp, HB2.out⟩
end Go.Proofs.Ytcgkalfclammfaa
