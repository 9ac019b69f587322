import Derived.Test.YtcgkalfclammfaaFilL1
import Derived.Test.YtcgkalfclammfaaFilM2
namespace Go.Proofs.Ytcgkalfclammfaa
open Go.RowKit Go.Proofs Go.Proofs.PipeA Go.Proofs.LatM Go.Proofs.FilM
set_option maxRecDepth 100000

/-- Residuals told, whatever they are. -/
theorem ResIs.any {l xs : List Int} {w w' : World} {e : Ending} (h : ResIs l xs w e w') : ∃ ao n cap cd, e = .returned (.tuple #[.slice ao n cap, .int .i64 cd]) ∧ Below w.heap.size w w' := by
  rcases h with ⟨_, rfl, hb⟩ | ⟨_, H, rfl, _, _, _, hb⟩
  · exact ⟨none, 0, 0, _, rfl, hb⟩
  · exact ⟨_, _, _, _, rfl, hb⟩

set_option maxHeartbeats 3200000 in
theorem filterFirst (ao bo : Option Addr) (cap cap2 : Nat) (l xs : List Int) (cut : Nat) (w : World) (hcu : cut ≤ 255) (hll : l.length ≤ 9223372036854775807) (hxl : xs.length ≤ 9223372036854775807) (hcap2 : xs.length ≤ cap2) (hi : IntsAt w ao l) (hj : IntsAt w bo xs) :
    Calls Try.prog 6 #[.slice ao l.length cap, .slice bo xs.length cap2, .int .u8 (cut : Int)] w fun e w' => e = .returned (.bool true) ∧ Below w.heap.size w w' := by
  have HA := fun W => Lib.hid (awake7 W)
  have HI := Lib.hid hi
  have HJ := Lib.hid hj
  have HF := fun W => Lib.hid (cFew ao bo cap cap2 l xs W hll hxl)
  clear hi hj
  cases hfw : fewB l xs with
  | false =>
    rw [hfw] at HF
    clear hfw
    go_enter Try.func6, Try.ntmps6
    go_wp2_with fail
    refine (HA _).out.mono ?_
    rintro e w1 ⟨rfl, hb1⟩
    go_wp2_with fail
    refine (HF _).out.mono ?_
    rintro e w1' ⟨rfl, rfl⟩
    go_wp2_with fail
    refine (HA _).out.mono ?_
    rintro e w2 ⟨rfl, hb2⟩
    go_wp2
    go_ret
    exact ⟨rfl, hb1.trans (hb2.mono hb1.size)⟩
  | true =>
    rw [hfw] at HF
    obtain ⟨hl24, hx60⟩ := fewB_of hfw
    obtain ⟨k, hk⟩ : ∃ k, k = cut % (xs.length + 1) := ⟨_, rfl⟩
    have hkx : k ≤ xs.length := by have := Nat.mod_lt cut (show 0 < xs.length + 1 by omega); omega
    have hki : Int.tmod (cut : Int) ((xs.length : Int) + 1) = (k : Int) := by
      rw [Int.tmod_eq_emod_of_nonneg (by omega), hk]; simp
    have hki2 : (cut : Int) % ((xs.length : Int) + 1) = (k : Int) := by rw [hk]; simp
    have hcut := cut_left0 bo xs.length cap2 k (by omega)
    have hlen : (xs.take k).length = k := by rw [List.length_take]; omega
    have HC1 := fun W (hb : Below w.heap.size w W) => Lib.hid (cResiduals ao bo cap cap2 l xs W hll (by omega) hcap2 (HI.out.below hb) (HJ.out.below hb))
    have HC2 : ∀ W, Below w.heap.size w W → Hid (Calls Try.prog 11 #[.slice ao l.length cap, .slice (cutA bo cap2 0) k cap2] W (ResIs l (xs.take k) W)) := fun W hb => by
      have := cResiduals ao (cutA bo cap2 0) cap cap2 l (xs.take k) W hll (by omega) (by omega) (HI.out.below hb) ((HJ.out.below hb).cut0 cap2 k)
      rw [hlen] at this
      exact this
    have HC3 := fun W (hb : Below w.heap.size w W) => Lib.hid (cResiduals none bo 0 cap2 [] xs W (by simp) (by omega) hcap2 (IntsAt.nil' _ _) (HJ.out.below hb))
    simp only [List.length_nil] at HC3
    have HLEN := Lib.hid hlen
    generalize cutA bo cap2 0 = bo' at hcut HC2
    clear hfw hk hlen
    go_enter Try.func6, Try.ntmps6
    go_wp2_with fail
    refine (HA _).out.mono ?_
    rintro e w1 ⟨rfl, hb1⟩
    have HB1 := Lib.hid hb1
    clear hb1
    go_wp2_with fail
    refine (HF _).out.mono ?_
    rintro e w1' ⟨rfl, rfl⟩
    go_wp2_with fail
    refine (HC1 _ HB1.out).out.mono ?_
    rintro e w2 h
    rcases h with ⟨hc, rfl, hb2⟩ | ⟨hc, H, rfl, hi2, hH, hHlt, hb2⟩
    · have t1 : (codeR l xs != 0) = true := by rw [bne_iff_ne]; exact hc
      generalize codeR l xs = cd at t1
      have HB2 := Lib.hid (HB1.out.trans (hb2.mono HB1.out.size))
      clear hb2 HB1 hc
      go_wp2_with fail
      refine (HC2 _ HB2.out).out.mono ?_
      rintro e w3 h
      obtain ⟨ao3, n3, cap3, cd3, rfl, hb3⟩ := h.any
      have HB3 := Lib.hid (HB2.out.trans (hb3.mono HB2.out.size))
      clear hb3 h
      go_wp2_with fail
      refine (HC3 _ HB3.out).out.mono ?_
      rintro e w4 h
      obtain ⟨ao4, n4, cap4, cd4, rfl, hb4⟩ := h.any
      have HB4 := Lib.hid (HB3.out.trans (hb4.mono HB3.out.size))
      clear hb4 h
      go_wp2
      go_ret
      exact ⟨rfl, HB4.out⟩
    · have HB2 := Lib.hid (HB1.out.trans (hb2.mono HB1.out.size))
      have HL2 := Lib.hid hi2
      have HCD := Lib.hid hc
      have hHw := HB2.out.size
      clear hb2 HB1 hc hi2
      go_wp2_with fail
      refine (HC2 _ HB2.out).out.mono ?_
      rintro e w3 h
      rcases h with ⟨hc, _⟩ | ⟨_, H3, rfl, hi3, _, _, hb3⟩
      · exact absurd (codeR_take HCD.out k) hc
      · have HB3 := Lib.hid (HB2.out.trans (hb3.mono HB2.out.size))
        have HL3 := Lib.hid (HL2.out.below hb3)
        have HM3 := Lib.hid hi3
        rw [HLEN.out]
        clear hb3 HL2 hi3
        go_wp2_with fail
        refine (HC3 _ HB3.out).out.mono ?_
        rintro e w4 h
        rcases h with ⟨hc, _⟩ | ⟨_, H4, rfl, hi4, _, _, hb4⟩
        · exact absurd (codeR_none HCD.out) hc
        · have HB4 := Lib.hid (HB3.out.trans (hb4.mono HB3.out.size))
          have hcut2 := cut_left H 0 xs.length xs.length k hkx
          have hs1 := refSame (some ⟨H, 0, none⟩) (some ⟨H3, 0, none⟩) xs.length k ((res l xs).take k) (res l (xs.take k)) w4 (by rw [List.length_take, res_length]; omega) ((HL3.out.below hb4).take k) (HM3.out.below hb4)
          rw [decide_eq_true (res_take l xs k).symm, List.length_take, res_length, res_length, Nat.min_eq_left hkx, HLEN.out] at hs1
          have HS1 := Lib.hid hs1
          have hs2 := fun d => refSame (some ⟨H4, 0, none⟩) bo xs.length cap2 xs xs (w4.drewN d) (by omega) ((by rw [res_none] at hi4; exact hi4 : IntsAt w4 (some ⟨H4, 0, none⟩) xs).drewN d) ((HJ.out.below HB4.out).drewN d)
          rw [decide_eq_true rfl] at hs2
          have HS2 := fun d => Lib.hid (hs2 d)
          clear hs1 hs2 hb4 hi4 HL3 HM3 HC1 HC2 HC3
          go_wp2_with fail
          refine HS1.out.mono ?_
          rintro e w5 ⟨rfl, k5, rfl⟩
          go_wp2_with fail
          refine (HS2 _).out.mono ?_
          rintro e w6 ⟨rfl, k6, hw6⟩
          have HB6 : Hid (Below w.heap.size w w6) := by show Below _ _ _; rw [hw6]; exact below_drewN (below_drewN HB4.out _) _
          clear hw6
          go_wp2
          go_ret
          exact ⟨rfl, HB6.out⟩
end Go.Proofs.Ytcgkalfclammfaa
