import Derived.Test.YtengpeaagfilmaaLatL1
namespace Go.Proofs.Ytengpeaagfilmaa
open Go.RowKit Go.Proofs Go.Proofs.PipeA Go.Proofs.LatM
set_option maxRecDepth 100000

/-- All of a list are at most so great. -/
def Within (M : Int) (l : List Int) : Prop := ∀ x ∈ l, -M ≤ x ∧ x ≤ M
theorem Within.step {M : Int} {l : List Int} {j : Nat} (h : Within M (l.take j)) (hj : j < l.length) (hx : -M ≤ l[j] ∧ l[j] ≤ M) : Within M (l.take (j + 1)) := by
  intro x hm
  rw [List.take_succ_eq_append_getElem hj, List.mem_append] at hm
  rcases hm with hm | hm
  · exact h x hm
  · obtain rfl := List.mem_singleton.1 hm; exact hx
theorem pred_none {c p : List Int} (h : c.length = 0 ∨ p.length = 0) : pred c p = 0 := by
  unfold pred
  rw [show min c.length p.length = 0 by omega]
  simp [psum, rnd_zero]

set_option maxHeartbeats 3200000 in
theorem latticePredicts (ao bo : Option Addr) (cap cap2 : Nat) (c p : List Int) (w : World) (hlc : c.length ≤ 9223372036854775807) (hlp : p.length ≤ 9223372036854775807) (hi : IntsAt w ao c) (hj : IntsAt w bo p) :
    Calls Try.prog 6 #[.slice ao c.length cap, .slice bo p.length cap2] w fun e w' => e = .returned (.bool true) ∧ Below w.heap.size w w' := by
  have HA := fun W => Lib.hid (awake W)
  by_cases hp : c.length > 16
  · have t1 : decide ((c.length : Int) > 16) = true := decide_eq_true (by omega)
    clear hp
    go_enter Try.func6, Try.ntmps6
    go_wp2_with fail
    refine (HA _).out.mono ?_
    rintro e w1 ⟨rfl, hb1⟩
    go_wp2_with fail
    refine (HA _).out.mono ?_
    rintro e w2 ⟨rfl, hb2⟩
    go_wp2
    go_ret
    exact ⟨rfl, hb1.trans (hb2.mono hb1.size)⟩
  · by_cases hq : p.length > 40
    · have t1 : decide ((c.length : Int) > 16) = false := decide_eq_false (by omega)
      have t2 : decide ((p.length : Int) > 40) = true := decide_eq_true (by omega)
      go_enter Try.func6, Try.ntmps6
      go_wp2_with fail
      refine (HA _).out.mono ?_
      rintro e w1 ⟨rfl, hb1⟩
      go_wp2_with fail
      refine (HA _).out.mono ?_
      rintro e w2 ⟨rfl, hb2⟩
      go_wp2
      go_ret
      exact ⟨rfl, hb1.trans (hb2.mono hb1.size)⟩
    · have t1 : decide ((c.length : Int) > 16) = false := decide_eq_false (by omega)
      have t2 : decide ((p.length : Int) > 40) = false := decide_eq_false (by omega)
      have HI0 := Lib.hid hi
      have HJ0 := Lib.hid hj
      clear hi hj
      go_enter Try.func6, Try.ntmps6
      go_wp2_with fail
      refine (HA _).out.mono ?_
      rintro e w1 ⟨rfl, hb1⟩
      have HB := Lib.hid hb1
      have HI := Lib.hid (HI0.out.below hb1)
      have HJ := Lib.hid (HJ0.out.below hb1)
      clear hb1 HI0 HJ0
      go_wp2
      go_loopg [6, 25] c.length (fun gk q i wr => ∃ j : Nat, j ≤ c.length ∧ gk + j = c.length ∧ i = .int .i64 j ∧ Hid (Within 1073741824 (c.take j)) ∧ w1 = wr)
      case atStart => exact ⟨0, Nat.zero_le _, by omega, rfl, by simp [Hid, Within], rfl⟩
      case round =>
        obtain ⟨j, hjc, hgk, rfl, HT, rfl⟩ := hrel
        have HGK := Lib.hid hgk
        clear hgk
        by_cases hlt : j < c.length
        · obtain ⟨b, off, rfl, hg, hcell⟩ := HI.out j hlt
          have HST : Hid (-1073741824 ≤ c[j] ∧ c[j] ≤ 1073741824 → Within 1073741824 (c.take (j + 1))) := fun h => HT.out.step hlt h
          generalize c[j] = x at hcell HST
          clear hg
          by_cases h1 : x > 1073741824
          · have t3 : decide (x > 1073741824) = true := decide_eq_true h1
            clear HST
            go_wp2
            go_ret
            exact ⟨rfl, HB.out⟩
          · by_cases h2 : x < -1073741824
            · have t3 : decide (x > 1073741824) = false := decide_eq_false h1
              have t4 : decide (x < -1073741824) = true := decide_eq_true h2
              clear HST
              go_wp2
              go_ret
              exact ⟨rfl, HB.out⟩
            · have t3 : decide (x > 1073741824) = false := decide_eq_false h1
              have t4 : decide (x < -1073741824) = false := decide_eq_false h2
              have HN := Lib.hid (HST.out (by omega))
              clear HST
              go_wp2
              go_roundg (gk - 1)
              case rel => exact ⟨j + 1, by omega, by have := HGK.out; omega, by go_num, HN, rfl⟩
              case measure => have := HGK.out; omega
        · obtain rfl : j = c.length := by omega
          have HC : Hid (Within 1073741824 c) := by have := HT.out; rw [List.take_length] at this; exact this
          clear HT HGK hjc hlt
          go_wp2
          go_loopg [8, 38] p.length (fun gk q i wr => ∃ j : Nat, j ≤ p.length ∧ gk + j = p.length ∧ i = .int .i64 j ∧ Hid (Within 67108864 (p.take j)) ∧ w1 = wr)
          case atStart => exact ⟨0, Nat.zero_le _, by omega, rfl, by simp [Hid, Within], rfl⟩
          case round =>
            obtain ⟨j, hjc, hgk, rfl, HT, rfl⟩ := hrel
            have HGK := Lib.hid hgk
            clear hgk
            by_cases hlt : j < p.length
            · obtain ⟨b, off, rfl, hg, hcell⟩ := HJ.out j hlt
              have HST : Hid (-67108864 ≤ p[j] ∧ p[j] ≤ 67108864 → Within 67108864 (p.take (j + 1))) := fun h => HT.out.step hlt h
              generalize p[j] = x at hcell HST
              clear hg
              by_cases h1 : x > 67108864
              · have t3 : decide (x > 67108864) = true := decide_eq_true h1
                clear HST
                go_wp2
                go_ret
                exact ⟨rfl, HB.out⟩
              · by_cases h2 : x < -67108864
                · have t3 : decide (x > 67108864) = false := decide_eq_false h1
                  have t4 : decide (x < -67108864) = true := decide_eq_true h2
                  clear HST
                  go_wp2
                  go_ret
                  exact ⟨rfl, HB.out⟩
                · have t3 : decide (x > 67108864) = false := decide_eq_false h1
                  have t4 : decide (x < -67108864) = false := decide_eq_false h2
                  have HN := Lib.hid (HST.out (by omega))
                  clear HST
                  go_wp2
                  go_roundg (gk - 1)
                  case rel => exact ⟨j + 1, by omega, by have := HGK.out; omega, by go_num, HN, rfl⟩
                  case measure => have := HGK.out; omega
            · obtain rfl : j = p.length := by omega
              have HTM : Hid (Tame c p) := ⟨by omega, by omega, HC.out, by have := HT.out; rw [List.take_length] at this; exact this⟩
              have HCP := Lib.hid (cPredict ao bo cap cap2 c p w1 HTM.out HI.out HJ.out)
              have HRP := fun k => Lib.hid (rPredict ao bo cap cap2 c p (w1.drewN k) HTM.out (HI.out.drewN k) (HJ.out.drewN k))
              have HPN : Hid (c.length = 0 ∨ p.length = 0 → pred c p = 0) := pred_none
              generalize pred c p = r at HCP HRP HPN
              clear HT HGK HTM HI HJ HC
              by_cases hz : c.length = 0
              · have t5 : decide ((c.length : Int) > 0) = false := decide_eq_false (by omega)
                have t5' : decide (0 < c.length) = false := decide_eq_false (by omega)
                have hr := HPN.out (.inl hz)
                subst hr
                clear hz HPN
                go_wp2_with fail
                refine HCP.out.mono ?_
                rintro e w2 ⟨rfl, k, rfl⟩
                go_wp2_with fail
                refine (HRP _).out.mono ?_
                rintro e w2 ⟨rfl, k2, rfl⟩
                go_wp2
                go_ret
                exact ⟨by simp, below_drewN HB.out _⟩
              · by_cases hz2 : p.length = 0
                · have t5 : decide (0 < c.length) = true := decide_eq_true (by omega)
                  have t6 : decide (0 < p.length) = false := decide_eq_false (by omega)
                  have hr := HPN.out (.inr hz2)
                  subst hr
                  clear hz2 HPN
                  go_wp2_with fail
                  refine HCP.out.mono ?_
                  rintro e w2 ⟨rfl, k, rfl⟩
                  go_wp2_with fail
                  refine (HRP _).out.mono ?_
                  rintro e w2 ⟨rfl, k2, rfl⟩
                  go_wp2
                  go_ret
                  exact ⟨by simp, below_drewN HB.out _⟩
                · have t5 : decide (0 < c.length) = true := decide_eq_true (by omega)
                  have t6 : decide (0 < p.length) = true := decide_eq_true (by omega)
                  go_wp2_with fail
                  refine HCP.out.mono ?_
                  rintro e w2 ⟨rfl, k, rfl⟩
                  go_wp2_with fail
                  refine (HRP _).out.mono ?_
                  rintro e w2 ⟨rfl, k2, rfl⟩
                  go_wp2
                  go_ret
                  exact ⟨by simp, below_drewN HB.out _⟩
end Go.Proofs.Ytengpeaagfilmaa
