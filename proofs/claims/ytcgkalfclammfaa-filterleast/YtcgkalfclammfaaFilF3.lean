import Derived.Test.YtcgkalfclammfaaFilH7
import Derived.Test.YtcgkalfclammfaaFilM2
namespace Go.Proofs.Ytcgkalfclammfaa
open Go.RowKit Go.Proofs Go.Proofs.PipeA Go.Proofs.LatM Go.Proofs.FilM
set_option maxRecDepth 100000

/-- k is the least of the first c numbers of indices with the least sum. -/
def LeastTo (l xs : List Int) (c k : Nat) : Prop := k < c ∧ ∀ p, p < c → costN l xs k ≤ costN l xs p ∧ (costN l xs p = costN l xs k → k ≤ p)
theorem LeastTo.all {l xs : List Int} {k : Nat} (h : LeastTo l xs (l.length + 1) k) : IsLeast l xs k := ⟨by have := h.1; omega, fun p hp => h.2 p (by omega)⟩
theorem LeastTo.one {l xs : List Int} {c : Nat} (h : c = 0) : LeastTo l xs (c + 1) c := by
  refine ⟨by omega, fun p hp => ?_⟩
  obtain rfl : p = c := by omega
  exact ⟨Nat.le_refl _, fun _ => Nat.le_refl _⟩
theorem LeastTo.new {l xs : List Int} {c k : Nat} (h : LeastTo l xs c k) (hc : costN l xs c < costN l xs k) : LeastTo l xs (c + 1) c := by
  refine ⟨by omega, fun p hp => ?_⟩
  by_cases e : p = c
  · subst e; exact ⟨Nat.le_refl _, fun _ => Nat.le_refl _⟩
  · have := h.2 p (by omega); exact ⟨by omega, fun e => by omega⟩
theorem LeastTo.old {l xs : List Int} {c k : Nat} (h : LeastTo l xs c k) (hc : ¬ costN l xs c < costN l xs k) : LeastTo l xs (c + 1) k := by
  refine ⟨by have := h.1; omega, fun p hp => ?_⟩
  by_cases e : p = c
  · subst e; exact ⟨by omega, fun _ => by have := h.1; omega⟩
  · exact h.2 p (by omega)

set_option maxHeartbeats 3200000 in
theorem rLeast (ao bo : Option Addr) (cap cap2 : Nat) (l xs : List Int) (w : World) (hgd : goodL l = true) (hs : xs.all isS = true) (hcap : l.length ≤ cap) (hxl : xs.length ≤ 1000) (hcap2 : xs.length ≤ cap2) (hi : IntsAt w ao l) (hj : IntsAt w bo xs) :
    Calls Try.prog 18 #[.slice ao l.length cap, .slice bo xs.length cap2] w fun e w' => ∃ k : Nat, e = .returned (.int .i64 (k : Int)) ∧ IsLeast l xs k ∧ Below w.heap.size w w' := by
  have hl16 := good_len hgd
  have HI := Lib.hid hi
  have HJ := Lib.hid hj
  have HGD := Lib.hid hgd
  have HSS := Lib.hid hs
  clear hi hj hgd hs
  go_enter Try.func18, Try.ntmps18
  go_wp2
  go_loopg [5, 6, 7, 8, 9, 10] (l.length + 1) (fun gk bv lv i q1 q2 q3 wr => ∃ (c k : Nat) (L : Int), c ≤ l.length + 1 ∧ gk + c = l.length + 1 ∧ i = .int .i64 c ∧ bv = .int .i64 k ∧ lv = .int .i64 L ∧ ((c = 0 ∧ k = 0 ∧ L = -1) ∨ (0 < c ∧ L = (costN l xs k : Nat) ∧ Hid (LeastTo l xs c k))) ∧ Hid (Below w.heap.size w wr))
  case atStart => exact ⟨0, 0, -1, by omega, by omega, rfl, rfl, rfl, .inl ⟨rfl, rfl, rfl⟩, Below.refl _ _⟩
  case round =>
    obtain ⟨c, k, L, hc, hgk, rfl, rfl, rfl, hst, HW⟩ := hrel
    have HGK := Lib.hid hgk
    clear hgk
    by_cases hlt : c ≤ l.length
    · have hcut := cut_left0 ao l.length cap c (by omega)
      have hgt := good_take HGD.out c
      have hlen : (l.take c).length = c := by rw [List.length_take]; omega
      have HR : Hid (Calls Try.prog 12 #[.slice (cutA ao cap 0) c cap, .slice bo xs.length cap2] wr (ResR (l.take c) xs wr)) := by
        have := rResiduals (cutA ao cap 0) bo cap cap2 (l.take c) xs wr (by omega) (by omega) (by omega) hcap2 ((HI.out.below HW.out).cut0 cap c) (HJ.out.below HW.out)
        rw [hlen] at this
        exact this
      have HSM : Hid (∀ ao' cap' W, IntsAt W ao' (res (l.take c) xs) → Calls Try.prog 32 #[.slice ao' xs.length cap'] W fun e w' => e = .returned (.int .i64 (costN l xs c : Nat)) ∧ W = w') := fun ao' cap' W hW => by
        have := rSum ao' cap' (res (l.take c) xs) W (by rw [res_length]; omega) (fun x hx => by
          obtain ⟨i, hi, rfl⟩ := List.getElem_of_mem hx
          have hi' : i < xs.length := by rw [res_length] at hi; exact hi
          rw [res_at hi']
          have := res_small hgt HSS.out hi'
          omega) hW
        rw [res_length] at this
        exact this
      have hcb : costN l xs c ≤ 1000000000000000000 := by
        have := sumN_bound (l := res (l.take c) xs) (fun x hx => by
          obtain ⟨i, hi, rfl⟩ := List.getElem_of_mem hx
          have hi' : i < xs.length := by rw [res_length] at hi; exact hi
          rw [res_at hi']
          have := res_small hgt HSS.out hi'
          omega)
        rw [res_length] at this
        unfold costN
        omega
      have HCD : Hid (codeR (l.take c) xs = 0) := codeR_of hgt HSS.out
      generalize cutA ao cap 0 = ac at hcut HR
      obtain ⟨s, hs⟩ : ∃ s, s = costN l xs c := ⟨_, rfl⟩
      rw [← hs] at HSM hcb
      have HSE := Lib.hid hs
      clear hs hgt hlen
      rcases hst with ⟨hc0, rfl, rfl⟩ | ⟨hc0, hL, HLT⟩
      · have HNW : Hid (LeastTo l xs (c + 1) c) := LeastTo.one hc0
        clear hc0
        go_wp2_with fail
        refine HR.out.mono ?_
        rintro e w2 h
        rcases h with ⟨hc, _⟩ | ⟨_, ao2, cap2', rfl, hi2, hb2⟩
        · exact absurd HCD.out hc
        · have HS2 := Lib.hid (HSM.out ao2 cap2' w2 hi2)
          have HB2 := Lib.hid (HW.out.trans (hb2.mono HW.out.size))
          clear hi2 hb2 HR HSM
          go_wp2_with fail
          refine HS2.out.mono ?_
          rintro e w3 ⟨rfl, rfl⟩
          go_wp2
          go_roundg (gk - 1)
          case rel => exact ⟨c + 1, c, _, by omega, by have := HGK.out; omega, by go_num, rfl, rfl, .inr ⟨by omega, by rw [HSE.out], HNW⟩, HB2⟩
          case measure => have := HGK.out; omega
      · by_cases hsl : s < costN l xs k
        · have t2 : decide (s < costN l xs k) = true := decide_eq_true hsl
          have HNW : Hid (LeastTo l xs (c + 1) c) := HLT.out.new (by rw [← HSE.out]; exact hsl)
          subst hL
          generalize costN l xs k = ck at t2 hsl
          clear hsl
          go_wp2_with fail
          refine HR.out.mono ?_
          rintro e w2 h
          rcases h with ⟨hc, _⟩ | ⟨_, ao2, cap2', rfl, hi2, hb2⟩
          · exact absurd HCD.out hc
          · have HS2 := Lib.hid (HSM.out ao2 cap2' w2 hi2)
            have HB2 := Lib.hid (HW.out.trans (hb2.mono HW.out.size))
            clear hi2 hb2 HR HSM
            go_wp2_with fail
            refine HS2.out.mono ?_
            rintro e w3 ⟨rfl, rfl⟩
            go_wp2
            go_roundg (gk - 1)
            case rel => exact ⟨c + 1, c, _, by omega, by have := HGK.out; omega, by go_num, rfl, rfl, .inr ⟨by omega, by rw [HSE.out], HNW⟩, HB2⟩
            case measure => have := HGK.out; omega
        · have t2 : decide (s < costN l xs k) = false := decide_eq_false hsl
          have HNW : Hid (LeastTo l xs (c + 1) k) := HLT.out.old (by rw [← HSE.out]; exact hsl)
          subst hL
          obtain ⟨ck, hck⟩ : ∃ ck, ck = costN l xs k := ⟨_, rfl⟩
          rw [← hck] at t2
          have HCK := Lib.hid hck
          clear hsl
          rw [← hck]
          clear hck
          go_wp2_with fail
          refine HR.out.mono ?_
          rintro e w2 h
          rcases h with ⟨hc, _⟩ | ⟨_, ao2, cap2', rfl, hi2, hb2⟩
          · exact absurd HCD.out hc
          · have HS2 := Lib.hid (HSM.out ao2 cap2' w2 hi2)
            have HB2 := Lib.hid (HW.out.trans (hb2.mono HW.out.size))
            clear hi2 hb2 HR HSM
            go_wp2_with fail
            refine HS2.out.mono ?_
            rintro e w3 ⟨rfl, rfl⟩
            go_wp2
            go_roundg (gk - 1)
            case rel => exact ⟨c + 1, k, _, by omega, by have := HGK.out; omega, by go_num, rfl, rfl, .inr ⟨by omega, by rw [HCK.out], HNW⟩, HB2⟩
            case measure => have := HGK.out; omega
    · obtain rfl : c = l.length + 1 := by omega
      rcases hst with ⟨h, _⟩ | ⟨_, _, HLT⟩
      · omega
      · have HA := Lib.hid HLT.out.all
        go_wp2
        go_ret
        exact ⟨k, rfl, HA.out, HW.out⟩
end Go.Proofs.Ytcgkalfclammfaa
