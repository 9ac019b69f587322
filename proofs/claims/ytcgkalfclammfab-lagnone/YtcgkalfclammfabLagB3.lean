import Derived.Test.YtcgkalfclammfabLagB2
namespace Go.Proofs.Ytcgkalfclammfab
open Go.RowKit Go.Proofs Go.Proofs.PipeA Go.Proofs.LagM
set_option maxRecDepth 100000

theorem off_small {n : Nat} {g : Int} {l : List Int} (hg : 0 ≤ g ∧ g ≤ 15) (hb : l.all inB = true) : ∀ x ∈ offL n g l, -1000000000000000 ≤ x ∧ x ≤ 1000000000000000 := fun x hx => by
  have := offL_bound (a := n) hg (all_B hb) x hx
  omega
theorem list_small {l : List Int} (hb : l.all inB = true) : ∀ x ∈ l, -1000000000000000 ≤ x ∧ x ≤ 1000000000000000 := fun x hx => by
  have := all_B hb x hx
  omega
theorem cost_none (l : List Int) : costT l (0, 0) = sumN l := by
  unfold costT
  simp only [Int.natCast_zero, off_none]

set_option maxHeartbeats 3200000 in
theorem rBest (ao : Option Addr) (cap : Nat) (l : List Int) (w : World) (hl : l.length ≤ 24) (hb : l.all inB = true) (hi : IntsAt w ao l) :
    Calls Try.prog 18 #[.slice ao l.length cap] w fun e w' => e = .returned (.tuple #[.int .i64 ((bestA l (l.length - 1)).1 : Nat), .int .i64 ((bestA l (l.length - 1)).2 : Nat)]) ∧ Below w.heap.size w w' := by
  have HI := Lib.hid hi
  have HB := Lib.hid hb
  have HSM := Lib.hid (rSum ao cap l w (by omega) (list_small hb) hi)
  rw [← cost_none] at HSM
  have HS0 : Hid (costT l (0, 0) = costT l (bestA l (1 - 1))) := rfl
  clear hi hb
  go_enter Try.func18, Try.ntmps18
  go_wp2_with fail
  refine HSM.out.mono ?_
  rintro e w1 ⟨rfl, rfl⟩
  rw [HS0.out]
  go_wp2
  go_loopg [4, 5, 6, 7, 8, 9] (l.length - 1) (fun gk qn qg qs i q5 q6 wr => ∃ A p q : Nat, ∃ c : Nat, 1 ≤ A ∧ (A ≤ l.length ∨ A = 1) ∧ gk = l.length - A ∧ i = .int .i64 A ∧ qn = .int .i64 p ∧ qg = .int .i64 q ∧ qs = .int .i64 (c : Int) ∧ Hid ((p, q) = bestA l (A - 1) ∧ c = costT l (p, q)) ∧ Hid (Below w.heap.size w wr))
  case atStart => exact ⟨1, 0, 0, _, Nat.le_refl _, .inr rfl, rfl, rfl, rfl, rfl, rfl, ⟨rfl, rfl⟩, Below.refl _ _⟩
  case round =>
    obtain ⟨A, p, q, c, hA1, hA2, hgk, rfl, rfl, rfl, rfl, HZ, HW⟩ := hrel
    have HGK := Lib.hid hgk
    have HA2 := Lib.hid hA2
    clear hgk hA2 HSM HS0
    by_cases hlt : A < l.length
    · have hA255 : A ≤ 255 := by omega
      obtain ⟨W1, hW1⟩ : ∃ W1, W1 = wr := ⟨_, rfl⟩
      obtain ⟨G1, hG1⟩ : ∃ G1, G1 = gk := ⟨_, rfl⟩
      subst hW1 hG1
      have HZ1 : Hid ((p, q) = bestG l A (bestA l (A - 1)) (1 - 1) ∧ c = costT l (p, q)) := HZ.out
      have HW1 := Lib.hid HW.out
      have HGK1 := Lib.hid HGK.out
      clear HZ HGK HW
      go_wp2
      rw [show decide ((A : Int) ≤ 255) = true from decide_eq_true (by omega)]
      go_loopg [4, 5, 6, 8, 9] 15 (fun gk qn qg qs i q6 wr => ∃ G p q : Nat, ∃ c : Nat, 1 ≤ G ∧ G ≤ 16 ∧ gk + G = 16 ∧ i = .int .i64 G ∧ qn = .int .i64 p ∧ qg = .int .i64 q ∧ qs = .int .i64 (c : Int) ∧ Hid ((p, q) = bestG l A (bestA l (A - 1)) (G - 1) ∧ c = costT l (p, q)) ∧ Hid (Below w.heap.size w wr))
      case atStart => exact ⟨1, p, q, c, Nat.le_refl _, by omega, by omega, rfl, rfl, rfl, rfl, HZ1.out, HW1.out⟩
      case round =>
        clear HZ1
        obtain ⟨G, p, q, c, hG1, hG2, hgk, rfl, rfl, rfl, rfl, HZ, HW⟩ := hrel
        have HGK := Lib.hid hgk
        clear hgk
        by_cases hg : G ≤ 15
        · have HOF := Lib.hid (rOff A (G : Int) ao cap l wr hA255 (by omega) (by omega) (by omega) HB.out (HI.out.below HW.out))
          have HNX := Lib.hid (bestG_next l A (bestA l (A - 1)) hG1)
          obtain ⟨cN, hcN⟩ : ∃ cN, cN = costT l (A, G) := ⟨_, rfl⟩
          have HS : Hid (∀ a' c' W, IntsAt W a' (offL A (G : Int) l) → Calls Try.prog 19 #[.slice a' l.length c'] W fun e w' => e = .returned (.int .i64 (cN : Nat)) ∧ W = w') := fun a' c' W hW => by
            have := rSum a' c' (offL A (G : Int) l) W (by rw [offL_length]; omega) (off_small (by omega) HB.out) hW
            rw [offL_length, show sumN (offL A (G : Int) l) = cN from hcN.symm] at this
            exact this
          have HCN := Lib.hid hcN
          have hol := offL_length A (G : Int) l
          have HOL := Lib.hid hol
          clear hcN hol
          by_cases hless : cN < c
          · have HP : Hid ((A, G) = bestG l A (bestA l (A - 1)) (G + 1 - 1) ∧ cN = costT l (A, G)) := ⟨by rw [HNX.out, ← HZ.out.1]; exact (pick_new (by rw [← HCN.out, ← HZ.out.2]; exact hless)).symm, HCN.out⟩
            have t1 : decide (cN < c) = true := decide_eq_true hless
            clear hless
            go_wp2_with fail
            refine HOF.out.mono ?_
            rintro e w5 ⟨a5, c5, rfl, hi5, _, hb5⟩
            have HS5 := Lib.hid (HS.out a5 c5 w5 hi5)
            have HW5 := Lib.hid (HW.out.trans (hb5.mono HW.out.size))
            rw [HOL.out]
            clear hi5 hb5 HOF HS
            go_wp2_with fail
            refine HS5.out.mono ?_
            rintro e w6 ⟨rfl, rfl⟩
            go_wp2
            go_roundg (gk - 1)
            case rel => exact ⟨G + 1, A, G, cN, by omega, by omega, by have := HGK.out; omega, by go_num, rfl, rfl, rfl, HP.out, HW5.out⟩
            case measure => have := HGK.out; omega
          · have HP : Hid ((p, q) = bestG l A (bestA l (A - 1)) (G + 1 - 1) ∧ c = costT l (p, q)) := ⟨by rw [HNX.out, ← HZ.out.1]; exact (pick_old (by rw [← HCN.out, ← HZ.out.2]; exact hless)).symm, HZ.out.2⟩
            have t1 : decide (cN < c) = false := decide_eq_false hless
            clear hless
            go_wp2_with fail
            refine HOF.out.mono ?_
            rintro e w5 ⟨a5, c5, rfl, hi5, _, hb5⟩
            have HS5 := Lib.hid (HS.out a5 c5 w5 hi5)
            have HW5 := Lib.hid (HW.out.trans (hb5.mono HW.out.size))
            rw [HOL.out]
            clear hi5 hb5 HOF HS
            go_wp2_with fail
            refine HS5.out.mono ?_
            rintro e w6 ⟨rfl, rfl⟩
            go_wp2
            go_roundg (gk - 1)
            case rel => exact ⟨G + 1, p, q, c, by omega, by omega, by have := HGK.out; omega, by go_num, rfl, rfl, rfl, HP.out, HW5.out⟩
            case measure => have := HGK.out; omega
        · have hG16 : G = 16 := by omega
          have HZ8 : Hid ((p, q) = bestA l (A + 1 - 1) ∧ c = costT l (p, q)) := by
            show _ ∧ _
            rw [← bestA_next l hA1 hG16]
            exact HZ.out
          clear hG16 HZ HGK
          go_wp2
          go_roundg (G1 - 1)
          case rel => exact ⟨A + 1, p, q, c, by omega, .inl (by omega), by have := HGK1.out; omega, by go_num, rfl, rfl, rfl, HZ8.out, HW.out⟩
          case measure => have := HGK1.out; omega
    · have hAl : A - 1 = l.length - 1 := by have := HA2.out; omega
      have hA255 : A ≤ 255 := by have := HA2.out; omega
      have hZ := HZ.out.1
      rw [hAl] at hZ
      have HU := Lib.hid hZ
      clear hZ HZ HGK hAl
      go_wp2
      refine bodyPost_ret (v := .tuple #[.int .i64 (p : Int), .int .i64 (q : Int)]) (by simp [results, Try.results18, go_sem]) rfl ?_
      exact ⟨by rw [← HU.out], HW.out⟩
end Go.Proofs.Ytcgkalfclammfab
