import Derived.Test.YtefbakhhlonafaaDoorBlkZ1
import Derived.Test.YtefbakhhlonafaaDoorBlkL1

namespace Go.Proofs.YtefbakhhlonafaaDoor
open Go.RowKit Go.Proofs Go.Proofs.PipeM Go.Proofs.PipeA Go.Proofs.BlkM Go.Proofs.BlkB
set_option maxRecDepth 100000

/-- So many low bits are 0 of these, and no more, up to 24. -/
def WantIs (l : List Int) (W : Nat) : Prop := W ≤ 24 ∧ (∀ x ∈ l, ((2 ^ W : Nat) : Int) ∣ x) ∧ (W = 24 ∨ ∃ x ∈ l, ¬ ((2 ^ (W + 1) : Nat) : Int) ∣ x)
theorem want_shift {l : List Int} {W : Nat} (h : WantIs l W) : shiftN l = W := by
  obtain ⟨h1, h2, h3⟩ := h
  have a := (zerosL_le l (k := W) (by omega)).2 h2
  unfold shiftN
  rcases h3 with rfl | ⟨x, hx, hn⟩
  · omega
  · have b : ¬ (W + 1 ≤ zerosL l) := fun h => hn ((zerosL_le l (k := W + 1) (by omega)).1 h x hx)
    omega
theorem pow_dvd_le {a b : Nat} (h : a ≤ b) : ((2 ^ a : Nat) : Int) ∣ ((2 ^ b : Nat) : Int) := Int.ofNat_dvd.2 (Nat.pow_dvd_pow 2 h)
/-- Of one number more. -/
theorem want_step {l : List Int} {W K : Nat} {x : Int} (h : WantIs l W) (hk : K ≤ 24) (hd : ((2 ^ K : Nat) : Int) ∣ x) (hn : K = 24 ∨ ¬ ((2 ^ (K + 1) : Nat) : Int) ∣ x) : WantIs (l ++ [x]) (min W K) := by
  obtain ⟨h1, h2, h3⟩ := h
  by_cases hle : W ≤ K
  · rw [Nat.min_eq_left hle]
    refine ⟨h1, fun y hy => ?_, ?_⟩
    · rcases List.mem_append.1 hy with hy | hy
      · exact h2 y hy
      · simp at hy; subst hy; exact Int.dvd_trans (pow_dvd_le hle) hd
    · rcases h3 with h3 | ⟨y, hy, h4⟩
      · exact .inl h3
      · exact .inr ⟨y, List.mem_append_left _ hy, h4⟩
  · rw [Nat.min_eq_right (by omega)]
    refine ⟨hk, fun y hy => ?_, ?_⟩
    · rcases List.mem_append.1 hy with hy | hy
      · exact Int.dvd_trans (pow_dvd_le (by omega)) (h2 y hy)
      · simp at hy; subst hy; exact hd
    · rcases hn with hn | hn
      · exact .inl hn
      · exact .inr ⟨x, List.mem_append_right _ (by simp), hn⟩

set_option maxHeartbeats 1600000 in
theorem shifts_much (ao : Option Addr) (cap len : Nat) (w : World) (h : ¬ len ≤ 100) :
    Calls Tryd.prog 3 #[.slice ao len cap] w fun e w' => e = .returned (.bool true) ∧ Below w.heap.size w w' := by
  have HA := fun W => Lib.hid (awake10 W)
  have t1 : decide ((100 : Int) < (len : Int)) = true := decide_eq_true (by omega)
  have t2 : decide (100 < len) = true := decide_eq_true (by omega)
  clear h
  go_enter Tryd.func3, Tryd.ntmps3
  go_wp2_with fail
  refine (HA _).out.mono ?_
  rintro e w1 ⟨rfl, hb1⟩
  have HB1 := Lib.hid hb1
  clear hb1
  go_wp2_with fail
  refine (HA _).out.mono ?_
  rintro e w2 ⟨rfl, hb2⟩
  have HB2 := Lib.hid (HB1.out.trans (hb2.mono HB1.out.size))
  clear hb2
  go_wp2
  go_ret
  exact ⟨rfl, HB2.out⟩

set_option maxHeartbeats 3200000 in
theorem shifts_few (ao : Option Addr) (cap : Nat) (l : List Int) (w : World) (h : l.length ≤ 100) (hi : IntsAt w ao l) (hin : ∀ x ∈ l, In64 x) (ht : TabZ w) :
    Calls Tryd.prog 3 #[.slice ao l.length cap] w fun e w' => e = .returned (.bool true) ∧ Below w.heap.size w w' := by
  have HA := fun W => Lib.hid (awake10 W)
  have t1 : decide ((100 : Int) < (l.length : Int)) = false := decide_eq_false (by omega)
  have t2 : decide (100 < l.length) = false := decide_eq_false (by omega)
  have HI := Lib.hid hi
  have HIN := Lib.hid hin
  have HT := Lib.hid ht
  have HSH : Hid (∀ W, Below w.heap.size w W → Calls Tryd.prog 5 #[.slice ao l.length cap] W fun e w' => e = .returned (.int .i64 (shiftN l : Nat)) ∧ W = w') := fun W hW => cShift ao cap l W (by omega) (hi.below hW) (ht.below hW)
  have HWS : Hid (∀ W, WantIs l W → shiftN l = W) := fun W h => want_shift h
  clear hi hin ht
  go_enter Tryd.func3, Tryd.ntmps3
  go_wp2_with fail
  refine (HA _).out.mono ?_
  rintro e w1 ⟨rfl, hb1⟩
  have HB1 := Lib.hid hb1
  have HI1 := Lib.hid (HI.out.below hb1)
  clear hb1
  go_wp2
  go_loopg [3, 5, 6, 17] l.length (fun gk va q1 q2 i wr => ∃ c W : Nat, c ≤ l.length ∧ gk + c = l.length ∧ i = .int .i64 c ∧ va = .int .i64 (W : Int) ∧ W ≤ 24 ∧ Hid (WantIs (l.take c) W) ∧ w1 = wr)
  case atStart => exact ⟨0, 24, Nat.zero_le _, by omega, rfl, rfl, by omega, ⟨Nat.le_refl _, by simp, .inl rfl⟩, rfl⟩
  case round =>
    obtain ⟨c, W, hc, hgk, rfl, rfl, hW, HWT, rfl⟩ := hrel
    obtain ⟨G2, rfl⟩ : ∃ G2, G2 = gk := ⟨_, rfl⟩
    have HGK := Lib.hid hgk
    clear hgk
    by_cases hlt : c < l.length
    · obtain ⟨b, off, rfl, hg, hcell⟩ := HI1.out c hlt
      have hx64 := HIN.out _ (List.getElem_mem hlt)
      have HST : Hid (l.take (c + 1) = l.take c ++ [l[c]]) := List.take_succ_eq_append_getElem hlt
      generalize l[c] = x at *
      have HX64 := Lib.hid hx64
      clear hx64 hg
      go_wp2
      go_loopg [5, 6] 24 (fun gk n k wr => ∃ (K : Nat) (y : Int), K ≤ 24 ∧ gk + K = 24 ∧ k = .int .i64 (K : Int) ∧ n = .int .i64 y ∧ Hid (x = ((2 ^ K : Nat) : Int) * y) ∧ In64 y ∧ w1 = wr)
      case atStart => exact ⟨0, x, by omega, by omega, rfl, rfl, by show _ = _; simp, HX64.out, rfl⟩
      case round =>
        obtain ⟨K, y, hK, hgK, rfl, rfl, HXY, hy64, rfl⟩ := hrel
        have HGX := Lib.hid hgK
        unfold In64 at hy64
        clear hgK
        by_cases hk24 : K < 24
        · have t3 : decide ((K : Int) < 24) = true := decide_eq_true (by omega)
          by_cases hev : y % 2 = 0
          · obtain ⟨z, hz⟩ : ∃ z, y = 2 * z := ⟨y / 2, by omega⟩
            subst hz
            have t4 : (2 * z).tmod 2 = 0 := Int.mul_tmod_right 2 z
            have t5 : (2 * z).tdiv 2 = z := Int.mul_tdiv_cancel_left z (by decide)
            have HXZ : Hid (x = ((2 ^ (K + 1) : Nat) : Int) * z) := by
              show _ = _
              rw [HXY.out, Nat.pow_succ]
              simp [Int.mul_assoc]
            have HZ64 : Hid (In64 z) := by show In64 z; unfold In64; omega
            clear hev
            go_wp2
            go_roundg (gk - 1)
            case rel => exact ⟨K + 1, z, by omega, by have := HGX.out; omega, by go_num, rfl, HXZ, HZ64.out, rfl⟩
            case measure => have := HGX.out; omega
          · have t4 : (y.tmod 2 == 0) = false := beq_eq_false_iff_ne.2 (fun h => by have := Int.dvd_of_tmod_eq_zero h; omega)
            have HND : Hid (¬ ((2 ^ (K + 1) : Nat) : Int) ∣ x) := by
              show ¬ _
              rintro ⟨u, hu⟩
              rw [HXY.out, Nat.pow_succ, Int.natCast_mul, Int.mul_assoc] at hu
              have hp : ((2 ^ K : Nat) : Int) ≠ 0 := by have := Nat.two_pow_pos K; omega
              have := Int.eq_of_mul_eq_mul_left hp hu
              omega
            have HD : Hid (((2 ^ K : Nat) : Int) ∣ x) := ⟨y, HXY.out⟩
            have HNX := Lib.hid (want_step HWT.out hK HD.out (.inr HND.out))
            rw [← HST.out] at HNX
            have HW2 : Hid (min W K ≤ 24) := by show _ ≤ _; omega
            obtain ⟨m, hm⟩ : ∃ m, m = min W K := ⟨_, rfl⟩
            rw [← hm] at HNX HW2
            by_cases hwk : W ≤ K
            · obtain rfl : m = W := by omega
              have u1 : decide ((K : Int) < (m : Int)) = false := decide_eq_false (by omega)
              clear hm hev
              go_wp2
              go_roundg (G2 - 1)
              case rel => exact ⟨c + 1, m, by omega, by have := HGK.out; omega, by go_num, rfl, HW2.out, HNX, rfl⟩
              case measure => have := HGK.out; omega
            · obtain rfl : m = K := by omega
              have u1 : decide ((m : Int) < (W : Int)) = true := decide_eq_true (by omega)
              clear hm hev
              go_wp2
              go_roundg (G2 - 1)
              case rel => exact ⟨c + 1, m, by omega, by have := HGK.out; omega, by go_num, rfl, HW2.out, HNX, rfl⟩
              case measure => have := HGK.out; omega
        · obtain rfl : K = 24 := by omega
          have t3 : decide (((24 : Nat) : Int) < 24) = false := by decide
          have HD : Hid (((2 ^ 24 : Nat) : Int) ∣ x) := ⟨y, HXY.out⟩
          have HNX := Lib.hid (want_step HWT.out (Nat.le_refl _) HD.out (.inl rfl))
          rw [← HST.out, Nat.min_eq_left hW] at HNX
          go_wp2
          go_roundg (G2 - 1)
          case rel => exact ⟨c + 1, W, by omega, by have := HGK.out; omega, by go_num, by first | rfl | (congr 1; omega) | skip, hW, HNX, rfl⟩
          case measure => have := HGK.out; omega
    · obtain rfl : c = l.length := by omega
      have hwl := HWT.out
      rw [List.take_length] at hwl
      have hsh := HSH.out w1 HB1.out
      rw [HWS.out W hwl] at hsh
      have HS2 := Lib.hid hsh
      clear hwl hsh
      go_wp2_with fail
      refine HS2.out.mono ?_
      rintro e w2 ⟨rfl, rfl⟩
      go_wp2
      go_ret
      exact ⟨by simp, HB1.out⟩
theorem blockShifts (ao : Option Addr) (cap : Nat) (l : List Int) (w : World) (hi : IntsAt w ao l) (hin : ∀ x ∈ l, In64 x) (ht : TabZ w) :
    Calls Tryd.prog 3 #[.slice ao l.length cap] w fun e w' => e = .returned (.bool true) ∧ Below w.heap.size w w' := by
  by_cases h : l.length ≤ 100
  · exact shifts_few ao cap l w h hi hin ht
  · exact shifts_much ao cap l.length w h
end Go.Proofs.YtefbakhhlonafaaDoor
