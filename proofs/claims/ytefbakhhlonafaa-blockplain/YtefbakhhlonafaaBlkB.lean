import Derived.Test.YtefbakhhlonafaaLatM
import Derived.Test.YtefbakhhlonafaaBlkM
import Derived.Lib.Hide
import Derived.Laws.Bits64b
import Derived.Lib.TrailingZeros
import Derived.RowKit

section
namespace Go.Proofs.Ytefbakhhlonafaa
open Go.RowKit Go.Proofs Go.Proofs.PipeM Go.Proofs.PipeA Go.Proofs.BlkM
set_option maxRecDepth 100000

theorem depthB_cases (d : Int) : (d < 8 ∧ depthB d = false) ∨ (8 ≤ d ∧ decide (d ≤ 26) = false ∧ depthB d = false) ∨ (8 ≤ d ∧ decide (d ≤ 26) = true ∧ depthB d = true) := by
  unfold depthB
  by_cases h1 : d < 8
  · exact .inl ⟨h1, decide_eq_false (by omega)⟩
  · by_cases h2 : d ≤ 26
    · exact .inr (.inr ⟨by omega, decide_eq_true h2, decide_eq_true (by omega)⟩)
    · exact .inr (.inl ⟨by omega, decide_eq_false h2, decide_eq_false (by omega)⟩)
theorem rDepth (d : Int) (w : World) :
    Calls Try.prog 11 #[.int .i64 d] w fun e w' => e = .returned (.bool (depthB d)) ∧ w = w' := by
  rcases depthB_cases d with ⟨h1, h2⟩ | ⟨h1, t, h2⟩ | ⟨h1, t, h2⟩
  all_goals
    rw [h2]
    clear h2
    go_enter Try.func11, Try.ntmps11
    go_wp2
    go_ret
    exact ⟨rfl, rfl⟩

theorem hp_pow (m : Nat) (h : 1 ≤ m) : ((2 ^ (m - 1) : Nat) : Int) = halfOf (m : Int) := by rw [hp_nat h]; simp
set_option maxHeartbeats 800000 in
theorem rHas (n : Int) (m : Nat) (w : World) (h1 : 8 ≤ m) (h2 : m ≤ 26) :
    Calls Try.prog 13 #[.int .i64 n, .int .i64 m] w fun e w' => e = .returned (.bool (hasP (halfOf (m : Int)) n)) ∧ w = w' := by
  have HP := Lib.hid (refPower (m - 1) w (by omega))
  rw [hp_pow m (by omega)] at HP
  have hb := hp_bound h1 h2
  have HK : Hid ((m : Int) - 1 = ((m - 1 : Nat) : Int)) := by show _ = _; omega
  generalize halfOf (m : Int) = P at *
  by_cases a1 : -P ≤ n
  · have t1 : decide (-P ≤ n) = true := decide_eq_true a1
    by_cases a2 : n < P
    · have HF : Hid (hasP P n = true) := decide_eq_true ⟨a1, a2⟩
      have t2 : decide (n < P) = true := decide_eq_true a2
      clear a1 a2
      go_enter Try.func13, Try.ntmps13
      go_wp2_with fail
      rw [HK.out]
      refine HP.out.mono ?_
      rintro e w1 ⟨rfl, rfl⟩
      go_wp2_with fail
      rw [HK.out]
      refine HP.out.mono ?_
      rintro e w1 ⟨rfl, rfl⟩
      go_wp2
      go_ret
      exact ⟨by rw [HF.out]; rfl, rfl⟩
    · have HF : Hid (hasP P n = false) := decide_eq_false (fun h => a2 h.2)
      have t2 : decide (n < P) = false := decide_eq_false a2
      clear a1 a2
      go_enter Try.func13, Try.ntmps13
      go_wp2_with fail
      rw [HK.out]
      refine HP.out.mono ?_
      rintro e w1 ⟨rfl, rfl⟩
      go_wp2_with fail
      rw [HK.out]
      refine HP.out.mono ?_
      rintro e w1 ⟨rfl, rfl⟩
      go_wp2
      go_ret
      exact ⟨by rw [HF.out]; rfl, rfl⟩
  · have HF : Hid (hasP P n = false) := decide_eq_false (fun h => a1 h.1)
    have t1 : decide (-P ≤ n) = false := decide_eq_false a1
    clear a1
    go_enter Try.func13, Try.ntmps13
    go_wp2_with fail
    rw [HK.out]
    refine HP.out.mono ?_
    rintro e w1 ⟨rfl, rfl⟩
    go_wp2
    go_ret
    exact ⟨by rw [HF.out]; rfl, rfl⟩

end Go.Proofs.Ytefbakhhlonafaa
end

section
namespace Go.Proofs.BlkB
open Go

/-- Two numbers' bits, each that one of them has. -/
def orI (a b : Int) : Int := bits BinOp.or IntKind.i64 a b
theorem toNat_mod (a : Int) {k : Nat} (hk : k ≤ 64) : ((BitVec.ofInt 64 a).toNat % 2 ^ k = 0) ↔ ((2 ^ k : Nat) : Int) ∣ a := by
  rw [BitVec.toNat_ofInt]
  obtain ⟨j, hj⟩ : ∃ j, 64 = k + j := ⟨64 - k, by omega⟩
  rw [hj]
  have hd : ((2 ^ k : Nat) : Int) ∣ ((2 ^ (k + j) : Nat) : Int) := ⟨((2 ^ j : Nat) : Int), by rw [Nat.pow_add]; simp⟩
  have hp : (0 : Int) < ((2 ^ (k + j) : Nat) : Int) := by have := Nat.two_pow_pos (k + j); omega
  have h0 : 0 ≤ a % ((2 ^ (k + j) : Nat) : Int) := Int.emod_nonneg _ (by omega)
  have e : a = a % ((2 ^ (k + j) : Nat) : Int) + ((2 ^ (k + j) : Nat) : Int) * (a / ((2 ^ (k + j) : Nat) : Int)) := (Int.emod_add_mul_ediv a _).symm
  have hq : ((2 ^ k : Nat) : Int) ∣ ((2 ^ (k + j) : Nat) : Int) * (a / ((2 ^ (k + j) : Nat) : Int)) := Int.dvd_trans hd (Int.dvd_mul_right _ _)
  constructor
  · intro h
    have h1 : ((2 ^ k : Nat) : Int) ∣ ((a % ((2 ^ (k + j) : Nat) : Int)).toNat : Int) := Int.ofNat_dvd.2 (Nat.dvd_of_mod_eq_zero h)
    rw [Int.toNat_of_nonneg h0] at h1
    rw [e]
    exact Int.dvd_add h1 hq
  · intro h
    have h1 : ((2 ^ k : Nat) : Int) ∣ a % ((2 ^ (k + j) : Nat) : Int) := by
      have := (Int.dvd_add_left (a := ((2 ^ k : Nat) : Int)) hq (b := a % ((2 ^ (k + j) : Nat) : Int))).1 (by rw [← e]; exact h)
      exact this
    rw [← Int.toNat_of_nonneg h0] at h1
    exact Nat.mod_eq_zero_of_dvd (Int.ofNat_dvd.1 h1)
theorem wrap_ofInt (z : Int) : BitVec.ofInt 64 (IntKind.i64.wrap z) = BitVec.ofInt 64 z := by
  apply BitVec.eq_of_toNat_eq
  rw [BitVec.toNat_ofInt, BitVec.toNat_ofInt]
  congr 1
  have : (IntKind.i64.wrap z - z) % ((2 ^ 64 : Nat) : Int) = 0 := by
    simp only [IntKind.wrap, IntKind.signed, IntKind.bits]
    simp
    split <;> omega
  omega
theorem or_dvd (a b : Int) {k : Nat} (hk : k ≤ 64) : ((2 ^ k : Nat) : Int) ∣ orI a b ↔ ((2 ^ k : Nat) : Int) ∣ a ∧ ((2 ^ k : Nat) : Int) ∣ b := by
  rw [← toNat_mod _ hk, ← toNat_mod a hk, ← toNat_mod b hk]
  have e : (BitVec.ofInt 64 (orI a b)).toNat = (BitVec.ofInt 64 a).toNat ||| (BitVec.ofInt 64 b).toNat := by
    show (BitVec.ofInt 64 (IntKind.i64.wrap ((BitVec.ofInt 64 a ||| BitVec.ofInt 64 b).toNat : Int))).toNat = _
    rw [wrap_ofInt, BitVec.ofInt_natCast, BitVec.toNat_ofNat, BitVec.toNat_or]
    refine Nat.mod_eq_of_lt ?_
    rw [← BitVec.toNat_or]
    exact BitVec.isLt _
  rw [e, Nat.or_mod_two_pow]
  exact Nat.or_eq_zero_iff
/-- A number of 64 bits. -/
def In64 (a : Int) : Prop := -9223372036854775808 ≤ a ∧ a ≤ 9223372036854775807
theorem or_in (a b : Int) : In64 (orI a b) := by
  show In64 (IntKind.i64.wrap _)
  unfold In64
  generalize ((BitVec.ofInt 64 a ||| BitVec.ofInt 64 b).toNat : Int) = z
  simp only [IntKind.wrap, IntKind.signed, IntKind.bits]
  simp
  split <;> omega
theorem dvd64 {a : Int} (h : In64 a) : ((2 ^ 64 : Nat) : Int) ∣ a ↔ a = 0 := by
  unfold In64 at h
  constructor
  · rintro ⟨c, hc⟩
    have : ((2 ^ 64 : Nat) : Int) = 18446744073709551616 := by decide
    rw [this] at hc
    omega
  · rintro rfl; exact Int.dvd_zero _
theorem or_zero {a b : Int} (ha : In64 a) (hb : In64 b) : orI a b = 0 ↔ a = 0 ∧ b = 0 := by
  rw [← dvd64 (or_in a b), or_dvd a b (Nat.le_refl 64), dvd64 ha, dvd64 hb]
theorem or_nought {a : Int} (h : In64 a) : orI a 0 = a := by
  show IntKind.i64.wrap ((BitVec.ofInt 64 a ||| BitVec.ofInt 64 0).toNat : Int) = a
  rw [show BitVec.ofInt 64 0 = 0#64 from rfl, BitVec.or_zero, BitVec.toNat_ofInt]
  unfold In64 at h
  simp only [IntKind.wrap, IntKind.signed, IntKind.bits]
  simp
  omega
end Go.Proofs.BlkB
end
