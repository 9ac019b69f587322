import Derived.Laws.Bits64b
import Derived.Lib.TrailingZeros
import Derived.RowKit

namespace Go.Proofs.BlkB
open Go

/-- Two numbers' bits, each that one of them has. -/
def orI (a b : Int) : Int := bits BinOp.or IntKind.i64 a b
theorem toNat_mod (a : Int) {k : Nat} (hk : k ≤ 64) : ((BitVec.ofInt 64 a).toNat % 2 ^ k = 0) ↔ ((2 ^ k : Nat) : Int) ∣ a := by
  rw [BitVec.toNat_ofInt]
  obtain ⟨j, hj⟩ : ∃ j, 64 = k + j := ⟨64 - k, by omega⟩
  rw [hj]
  have hd : ((2 ^ k : Nat) : Int) ∣ ((2 ^ (k + j) : Nat) : Int) := ⟨((2 ^ j : Nat) : Int), by rw [Nat.pow_add]; simp⟩
  have hp : (0 : Int) < ((2 ^ (k + j) : Nat) : Int) := by have := Nat.two_pow_pos (k + j); omega
  have h0 : 0 ≤ a % ((2 ^ (k + j) : Nat) : Int) := Int.emod_nonneg _ (by omega)
  have e : a = a % ((2 ^ (k + j) : Nat) : Int) + ((2 ^ (k + j) : Nat) : Int) * (a / ((2 ^ (k + j) : Nat) : Int)) := (Int.emod_add_mul_ediv a _).symm
  have hq : ((2 ^ k : Nat) : Int) ∣ ((2 ^ (k + j) : Nat) : Int) * (a / ((2 ^ (k + j) : Nat) : Int)) := Int.dvd_trans hd (Int.dvd_mul_right _ _)
  constructor
  · intro h
    have h1 : ((2 ^ k : Nat) : Int) ∣ ((a % ((2 ^ (k + j) : Nat) : Int)).toNat : Int) := Int.ofNat_dvd.2 (Nat.dvd_of_mod_eq_zero h)
    rw [Int.toNat_of_nonneg h0] at h1
    rw [e]
    exact Int.dvd_add h1 hq
  · intro h
    have h1 : ((2 ^ k : Nat) : Int) ∣ a % ((2 ^ (k + j) : Nat) : Int) := by
      have := (Int.dvd_add_left (a := ((2 ^ k : Nat) : Int)) hq (b := a % ((2 ^ (k + j) : Nat) : Int))).1 (by rw [← e]; exact h)
      exact this
    rw [← Int.toNat_of_nonneg h0] at h1
    exact Nat.mod_eq_zero_of_dvd (Int.ofNat_dvd.1 h1)
theorem wrap_ofInt (z : Int) : BitVec.ofInt 64 (IntKind.i64.wrap z) = BitVec.ofInt 64 z := by
  apply BitVec.eq_of_toNat_eq
  rw [BitVec.toNat_ofInt, BitVec.toNat_ofInt]
  congr 1
  have : (IntKind.i64.wrap z - z) % ((2 ^ 64 : Nat) : Int) = 0 := by
    simp only [IntKind.wrap, IntKind.signed, IntKind.bits]
    simp
    split <;> omega
  omega
theorem or_dvd (a b : Int) {k : Nat} (hk : k ≤ 64) : ((2 ^ k : Nat) : Int) ∣ orI a b ↔ ((2 ^ k : Nat) : Int) ∣ a ∧ ((2 ^ k : Nat) : Int) ∣ b := by
  rw [← toNat_mod _ hk, ← toNat_mod a hk, ← toNat_mod b hk]
  have e : (BitVec.ofInt 64 (orI a b)).toNat = (BitVec.ofInt 64 a).toNat ||| (BitVec.ofInt 64 b).toNat := by
    show (BitVec.ofInt 64 (IntKind.i64.wrap ((BitVec.ofInt 64 a ||| BitVec.ofInt 64 b).toNat : Int))).toNat = _
    rw [wrap_ofInt, BitVec.ofInt_natCast, BitVec.toNat_ofNat, BitVec.toNat_or]
    refine Nat.mod_eq_of_lt ?_
    rw [← BitVec.toNat_or]
    exact BitVec.isLt _
  rw [e, Nat.or_mod_two_pow]
  exact Nat.or_eq_zero_iff
/-- A number of 64 bits. -/
def In64 (a : Int) : Prop := -9223372036854775808 ≤ a ∧ a ≤ 9223372036854775807
theorem or_in (a b : Int) : In64 (orI a b) := by
  show In64 (IntKind.i64.wrap _)
  unfold In64
  generalize ((BitVec.ofInt 64 a ||| BitVec.ofInt 64 b).toNat : Int) = z
  simp only [IntKind.wrap, IntKind.signed, IntKind.bits]
  simp
  split <;> omega
theorem dvd64 {a : Int} (h : In64 a) : ((2 ^ 64 : Nat) : Int) ∣ a ↔ a = 0 := by
  unfold In64 at h
  constructor
  · rintro ⟨c, hc⟩
    have : ((2 ^ 64 : Nat) : Int) = 18446744073709551616 := by decide
    rw [this] at hc
    omega
  · rintro rfl; exact Int.dvd_zero _
theorem or_zero {a b : Int} (ha : In64 a) (hb : In64 b) : orI a b = 0 ↔ a = 0 ∧ b = 0 := by
  rw [← dvd64 (or_in a b), or_dvd a b (Nat.le_refl 64), dvd64 ha, dvd64 hb]
theorem or_nought {a : Int} (h : In64 a) : orI a 0 = a := by
  show IntKind.i64.wrap ((BitVec.ofInt 64 a ||| BitVec.ofInt 64 0).toNat : Int) = a
  rw [show BitVec.ofInt 64 0 = 0#64 from rfl, BitVec.or_zero, BitVec.toNat_ofInt]
  unfold In64 at h
  simp only [IntKind.wrap, IntKind.signed, IntKind.bits]
  simp
  omega
/-- The bits of all. -/
def orAll (l : List Int) : Int := l.foldl orI 0
theorem orAll_snoc (l : List Int) (x : Int) : orAll (l ++ [x]) = orI (orAll l) x := by unfold orAll; rw [List.foldl_append]; rfl
theorem orAll_dvd {k : Nat} (hk : k ≤ 64) (l : List Int) : ((2 ^ k : Nat) : Int) ∣ orAll l ↔ ∀ x ∈ l, ((2 ^ k : Nat) : Int) ∣ x := by
  have H : ∀ (l : List Int) (a : Int), ((2 ^ k : Nat) : Int) ∣ l.foldl orI a ↔ ((2 ^ k : Nat) : Int) ∣ a ∧ ∀ x ∈ l, ((2 ^ k : Nat) : Int) ∣ x := by
    intro l
    induction l with
    | nil => intro a; simp
    | cons y r ih =>
      intro a
      rw [List.foldl_cons, ih, or_dvd a y hk]
      constructor
      · rintro ⟨⟨h1, h2⟩, h3⟩
        refine ⟨h1, fun x hx => ?_⟩
        rcases List.mem_cons.1 hx with rfl | hx
        · exact h2
        · exact h3 x hx
      · rintro ⟨h1, h2⟩
        exact ⟨⟨h1, h2 y (List.mem_cons_self ..)⟩, fun x hx => h2 x (List.mem_cons_of_mem _ hx)⟩
  unfold orAll
  rw [H]
  exact ⟨fun h => h.2, fun h => ⟨Int.dvd_zero _, h⟩⟩
/-- How many low bits are 0 of all. -/
def word (a : Int) : Nat := (a % 18446744073709551616).toNat
def zerosL (l : List Int) : Nat := Lib.ctz 64 (word (orAll l))
theorem word_lt (a : Int) : word a < 18446744073709551616 := by unfold word; omega
theorem ctz_dvd {x : Nat} (hx : x < 2 ^ 64) {k : Nat} (hk : k ≤ 64) : 2 ^ k ∣ x ↔ k ≤ Lib.ctz 64 x := by
  unfold Lib.ctz
  by_cases h0 : x = 0
  · rw [if_pos h0, h0]; exact ⟨fun _ => hk, fun _ => Nat.dvd_zero _⟩
  · rw [if_neg h0]
    obtain ⟨m, hm, hc⟩ := Lib.ctzFrom_spec 64 x (by omega) hx
    generalize Lib.ctzFrom 64 x = c at *
    constructor
    · intro h
      apply Nat.le_of_not_lt
      intro hlt
      obtain ⟨j, rfl⟩ : ∃ j, k = c + (j + 1) := ⟨k - c - 1, by omega⟩
      rw [hm, Nat.pow_add] at h
      have h2 := Nat.dvd_of_mul_dvd_mul_left (Nat.two_pow_pos c) h
      have h3 : 2 ∣ 2 * m + 1 := Nat.dvd_trans ⟨2 ^ j, by rw [Nat.pow_succ, Nat.mul_comm]⟩ h2
      omega
    · intro h
      rw [hm]
      exact Nat.dvd_trans (Nat.pow_dvd_pow 2 h) (Nat.dvd_mul_right _ _)
theorem word_dvd (a : Int) {k : Nat} (hk : k ≤ 64) : 2 ^ k ∣ word a ↔ ((2 ^ k : Nat) : Int) ∣ a := by
  rw [← toNat_mod a hk, BitVec.toNat_ofInt]
  exact ⟨fun h => Nat.mod_eq_zero_of_dvd h, fun h => Nat.dvd_of_mod_eq_zero h⟩
/-- **Of numbers: the greatest n such that all are multiples of 2^n.** -/
theorem zerosL_le (l : List Int) {k : Nat} (hk : k ≤ 64) : k ≤ zerosL l ↔ ∀ x ∈ l, ((2 ^ k : Nat) : Int) ∣ x := by
  unfold zerosL
  rw [← ctz_dvd (by have := word_lt (orAll l); omega) hk, word_dvd _ hk, orAll_dvd hk]
end Go.Proofs.BlkB
