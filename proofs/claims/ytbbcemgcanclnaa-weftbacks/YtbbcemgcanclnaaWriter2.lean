import Derived.Test.YtbbcemgcanclnaaWriter
namespace Go.Proofs.Ytbbcemgcanclnaa
open Go.RowKit Go.Proofs Go.Proofs.PipeM Go.Proofs.PipeA

theorem low_take (v n j : Nat) (h : j < n) : (low v n).take (j + 1) = (low v n).take j ++ [v.testBit (n - 1 - j)] := by
  have hl : j < (low v n).length := by rw [low_length]; exact h
  rw [List.take_succ_eq_append_getElem hl]
  have := low_get v n j h
  rw [List.getElem?_eq_getElem hl] at this
  simp at this
  rw [this]

theorem bit_arg (x k : Nat) (hx : x < 18446744073709551616) : bits BinOp.and IntKind.u64 ((x : Int) / 2 ^ min k 64) 1 % 256 = (((x.testBit k).toNat : Nat) : Int) := by
  have e1 : ((x : Int) / 2 ^ min k 64) = ((x / 2 ^ min k 64 : Nat) : Int) := by
    rw [Int.natCast_ediv, Int.natCast_pow]; rfl
  have h1 : x / 2 ^ min k 64 ≤ x := Nat.div_le_self _ _
  rw [e1]
  have e2 : x / 2 ^ min k 64 = x / 2 ^ k := by
    by_cases h : k ≤ 64
    · rw [Nat.min_eq_left h]
    · have a1 : min k 64 = 64 := by omega
      have a2 : x < 2 ^ k := Nat.lt_of_lt_of_le hx (Nat.pow_le_pow_right (by decide) (show 64 ≤ k by omega) : 2 ^ 64 ≤ 2 ^ k)
      rw [a1, Nat.div_eq_of_lt hx, Nat.div_eq_of_lt a2]
  rw [e2] at h1 ⊢
  obtain ⟨y, hy⟩ : ∃ y, y = x / 2 ^ k := ⟨_, rfl⟩
  rw [Nat.toNat_testBit, ← hy]
  rw [← hy] at h1
  rw [and_one_u64 _ (by omega) (by omega)]
  omega

/-- What a call that writes bits, or doesn't, answers. -/
def Puts (w : World) (b : Nat) (v : Value) (ok : Bool) (l : List Bool) (e : Ending) (w' : World) : Prop :=
  e = .returned (.bool ok) ∧ Wrote w b v l w'

theorem wrap_u64 (x : Int) : IntKind.u64.wrap x = ((x % 18446744073709551616).toNat : Int) := by
  have : IntKind.u64.wrap x = x % 18446744073709551616 := by simp [IntKind.wrap, IntKind.bits, IntKind.signed]
  rw [this]; omega

theorem low_wrap (x : Int) (n : Nat) (hn : n ≤ 64) : low (x % 18446744073709551616).toNat n = low (x % 2 ^ n).toNat n := by
  have h64 : (18446744073709551616 : Int) = 2 ^ 64 := rfl
  rw [← low_mod (x % 18446744073709551616).toNat, ← low_mod (x % 2 ^ n).toNat]
  congr 1
  have hp : (0 : Int) < 2 ^ n := by
    have := Nat.two_pow_pos n
    have e : ((2 ^ n : Nat) : Int) = 2 ^ n := by rw [Int.natCast_pow]; rfl
    omega
  have e : ((2 ^ n : Nat) : Int) = (2 : Int) ^ n := by rw [Int.natCast_pow]; rfl
  have hd : ((2 : Int) ^ n) ∣ 18446744073709551616 := by
    rw [h64, show (64 : Nat) = n + (64 - n) by omega, Int.pow_add]
    exact Int.dvd_mul_right _ _
  have h1 : ((x % 18446744073709551616) % 2 ^ n) = x % 2 ^ n := Int.emod_emod_of_dvd _ hd
  have h2 : 0 ≤ x % 18446744073709551616 := Int.emod_nonneg _ (by decide)
  have h3 : 0 ≤ x % 2 ^ n := Int.emod_nonneg _ (by omega)
  apply Int.ofNat.inj
  show (((x % 18446744073709551616).toNat % 2 ^ n : Nat) : Int) = (((x % 2 ^ n).toNat % 2 ^ n : Nat) : Int)
  rw [Int.natCast_emod, Int.natCast_emod, e, Int.toNat_of_nonneg h2, Int.toNat_of_nonneg h3, h1, Int.emod_emod]

theorem half_bound (n : Nat) (hn : n ≤ 48) : (1 : Int) ≤ 2 ^ (n - 1) ∧ (2 : Int) ^ (n - 1) ≤ 281474976710656 := by
  have h1 := Nat.two_pow_pos (n - 1)
  have h2 : 2 ^ (n - 1) ≤ 2 ^ 48 := Nat.pow_le_pow_right (by decide) (by omega)
  have e : ((2 ^ (n - 1) : Nat) : Int) = (2 : Int) ^ (n - 1) := by rw [Int.natCast_pow]; rfl
  omega

theorem low_one (n : Nat) : low 1 (n + 1) = List.replicate n false ++ [true] := by
  induction n with
  | zero => rfl
  | succ n ih =>
    rw [low, ih]
    have : Nat.testBit 1 (n + 1) = false := by simp [Nat.testBit_succ]
    rw [this, List.replicate_succ]; rfl

end Go.Proofs.Ytbbcemgcanclnaa
