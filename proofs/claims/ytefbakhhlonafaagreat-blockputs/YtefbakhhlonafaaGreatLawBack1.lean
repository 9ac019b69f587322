import Derived.Test.YtefbakhhlonafaaGreatLawBack

namespace Go.Proofs.YtefbakhhlonafaaGreat
open Go.RowKit Go.Proofs Go.Proofs.PipeM Go.Proofs.PipeA

theorem sgn_low (x : Int) (n : Nat) (hn : 1 ≤ n) (h0 : -(2 ^ (n - 1)) ≤ x) (h1 : x < 2 ^ (n - 1)) : sgn ((x % 2 ^ n).toNat % 2 ^ n) n = x := by
  have hpc : ((2 ^ n : Nat) : Int) = (2 : Int) ^ n := by rw [Int.natCast_pow]; rfl
  have hpc1 : ((2 ^ (n - 1) : Nat) : Int) = (2 : Int) ^ (n - 1) := by rw [Int.natCast_pow]; rfl
  have hdbl : 2 ^ n = 2 * 2 ^ (n - 1) := by
    have e : n = (n - 1) + 1 := by omega
    rw [e, Nat.pow_succ]; simp; omega
  have hpos := Nat.two_pow_pos (n - 1)
  have hm : x % 2 ^ n = if x < 0 then x + 2 ^ n else x := by
    rw [← hpc]
    rw [← hpc1] at h0 h1
    generalize 2 ^ n = N at *
    generalize 2 ^ (n - 1) = M at *
    split
    · rw [← Int.add_emod_right, Int.emod_eq_of_lt (by omega) (by omega)]
    · rw [Int.emod_eq_of_lt (by omega) (by omega)]
  unfold sgn
  rw [hm, ← hpc]
  rw [← hpc1] at h0 h1
  generalize 2 ^ n = N at *
  generalize 2 ^ (n - 1) = M at *
  clear hpc hpc1 hm
  split
  · rename_i hx
    have e : (x + (N : Int)).toNat % N = (x + (N : Int)).toNat := Nat.mod_eq_of_lt (by omega)
    rw [e, if_pos (by omega)]
    omega
  · have e : x.toNat % N = x.toNat := Nat.mod_eq_of_lt (by omega)
    rw [e, if_neg (by omega)]
    omega

section
variable (R : Nat) (ao : Option Addr) (cap : Nat) (zs : List Nat) (l r : List Bool) (x n : Int) (W : World)

end

end Go.Proofs.YtefbakhhlonafaaGreat
