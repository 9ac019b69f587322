import Derived.Test.YtnpngahpadchpaaMath
namespace Go.Proofs.PipeM

/-- A number without a sign, and back. -/
def foldN (n : Int) : Nat := if n < 0 then (-2 * n - 1).toNat else (2 * n).toNat
def unfoldN (z : Nat) : Int := if z % 2 = 1 then -(((z + 1) / 2 : Nat) : Int) else ((z / 2 : Nat) : Int)
def InR (n : Int) : Prop := -8589934592 ≤ n ∧ n ≤ 8589934591

theorem foldN_lt {n : Int} (h : InR n) : foldN n < 17179869184 := by
  unfold foldN InR at *; split <;> omega
theorem unfold_fold (n : Int) : unfoldN (foldN n) = n := by
  unfold foldN unfoldN
  split
  · split <;> omega
  · split <;> omega
theorem fold_unfold (z : Nat) : foldN (unfoldN z) = z := by
  unfold foldN unfoldN
  split <;> split <;> omega
theorem unfold_inR {z : Nat} (h : z < 17179869184) : InR (unfoldN z) := by
  unfold unfoldN InR; split <;> omega

/-- How many bits a number's code has. -/
def costN (n : Int) (k : Nat) : Nat := if foldN n / 2 ^ k < 24 then foldN n / 2 ^ k + 1 + k else 59

/-- A number's code. -/
def codeZ (z k : Nat) : List Bool := if z / 2 ^ k < 24 then (List.replicate (z / 2 ^ k) false ++ [true]) ++ low (z % 2 ^ k) k else (List.replicate 24 false ++ [true]) ++ low z 34
def codeBits (n : Int) (k : Nat) : List Bool := codeZ (foldN n) k

theorem codeBits_length (n : Int) (k : Nat) : (codeBits n k).length = costN n k := by
  unfold codeBits codeZ costN
  split
  · simp [low_length]; omega
  · simp [low_length]

theorem costN_le (n : Int) (k : Nat) (hk : k ≤ 24) : costN n k ≤ 59 := by
  unfold costN
  generalize foldN n / 2 ^ k = q
  split <;> omega
theorem costN_pos (n : Int) (k : Nat) : 1 ≤ costN n k := by
  unfold costN
  generalize foldN n / 2 ^ k = q
  split <;> omega

def codeOk (n k : Int) : Bool := decide (-8589934592 ≤ n ∧ n ≤ 8589934591 ∧ 0 ≤ k ∧ k ≤ 24)
def codeOf (n k : Int) : List Bool := if codeOk n k then codeBits n k.toNat else []

/-- What all numbers cost. -/
def totalN (l : List Int) (k : Nat) : Nat := (l.map fun n => costN n k).sum
theorem totalN_snoc (l : List Int) (n : Int) (k : Nat) : totalN (l ++ [n]) k = totalN l k + costN n k := by simp [totalN]
theorem totalN_le (l : List Int) (k : Nat) (hk : k ≤ 24) : totalN l k ≤ 59 * l.length := by
  induction l with
  | nil => simp [totalN]
  | cons n l ih =>
    have := costN_le n k hk
    simp [totalN] at ih ⊢
    omega

/-- The least parameter of the fewest bits. -/
def IsBest (l : List Int) (k : Nat) : Prop := k ≤ 24 ∧ ∀ p, p ≤ 24 → totalN l k ≤ totalN l p ∧ (totalN l p = totalN l k → k ≤ p)
theorem IsBest.unique {l : List Int} {a b : Nat} (ha : IsBest l a) (hb : IsBest l b) : a = b := by
  have h1 := ha.2 b hb.1
  have h2 := hb.2 a ha.1
  have h3 := h1.2 (by omega)
  have h4 := h2.2 (by omega)
  omega
end Go.Proofs.PipeM
