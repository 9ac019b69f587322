import Derived.Test.YtefbakhhlonafaaLatM
import Derived.WalkKit

section
namespace Go.Proofs.FilM
open Go.Proofs.LatM

/-- May a number be a residual? -/
def isR (n : Int) : Bool := decide (-1152921504606846976 ≤ n ∧ n ≤ 1152921504606846976)
/-- What is foreseen behind past samples. -/
def fore (l p : List Int) : Int := pred (cf l (min l.length p.length)) p
/-- The residuals of samples. -/
def res (l xs : List Int) : List Int := (List.range xs.length).map fun i => xs.getD i 0 - fore l (xs.take i)
/-- The samples behind the first residuals. -/
def smp (l rs : List Int) : Nat → List Int
  | 0 => []
  | c + 1 => smp l rs c ++ [rs.getD c 0 + fore l (smp l rs c)]
/-- Is a number within a size? -/
def inM (most n : Int) : Bool := decide (-most - 1 ≤ n ∧ n ≤ most)
/-- What is wrong with samples to be told. -/
def codeS (l rs : List Int) (most : Int) : Int := if goodL l && decide (0 ≤ most) && decide (most ≤ 67108864) then (if rs.all isR then (if (smp l rs rs.length).all (inM most) then 0 else 9) else 9) else 1

theorem smp_length (l rs : List Int) : ∀ c, (smp l rs c).length = c
  | 0 => rfl
  | c + 1 => by rw [smp, List.length_append, smp_length l rs c]; rfl
theorem smp_take (l rs : List Int) : ∀ {c n : Nat}, c ≤ n → (smp l rs n).take c = smp l rs c
  | c, 0, h => by obtain rfl : c = 0 := by omega
                  rfl
  | c, n + 1, h => by
    by_cases e : c = n + 1
    · subst e
      rw [List.take_of_length_le (by rw [smp_length]; omega)]
    · rw [smp, List.take_append_of_le_length (by rw [smp_length]; omega)]
      exact smp_take l rs (by omega)
theorem smp_last (l rs : List Int) (c : Nat) : (smp l rs (c + 1))[c]'(by rw [smp_length]; omega) = rs.getD c 0 + fore l (smp l rs c) := by
  have h := smp_length l rs c
  simp only [smp]
  rw [List.getElem_append_right (by omega)]
  simp [h]
theorem smp_at (l rs : List Int) {c n : Nat} (h : c < n) : (smp l rs n)[c]'(by rw [smp_length]; exact h) = rs.getD c 0 + fore l (smp l rs c) := by
  rw [← smp_last l rs c]
  have e := smp_take l rs (show c + 1 ≤ n by omega)
  have : (smp l rs n)[c]? = (smp l rs (c + 1))[c]? := by rw [← e, List.getElem?_take, if_pos (by omega)]
  rw [List.getElem?_eq_getElem (by rw [smp_length]; exact h), List.getElem?_eq_getElem (by rw [smp_length]; omega)] at this
  exact Option.some.inj this
/-- Coefficients of an index list, and numbers about samples. -/
theorem prod_small {l p : List Int} (hg : goodL l = true) {n : Nat} (hn : n ≤ 16) (hp : ∀ y ∈ p, -67108865 ≤ y ∧ y ≤ 67108864) : ∀ x ∈ cf l n, ∀ y ∈ p, -72057594037927936 ≤ x * y ∧ x * y ≤ 72057594037927936 := by
  intro x hx y hy
  have h1 := cf_small hg hn x hx
  have h2 := hp y hy
  by_cases h : 0 ≤ y
  · have e1 : x * y ≤ 536870912 * y := Int.mul_le_mul_of_nonneg_right h1.2 h
    have e2 : (-x) * y ≤ 536870912 * y := Int.mul_le_mul_of_nonneg_right (by omega) h
    rw [Int.neg_mul] at e2
    omega
  · have e1 : x * (-y) ≤ 536870912 * (-y) := Int.mul_le_mul_of_nonneg_right h1.2 (by omega)
    have e2 : (-x) * (-y) ≤ 536870912 * (-y) := Int.mul_le_mul_of_nonneg_right (by omega) (by omega)
    rw [Int.mul_neg] at e1
    rw [Int.neg_mul_neg] at e2
    omega
theorem pred_bound {l p : List Int} (hg : goodL l = true) {n : Nat} (hn : n ≤ 16) (hp : ∀ y ∈ p, -67108865 ≤ y ∧ y ≤ 67108864) : -100000000000000 ≤ pred (cf l n) p ∧ pred (cf l n) p ≤ 100000000000000 := by
  have h := psum_boundP (prod_small hg hn hp) (min (cf l n).length p.length)
  have h2 : min (cf l n).length p.length ≤ 16 := by rw [cf_length]; omega
  unfold pred rnd
  omega
theorem fore_bound {l p : List Int} (hg : goodL l = true) (hp : ∀ y ∈ p, -67108865 ≤ y ∧ y ≤ 67108864) : -100000000000000 ≤ fore l p ∧ fore l p ≤ 100000000000000 :=
  pred_bound hg (by have := good_len hg; omega) hp

theorem isR_of {n : Int} (h : isR n = true) : -1152921504606846976 ≤ n ∧ n ≤ 1152921504606846976 := of_decide_eq_true h
theorem all_M {xs : List Int} {most : Int} (hm : most ≤ 67108864) (h : xs.all (inM most) = true) : ∀ x ∈ xs, -67108865 ≤ x ∧ x ≤ 67108864 := fun x hx => by
  have : _ ∧ _ := of_decide_eq_true (List.all_eq_true.1 h x hx)
  omega
end Go.Proofs.FilM
end

section
namespace Go.Proofs.LagM

/-- May a number be? -/
def inB (n : Int) : Bool := decide (-1099511627776 ≤ n ∧ n ≤ 1099511627776)
/-- May a term be? -/
def goodT (a g : Int) : Bool := (decide (a = 0) && decide (g = 0)) || (decide (1 ≤ a) && decide (a ≤ 255) && decide (1 ≤ g) && decide (g ≤ 15))
/-- What is wrong with a term, or with numbers. -/
def codeT (a g : Int) (l : List Int) : Int := if goodT a g then (if l.all inB then 0 else 9) else 1
/-- What a gain takes off for a number. -/
def tk (g n : Int) : Int := n * g / 16
/-- What is left at a place. -/
def offV (a : Nat) (g : Int) (l : List Int) (i : Nat) : Int := if a ≤ i then l.getD i 0 - tk g (l.getD (i - a) 0) else l.getD i 0
def offL (a : Nat) (g : Int) (l : List Int) : List Int := (List.range l.length).map (offV a g l)
/-- What comes out at a place. -/
def onV (a : Nat) (g : Int) (l : List Int) (i : Nat) : Int :=
  if _h : 0 < a ∧ a ≤ i then l.getD i 0 + tk g (onV a g l (i - a)) else l.getD i 0
  termination_by i
  decreasing_by omega
def onL (a : Nat) (g : Int) (l : List Int) : List Int := (List.range l.length).map (onV a g l)
/-- What is wrong with a term, or with numbers, or with what comes out. -/
def codeO (a g : Int) (l : List Int) : Int := if codeT a g l = 0 then (if (onL a.toNat g l).all inB then 0 else 9) else codeT a g l

theorem inB_of {n : Int} (h : inB n = true) : -1099511627776 ≤ n ∧ n ≤ 1099511627776 := of_decide_eq_true h
theorem all_B {l : List Int} (h : l.all inB = true) : ∀ x ∈ l, -1099511627776 ≤ x ∧ x ≤ 1099511627776 := fun x hx => inB_of (List.all_eq_true.1 h x hx)
theorem goodT_of {a g : Int} (h : goodT a g = true) : ∃ n : Nat, a = n ∧ n ≤ 255 ∧ 0 ≤ g ∧ g ≤ 15 ∧ (n = 0 → g = 0) ∧ (0 < n → 1 ≤ g) := by
  unfold goodT at h
  simp only [Bool.or_eq_true, Bool.and_eq_true, decide_eq_true_eq] at h
  obtain ⟨n, rfl⟩ : ∃ n : Nat, a = n := ⟨a.toNat, by omega⟩
  exact ⟨n, rfl, by omega, by omega, by omega, by omega, by omega⟩
theorem codeT_zero {a g : Int} {l : List Int} (h : codeT a g l = 0) : goodT a g = true ∧ l.all inB = true := by
  unfold codeT at h
  split at h
  · rename_i h1
    split at h
    · rename_i h2; exact ⟨h1, h2⟩
    · cases h
  · cases h
theorem codeT_of {a g : Int} {l : List Int} (h : goodT a g = true) (h2 : l.all inB = true) : codeT a g l = 0 := by unfold codeT; rw [h, h2]; rfl
theorem codeT_good {a g : Int} {l : List Int} (h : goodT a g = false) : codeT a g l = 1 := by unfold codeT; rw [h]; rfl
theorem codeT_all {a g : Int} {l : List Int} (h : goodT a g = true) (h2 : l.all inB = false) : codeT a g l = 9 := by unfold codeT; rw [h, h2]; rfl
theorem codeT_cases (a g : Int) (l : List Int) : codeT a g l = 0 ∨ codeT a g l = 1 ∨ codeT a g l = 9 := by
  unfold codeT
  split
  · split <;> simp
  · simp

theorem onL_length (a : Nat) (g : Int) (l : List Int) : (onL a g l).length = l.length := by simp [onL]
theorem onL_at {a : Nat} {g : Int} {l : List Int} {i : Nat} (h : i < l.length) : (onL a g l)[i]'(by rw [onL_length]; exact h) = onV a g l i := by simp [onL]
theorem getD_lt {l : List Int} {i : Nat} (h : i < l.length) : l.getD i 0 = l[i] := by rw [List.getD, List.getElem?_eq_getElem h]; rfl
theorem tk_zero (n : Int) : tk 0 n = 0 := by simp [tk]
theorem prod_bound {g n : Int} (hg : 0 ≤ g ∧ g ≤ 15) (hn : -1099511627776 ≤ n ∧ n ≤ 1099511627776) : -16492674416640 ≤ n * g ∧ n * g ≤ 16492674416640 := by
  have e1 : n * g ≤ 1099511627776 * g := Int.mul_le_mul_of_nonneg_right hn.2 hg.1
  have e2 : (-n) * g ≤ 1099511627776 * g := Int.mul_le_mul_of_nonneg_right (by omega) hg.1
  rw [Int.neg_mul] at e2
  omega
theorem tk_bound {g n : Int} (hg : 0 ≤ g ∧ g ≤ 15) (hn : -1099511627776 ≤ n ∧ n ≤ 1099511627776) : -1099511627776 ≤ tk g n ∧ tk g n ≤ 1099511627776 := by
  have := prod_bound hg hn
  unfold tk
  omega

theorem onV_late {a : Nat} {g : Int} {l : List Int} {i : Nat} (h : i < a) : onV a g l i = l.getD i 0 := by rw [onV, dif_neg (by omega)]
theorem onV_from {a : Nat} {g : Int} {l : List Int} {i : Nat} (h0 : a = 0 → g = 0) (h : a ≤ i) : onV a g l i = l.getD i 0 + tk g (onV a g l (i - a)) := by
  by_cases ha : 0 < a
  · rw [onV, dif_pos ⟨ha, h⟩]
  · rw [onV, dif_neg (by omega), h0 (by omega), tk_zero]; omega
theorem get_bound {l : List Int} (hb : ∀ x ∈ l, -1099511627776 ≤ x ∧ x ≤ 1099511627776) (i : Nat) : -1099511627776 ≤ l.getD i 0 ∧ l.getD i 0 ≤ 1099511627776 := by
  by_cases h : i < l.length
  · rw [getD_lt h]; exact hb _ (List.getElem_mem h)
  · rw [List.getD, List.getElem?_eq_none (by omega)]; simp
theorem codeO_ok {a : Nat} {g : Int} {l : List Int} (h : codeT (a : Int) g l = 0) (h2 : (onL a g l).all inB = true) : codeO (a : Int) g l = 0 := by
  unfold codeO
  rw [if_pos h, Int.toNat_natCast, h2]; rfl
theorem codeO_bad {a : Nat} {g : Int} {l : List Int} (h : codeT (a : Int) g l = 0) (h2 : (onL a g l).all inB = false) : codeO (a : Int) g l = 9 := by
  unfold codeO
  rw [if_pos h, Int.toNat_natCast, h2]; rfl
theorem codeO_not {a g : Int} {l : List Int} (h : codeT a g l ≠ 0) : codeO a g l = codeT a g l := if_neg h
theorem onL_all {a : Nat} {g : Int} {l : List Int} (h : ∀ j, j < l.length → inB (onV a g l j) = true) : (onL a g l).all inB = true := by
  rw [List.all_eq_true]
  intro x hx
  obtain ⟨i, hi, rfl⟩ := List.getElem_of_mem hx
  rw [onL_length] at hi
  rw [onL_at hi]
  exact h i hi
end Go.Proofs.LagM
end
