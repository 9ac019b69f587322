import Derived.Test.YtnfpkjnllkkngaaGreatDoorLatM
import Derived.WalkKit

section
namespace Go.Proofs.FilM
open Go.Proofs.LatM

/-- Is a number a sample? -/
def isS (n : Int) : Bool := decide (-67108864 ≤ n ∧ n ≤ 67108864)
/-- May a number be a residual? -/
def isR (n : Int) : Bool := decide (-1152921504606846976 ≤ n ∧ n ≤ 1152921504606846976)
/-- What is foreseen behind past samples. -/
def fore (l p : List Int) : Int := pred (cf l (min l.length p.length)) p
/-- The residuals of samples. -/
def res (l xs : List Int) : List Int := (List.range xs.length).map fun i => xs.getD i 0 - fore l (xs.take i)
/-- The samples behind the first residuals. -/
def smp (l rs : List Int) : Nat → List Int
  | 0 => []
  | c + 1 => smp l rs c ++ [rs.getD c 0 + fore l (smp l rs c)]
/-- Is a number within a size? -/
def inM (most n : Int) : Bool := decide (-most - 1 ≤ n ∧ n ≤ most)
/-- What is wrong with residuals to be told. -/
def codeR (l xs : List Int) : Int := if goodL l then (if xs.all isS then 0 else 9) else 1
/-- What is wrong with samples to be told. -/
def codeS (l rs : List Int) (most : Int) : Int := if goodL l && decide (0 ≤ most) && decide (most ≤ 67108864) then (if rs.all isR then (if (smp l rs rs.length).all (inM most) then 0 else 9) else 9) else 1

theorem res_length (l xs : List Int) : (res l xs).length = xs.length := by simp [res]
theorem res_at {l xs : List Int} {i : Nat} (h : i < xs.length) : (res l xs)[i]'(by rw [res_length]; exact h) = xs[i] - fore l (xs.take i) := by
  unfold res
  simp only [List.getElem_map, List.getElem_range]
  rw [List.getD, List.getElem?_eq_getElem h]; rfl
theorem res_get {l xs : List Int} {i : Nat} (h : i < xs.length) : (res l xs).getD i 0 = xs[i] - fore l (xs.take i) := by
  rw [List.getD, List.getElem?_eq_getElem (by rw [res_length]; exact h), ← res_at h]; rfl
theorem smp_length (l rs : List Int) : ∀ c, (smp l rs c).length = c
  | 0 => rfl
  | c + 1 => by rw [smp, List.length_append, smp_length l rs c]; rfl
theorem smp_take (l rs : List Int) : ∀ {c n : Nat}, c ≤ n → (smp l rs n).take c = smp l rs c
  | c, 0, h => by obtain rfl : c = 0 := by omega
                  rfl
  | c, n + 1, h => by
    by_cases e : c = n + 1
    · subst e
      rw [List.take_of_length_le (by rw [smp_length]; omega)]
    · rw [smp, List.take_append_of_le_length (by rw [smp_length]; omega)]
      exact smp_take l rs (by omega)
theorem smp_last (l rs : List Int) (c : Nat) : (smp l rs (c + 1))[c]'(by rw [smp_length]; omega) = rs.getD c 0 + fore l (smp l rs c) := by
  have h := smp_length l rs c
  simp only [smp]
  rw [List.getElem_append_right (by omega)]
  simp [h]
theorem smp_at (l rs : List Int) {c n : Nat} (h : c < n) : (smp l rs n)[c]'(by rw [smp_length]; exact h) = rs.getD c 0 + fore l (smp l rs c) := by
  rw [← smp_last l rs c]
  have e := smp_take l rs (show c + 1 ≤ n by omega)
  have : (smp l rs n)[c]? = (smp l rs (c + 1))[c]? := by rw [← e, List.getElem?_take, if_pos (by omega)]
  rw [List.getElem?_eq_getElem (by rw [smp_length]; exact h), List.getElem?_eq_getElem (by rw [smp_length]; omega)] at this
  exact Option.some.inj this
theorem smp_res (l xs : List Int) : ∀ c, c ≤ xs.length → smp l (res l xs) c = xs.take c
  | 0, _ => by simp [smp]
  | c + 1, h => by
    rw [smp, smp_res l xs c (by omega), res_get (by omega), List.take_succ_eq_append_getElem (by omega)]
    congr 2
    omega
theorem smp_back (l xs : List Int) : smp l (res l xs) xs.length = xs := by rw [smp_res l xs _ (Nat.le_refl _), List.take_length]
/-- Coefficients of an index list, and numbers about samples. -/
theorem prod_small {l p : List Int} (hg : goodL l = true) {n : Nat} (hn : n ≤ 16) (hp : ∀ y ∈ p, -67108865 ≤ y ∧ y ≤ 67108864) : ∀ x ∈ cf l n, ∀ y ∈ p, -72057594037927936 ≤ x * y ∧ x * y ≤ 72057594037927936 := by
  intro x hx y hy
  have h1 := cf_small hg hn x hx
  have h2 := hp y hy
  by_cases h : 0 ≤ y
  · have e1 : x * y ≤ 536870912 * y := Int.mul_le_mul_of_nonneg_right h1.2 h
    have e2 : (-x) * y ≤ 536870912 * y := Int.mul_le_mul_of_nonneg_right (by omega) h
    rw [Int.neg_mul] at e2
    omega
  · have e1 : x * (-y) ≤ 536870912 * (-y) := Int.mul_le_mul_of_nonneg_right h1.2 (by omega)
    have e2 : (-x) * (-y) ≤ 536870912 * (-y) := Int.mul_le_mul_of_nonneg_right (by omega) (by omega)
    rw [Int.mul_neg] at e1
    rw [Int.neg_mul_neg] at e2
    omega
theorem pred_bound {l p : List Int} (hg : goodL l = true) {n : Nat} (hn : n ≤ 16) (hp : ∀ y ∈ p, -67108865 ≤ y ∧ y ≤ 67108864) : -100000000000000 ≤ pred (cf l n) p ∧ pred (cf l n) p ≤ 100000000000000 := by
  have h := psum_boundP (prod_small hg hn hp) (min (cf l n).length p.length)
  have h2 : min (cf l n).length p.length ≤ 16 := by rw [cf_length]; omega
  unfold pred rnd
  omega
theorem fore_bound {l p : List Int} (hg : goodL l = true) (hp : ∀ y ∈ p, -67108865 ≤ y ∧ y ≤ 67108864) : -100000000000000 ≤ fore l p ∧ fore l p ≤ 100000000000000 :=
  pred_bound hg (by have := good_len hg; omega) hp

theorem isS_of {n : Int} (h : isS n = true) : -67108864 ≤ n ∧ n ≤ 67108864 := of_decide_eq_true h
theorem isR_of {n : Int} (h : isR n = true) : -1152921504606846976 ≤ n ∧ n ≤ 1152921504606846976 := of_decide_eq_true h
theorem all_S {xs : List Int} (h : xs.all isS = true) : ∀ x ∈ xs, -67108864 ≤ x ∧ x ≤ 67108864 := fun x hx => isS_of (List.all_eq_true.1 h x hx)
theorem all_M {xs : List Int} {most : Int} (hm : most ≤ 67108864) (h : xs.all (inM most) = true) : ∀ x ∈ xs, -67108865 ≤ x ∧ x ≤ 67108864 := fun x hx => by
  have : _ ∧ _ := of_decide_eq_true (List.all_eq_true.1 h x hx)
  omega
theorem res_small {l xs : List Int} (hg : goodL l = true) (hs : xs.all isS = true) {i : Nat} (h : i < xs.length) : -100000067108864 ≤ xs[i] - fore l (xs.take i) ∧ xs[i] - fore l (xs.take i) ≤ 100000067108864 := by
  have h1 := all_S hs _ (List.getElem_mem h)
  have h2 := fore_bound hg (p := xs.take i) (fun y hy => by have := all_S hs y (List.mem_of_mem_take hy); omega)
  omega
theorem res_R {l xs : List Int} (hg : goodL l = true) (hs : xs.all isS = true) : (res l xs).all isR = true := by
  rw [List.all_eq_true]
  intro x hx
  obtain ⟨i, hi, rfl⟩ := List.getElem_of_mem hx
  have hi' : i < xs.length := by rw [res_length] at hi; exact hi
  rw [res_at hi']
  have := res_small hg hs hi'
  exact decide_eq_true (by omega)
end Go.Proofs.FilM
end

section
namespace Go.Proofs.LagM

/-- May a number be? -/
def inB (n : Int) : Bool := decide (-1099511627776 ≤ n ∧ n ≤ 1099511627776)
/-- May a term be? -/
def goodT (a g : Int) : Bool := (decide (a = 0) && decide (g = 0)) || (decide (1 ≤ a) && decide (a ≤ 255) && decide (1 ≤ g) && decide (g ≤ 15))
/-- What is wrong with a term, or with numbers. -/
def codeT (a g : Int) (l : List Int) : Int := if goodT a g then (if l.all inB then 0 else 9) else 1
/-- What a gain takes off for a number. -/
def tk (g n : Int) : Int := n * g / 16
/-- What is left at a place. -/
def offV (a : Nat) (g : Int) (l : List Int) (i : Nat) : Int := if a ≤ i then l.getD i 0 - tk g (l.getD (i - a) 0) else l.getD i 0
def offL (a : Nat) (g : Int) (l : List Int) : List Int := (List.range l.length).map (offV a g l)
/-- What comes out at a place. -/
def onV (a : Nat) (g : Int) (l : List Int) (i : Nat) : Int :=
  if _h : 0 < a ∧ a ≤ i then l.getD i 0 + tk g (onV a g l (i - a)) else l.getD i 0
  termination_by i
  decreasing_by omega
def onL (a : Nat) (g : Int) (l : List Int) : List Int := (List.range l.length).map (onV a g l)
/-- What is wrong with a term, or with numbers, or with what comes out. -/
def codeO (a g : Int) (l : List Int) : Int := if codeT a g l = 0 then (if (onL a.toNat g l).all inB then 0 else 9) else codeT a g l

theorem inB_of {n : Int} (h : inB n = true) : -1099511627776 ≤ n ∧ n ≤ 1099511627776 := of_decide_eq_true h
theorem all_B {l : List Int} (h : l.all inB = true) : ∀ x ∈ l, -1099511627776 ≤ x ∧ x ≤ 1099511627776 := fun x hx => inB_of (List.all_eq_true.1 h x hx)
theorem goodT_of {a g : Int} (h : goodT a g = true) : ∃ n : Nat, a = n ∧ n ≤ 255 ∧ 0 ≤ g ∧ g ≤ 15 ∧ (n = 0 → g = 0) ∧ (0 < n → 1 ≤ g) := by
  unfold goodT at h
  simp only [Bool.or_eq_true, Bool.and_eq_true, decide_eq_true_eq] at h
  obtain ⟨n, rfl⟩ : ∃ n : Nat, a = n := ⟨a.toNat, by omega⟩
  exact ⟨n, rfl, by omega, by omega, by omega, by omega, by omega⟩
theorem codeT_zero {a g : Int} {l : List Int} (h : codeT a g l = 0) : goodT a g = true ∧ l.all inB = true := by
  unfold codeT at h
  split at h
  · rename_i h1
    split at h
    · rename_i h2; exact ⟨h1, h2⟩
    · cases h
  · cases h
theorem codeT_of {a g : Int} {l : List Int} (h : goodT a g = true) (h2 : l.all inB = true) : codeT a g l = 0 := by unfold codeT; rw [h, h2]; rfl
theorem codeT_good {a g : Int} {l : List Int} (h : goodT a g = false) : codeT a g l = 1 := by unfold codeT; rw [h]; rfl
theorem codeT_all {a g : Int} {l : List Int} (h : goodT a g = true) (h2 : l.all inB = false) : codeT a g l = 9 := by unfold codeT; rw [h, h2]; rfl
theorem codeT_cases (a g : Int) (l : List Int) : codeT a g l = 0 ∨ codeT a g l = 1 ∨ codeT a g l = 9 := by
  unfold codeT
  split
  · split <;> simp
  · simp

theorem offL_length (a : Nat) (g : Int) (l : List Int) : (offL a g l).length = l.length := by simp [offL]
theorem onL_length (a : Nat) (g : Int) (l : List Int) : (onL a g l).length = l.length := by simp [onL]
theorem offL_at {a : Nat} {g : Int} {l : List Int} {i : Nat} (h : i < l.length) : (offL a g l)[i]'(by rw [offL_length]; exact h) = offV a g l i := by simp [offL]
theorem onL_at {a : Nat} {g : Int} {l : List Int} {i : Nat} (h : i < l.length) : (onL a g l)[i]'(by rw [onL_length]; exact h) = onV a g l i := by simp [onL]
theorem getD_lt {l : List Int} {i : Nat} (h : i < l.length) : l.getD i 0 = l[i] := by rw [List.getD, List.getElem?_eq_getElem h]; rfl
theorem offL_get {a : Nat} {g : Int} {l : List Int} {i : Nat} (h : i < l.length) : (offL a g l).getD i 0 = offV a g l i := by rw [getD_lt (by rw [offL_length]; exact h), offL_at h]
theorem onL_get {a : Nat} {g : Int} {l : List Int} {i : Nat} (h : i < l.length) : (onL a g l).getD i 0 = onV a g l i := by rw [getD_lt (by rw [onL_length]; exact h), onL_at h]

theorem tk_zero (n : Int) : tk 0 n = 0 := by simp [tk]
theorem prod_bound {g n : Int} (hg : 0 ≤ g ∧ g ≤ 15) (hn : -1099511627776 ≤ n ∧ n ≤ 1099511627776) : -16492674416640 ≤ n * g ∧ n * g ≤ 16492674416640 := by
  have e1 : n * g ≤ 1099511627776 * g := Int.mul_le_mul_of_nonneg_right hn.2 hg.1
  have e2 : (-n) * g ≤ 1099511627776 * g := Int.mul_le_mul_of_nonneg_right (by omega) hg.1
  rw [Int.neg_mul] at e2
  omega
theorem tk_bound {g n : Int} (hg : 0 ≤ g ∧ g ≤ 15) (hn : -1099511627776 ≤ n ∧ n ≤ 1099511627776) : -1099511627776 ≤ tk g n ∧ tk g n ≤ 1099511627776 := by
  have := prod_bound hg hn
  unfold tk
  omega

theorem offV_late {a : Nat} {g : Int} {l : List Int} {i : Nat} (h : i < a) : offV a g l i = l.getD i 0 := if_neg (by omega)
theorem offV_from {a : Nat} {g : Int} {l : List Int} {i : Nat} (h : a ≤ i) : offV a g l i = l.getD i 0 - tk g (l.getD (i - a) 0) := if_pos h
theorem onV_late {a : Nat} {g : Int} {l : List Int} {i : Nat} (h : i < a) : onV a g l i = l.getD i 0 := by rw [onV, dif_neg (by omega)]
theorem onV_from {a : Nat} {g : Int} {l : List Int} {i : Nat} (h0 : a = 0 → g = 0) (h : a ≤ i) : onV a g l i = l.getD i 0 + tk g (onV a g l (i - a)) := by
  by_cases ha : 0 < a
  · rw [onV, dif_pos ⟨ha, h⟩]
  · rw [onV, dif_neg (by omega), h0 (by omega), tk_zero]; omega
theorem offV_zero (l : List Int) (i : Nat) : offV 0 0 l i = l.getD i 0 := by rw [offV_from (Nat.zero_le _), tk_zero]; omega
theorem onV_zero {g : Int} (l : List Int) (i : Nat) : onV 0 g l i = l.getD i 0 := by rw [onV, dif_neg (by omega)]

theorem ext_getD {l m : List Int} (h : l.length = m.length) (h2 : ∀ i, i < l.length → l.getD i 0 = m.getD i 0) : l = m := by
  apply List.ext_getElem h
  intro i h3 h4
  have := h2 i h3
  rwa [getD_lt h3, getD_lt h4] at this
/-- On of Off are the numbers. -/
theorem onV_off {a : Nat} {g : Int} {l : List Int} (h0 : a = 0 → g = 0) (i : Nat) (h : i < l.length) : onV a g (offL a g l) i = l.getD i 0 := by
  induction i using Nat.strongRecOn with
  | _ i ih =>
    by_cases hi : a ≤ i
    · by_cases ha : a = 0
      · subst ha
        rw [onV_zero, offL_get h, h0 rfl, offV_zero]
      · rw [onV_from h0 hi, offL_get h, offV_from hi, ih (i - a) (by omega) (by omega)]; omega
    · rw [onV_late (by omega), offL_get h, offV_late (by omega)]
theorem on_off {a : Nat} {g : Int} {l : List Int} (h0 : a = 0 → g = 0) : onL a g (offL a g l) = l := by
  apply ext_getD
  · rw [onL_length, offL_length]
  · intro i hi
    have hi' : i < l.length := by rwa [onL_length, offL_length] at hi
    rw [onL_get (by rw [offL_length]; exact hi'), onV_off h0 i hi']
theorem get_bound {l : List Int} (hb : ∀ x ∈ l, -1099511627776 ≤ x ∧ x ≤ 1099511627776) (i : Nat) : -1099511627776 ≤ l.getD i 0 ∧ l.getD i 0 ≤ 1099511627776 := by
  by_cases h : i < l.length
  · rw [getD_lt h]; exact hb _ (List.getElem_mem h)
  · rw [List.getD, List.getElem?_eq_none (by omega)]; simp
/-- What came from the numbers back is such as may be. -/
theorem codeO_off {a : Nat} {g : Int} {l : List Int} (h : codeT (a : Int) g l = 0) (h2 : codeT (a : Int) g (offL a g l) = 0) : codeO (a : Int) g (offL a g l) = 0 := by
  obtain ⟨h3, h4⟩ := codeT_zero h
  obtain ⟨n, hn, _, _, _, h0, _⟩ := goodT_of h3
  obtain rfl : a = n := by omega
  unfold codeO
  rw [if_pos h2, Int.toNat_natCast, on_off h0, h4]; rfl
theorem codeO_ok {a : Nat} {g : Int} {l : List Int} (h : codeT (a : Int) g l = 0) (h2 : (onL a g l).all inB = true) : codeO (a : Int) g l = 0 := by
  unfold codeO
  rw [if_pos h, Int.toNat_natCast, h2]; rfl
theorem codeO_bad {a : Nat} {g : Int} {l : List Int} (h : codeT (a : Int) g l = 0) (h2 : (onL a g l).all inB = false) : codeO (a : Int) g l = 9 := by
  unfold codeO
  rw [if_pos h, Int.toNat_natCast, h2]; rfl
theorem codeO_not {a g : Int} {l : List Int} (h : codeT a g l ≠ 0) : codeO a g l = codeT a g l := if_neg h
theorem onL_all {a : Nat} {g : Int} {l : List Int} (h : ∀ j, j < l.length → inB (onV a g l j) = true) : (onL a g l).all inB = true := by
  rw [List.all_eq_true]
  intro x hx
  obtain ⟨i, hi, rfl⟩ := List.getElem_of_mem hx
  rw [onL_length] at hi
  rw [onL_at hi]
  exact h i hi
end Go.Proofs.LagM
end
