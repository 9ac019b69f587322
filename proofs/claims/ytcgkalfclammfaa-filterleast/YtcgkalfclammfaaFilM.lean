import Derived.Test.YtcgkalfclammfaaLatM
namespace Go.Proofs.FilM
open Go.Proofs.LatM

/-- Is a number a sample? -/
def isS (n : Int) : Bool := decide (-67108864 ≤ n ∧ n ≤ 67108864)
/-- May a number be a residual? -/
def isR (n : Int) : Bool := decide (-1152921504606846976 ≤ n ∧ n ≤ 1152921504606846976)
/-- What is foreseen behind past samples. -/
def fore (l p : List Int) : Int := pred (cf l (min l.length p.length)) p
/-- The residuals of samples. -/
def res (l xs : List Int) : List Int := (List.range xs.length).map fun i => xs.getD i 0 - fore l (xs.take i)
/-- The samples behind the first residuals. -/
def smp (l rs : List Int) : Nat → List Int
  | 0 => []
  | c + 1 => smp l rs c ++ [rs.getD c 0 + fore l (smp l rs c)]
/-- Is a number within a size? -/
def inM (most n : Int) : Bool := decide (-most - 1 ≤ n ∧ n ≤ most)
/-- What is wrong with residuals to be told. -/
def codeR (l xs : List Int) : Int := if goodL l then (if xs.all isS then 0 else 9) else 1
/-- What is wrong with samples to be told. -/
def codeS (l rs : List Int) (most : Int) : Int := if goodL l && decide (0 ≤ most) && decide (most ≤ 67108864) then (if rs.all isR then (if (smp l rs rs.length).all (inM most) then 0 else 9) else 9) else 1

theorem res_length (l xs : List Int) : (res l xs).length = xs.length := by simp [res]
theorem res_at {l xs : List Int} {i : Nat} (h : i < xs.length) : (res l xs)[i]'(by rw [res_length]; exact h) = xs[i] - fore l (xs.take i) := by
  unfold res
  simp only [List.getElem_map, List.getElem_range]
  rw [List.getD, List.getElem?_eq_getElem h]; rfl
theorem res_get {l xs : List Int} {i : Nat} (h : i < xs.length) : (res l xs).getD i 0 = xs[i] - fore l (xs.take i) := by
  rw [List.getD, List.getElem?_eq_getElem (by rw [res_length]; exact h), ← res_at h]; rfl
theorem smp_length (l rs : List Int) : ∀ c, (smp l rs c).length = c
  | 0 => rfl
  | c + 1 => by rw [smp, List.length_append, smp_length l rs c]; rfl
theorem smp_take (l rs : List Int) : ∀ {c n : Nat}, c ≤ n → (smp l rs n).take c = smp l rs c
  | c, 0, h => by obtain rfl : c = 0 := by omega
                  rfl
  | c, n + 1, h => by
    by_cases e : c = n + 1
    · subst e
      rw [List.take_of_length_le (by rw [smp_length]; omega)]
    · rw [smp, List.take_append_of_le_length (by rw [smp_length]; omega)]
      exact smp_take l rs (by omega)
theorem smp_last (l rs : List Int) (c : Nat) : (smp l rs (c + 1))[c]'(by rw [smp_length]; omega) = rs.getD c 0 + fore l (smp l rs c) := by
  have h := smp_length l rs c
  simp only [smp]
  rw [List.getElem_append_right (by omega)]
  simp [h]
theorem smp_at (l rs : List Int) {c n : Nat} (h : c < n) : (smp l rs n)[c]'(by rw [smp_length]; exact h) = rs.getD c 0 + fore l (smp l rs c) := by
  rw [← smp_last l rs c]
  have e := smp_take l rs (show c + 1 ≤ n by omega)
  have : (smp l rs n)[c]? = (smp l rs (c + 1))[c]? := by rw [← e, List.getElem?_take, if_pos (by omega)]
  rw [List.getElem?_eq_getElem (by rw [smp_length]; exact h), List.getElem?_eq_getElem (by rw [smp_length]; omega)] at this
  exact Option.some.inj this
theorem smp_res (l xs : List Int) : ∀ c, c ≤ xs.length → smp l (res l xs) c = xs.take c
  | 0, _ => by simp [smp]
  | c + 1, h => by
    rw [smp, smp_res l xs c (by omega), res_get (by omega), List.take_succ_eq_append_getElem (by omega)]
    congr 2
    omega
theorem smp_back (l xs : List Int) : smp l (res l xs) xs.length = xs := by rw [smp_res l xs _ (Nat.le_refl _), List.take_length]
theorem res_smp (l rs : List Int) : res l (smp l rs rs.length) = rs := by
  apply List.ext_getElem
  · rw [res_length, smp_length]
  · intro i h1 h2
    have hi : i < (smp l rs rs.length).length := by rw [smp_length]; exact h2
    rw [res_at hi, smp_take l rs (Nat.le_of_lt h2), smp_at l rs h2, List.getD, List.getElem?_eq_getElem h2]
    show rs[i] + _ - _ = _
    omega

/-- Coefficients of an index list, and numbers about samples. -/
theorem prod_small {l p : List Int} (hg : goodL l = true) {n : Nat} (hn : n ≤ 16) (hp : ∀ y ∈ p, -67108865 ≤ y ∧ y ≤ 67108864) : ∀ x ∈ cf l n, ∀ y ∈ p, -72057594037927936 ≤ x * y ∧ x * y ≤ 72057594037927936 := by
  intro x hx y hy
  have h1 := cf_small hg hn x hx
  have h2 := hp y hy
  by_cases h : 0 ≤ y
  · have e1 : x * y ≤ 536870912 * y := Int.mul_le_mul_of_nonneg_right h1.2 h
    have e2 : (-x) * y ≤ 536870912 * y := Int.mul_le_mul_of_nonneg_right (by omega) h
    rw [Int.neg_mul] at e2
    omega
  · have e1 : x * (-y) ≤ 536870912 * (-y) := Int.mul_le_mul_of_nonneg_right h1.2 (by omega)
    have e2 : (-x) * (-y) ≤ 536870912 * (-y) := Int.mul_le_mul_of_nonneg_right (by omega) (by omega)
    rw [Int.mul_neg] at e1
    rw [Int.neg_mul_neg] at e2
    omega
theorem pred_bound {l p : List Int} (hg : goodL l = true) {n : Nat} (hn : n ≤ 16) (hp : ∀ y ∈ p, -67108865 ≤ y ∧ y ≤ 67108864) : -100000000000000 ≤ pred (cf l n) p ∧ pred (cf l n) p ≤ 100000000000000 := by
  have h := psum_boundP (prod_small hg hn hp) (min (cf l n).length p.length)
  have h2 : min (cf l n).length p.length ≤ 16 := by rw [cf_length]; omega
  unfold pred rnd
  omega
theorem fore_bound {l p : List Int} (hg : goodL l = true) (hp : ∀ y ∈ p, -67108865 ≤ y ∧ y ≤ 67108864) : -100000000000000 ≤ fore l p ∧ fore l p ≤ 100000000000000 :=
  pred_bound hg (by have := good_len hg; omega) hp

theorem isS_of {n : Int} (h : isS n = true) : -67108864 ≤ n ∧ n ≤ 67108864 := of_decide_eq_true h
theorem isR_of {n : Int} (h : isR n = true) : -1152921504606846976 ≤ n ∧ n ≤ 1152921504606846976 := of_decide_eq_true h
theorem all_S {xs : List Int} (h : xs.all isS = true) : ∀ x ∈ xs, -67108864 ≤ x ∧ x ≤ 67108864 := fun x hx => isS_of (List.all_eq_true.1 h x hx)
theorem all_M {xs : List Int} {most : Int} (hm : most ≤ 67108864) (h : xs.all (inM most) = true) : ∀ x ∈ xs, -67108865 ≤ x ∧ x ≤ 67108864 := fun x hx => by
  have : _ ∧ _ := of_decide_eq_true (List.all_eq_true.1 h x hx)
  omega
theorem res_small {l xs : List Int} (hg : goodL l = true) (hs : xs.all isS = true) {i : Nat} (h : i < xs.length) : -100000067108864 ≤ xs[i] - fore l (xs.take i) ∧ xs[i] - fore l (xs.take i) ≤ 100000067108864 := by
  have h1 := all_S hs _ (List.getElem_mem h)
  have h2 := fore_bound hg (p := xs.take i) (fun y hy => by have := all_S hs y (List.mem_of_mem_take hy); omega)
  omega
theorem res_R {l xs : List Int} (hg : goodL l = true) (hs : xs.all isS = true) : (res l xs).all isR = true := by
  rw [List.all_eq_true]
  intro x hx
  obtain ⟨i, hi, rfl⟩ := List.getElem_of_mem hx
  have hi' : i < xs.length := by rw [res_length] at hi; exact hi
  rw [res_at hi']
  have := res_small hg hs hi'
  exact decide_eq_true (by omega)
/-- Samples come back. -/
theorem back_S {l xs : List Int} (h : codeR l xs = 0) : codeS l (res l xs) 67108864 = 0 := by
  unfold codeR at h
  cases hg : goodL l with
  | false => rw [hg] at h; simp at h
  | true =>
    cases hs : xs.all isS with
    | false => rw [hg, hs] at h; simp at h
    | true =>
      have hm : xs.all (inM 67108864) = true := by
        rw [List.all_eq_true]
        intro x hx
        have := all_S hs x hx
        exact decide_eq_true (by omega)
      unfold codeS
      rw [hg, res_R hg hs, res_length, smp_back, hm]
      rfl
/-- Residuals come back. -/
theorem back_R {l rs : List Int} {most : Int} (h : codeS l rs most = 0) (hm : most ≠ 67108864) : codeR l (smp l rs rs.length) = 0 := by
  unfold codeS at h
  split at h
  · rename_i hc
    simp only [Bool.and_eq_true, decide_eq_true_eq] at hc
    split at h
    · split at h
      · rename_i ha
        have hs : (smp l rs rs.length).all isS = true := by
          rw [List.all_eq_true]
          intro x hx
          have : _ ∧ _ := of_decide_eq_true (List.all_eq_true.1 ha x hx)
          exact decide_eq_true (by omega)
        unfold codeR
        rw [hc.1.1, hs]
        rfl
      · cases h
    · cases h
  · cases h
end Go.Proofs.FilM
