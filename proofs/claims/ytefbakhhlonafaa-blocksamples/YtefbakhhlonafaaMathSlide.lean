import Derived.Test.YtefbakhhlonafaaLatM
import Derived.WalkKit
import Derived.Test.YtefbakhhlonafaaMathRice

section
namespace Go.Proofs.FilM
open Go.Proofs.LatM

/-- May a number be a residual? -/
def isR (n : Int) : Bool := decide (-1152921504606846976 ≤ n ∧ n ≤ 1152921504606846976)
/-- What is foreseen behind past samples. -/
def fore (l p : List Int) : Int := pred (cf l (min l.length p.length)) p
/-- The residuals of samples. -/
def res (l xs : List Int) : List Int := (List.range xs.length).map fun i => xs.getD i 0 - fore l (xs.take i)
/-- The samples behind the first residuals. -/
def smp (l rs : List Int) : Nat → List Int
  | 0 => []
  | c + 1 => smp l rs c ++ [rs.getD c 0 + fore l (smp l rs c)]
/-- Is a number within a size? -/
def inM (most n : Int) : Bool := decide (-most - 1 ≤ n ∧ n ≤ most)
/-- What is wrong with samples to be told. -/
def codeS (l rs : List Int) (most : Int) : Int := if goodL l && decide (0 ≤ most) && decide (most ≤ 67108864) then (if rs.all isR then (if (smp l rs rs.length).all (inM most) then 0 else 9) else 9) else 1

theorem smp_length (l rs : List Int) : ∀ c, (smp l rs c).length = c
  | 0 => rfl
  | c + 1 => by rw [smp, List.length_append, smp_length l rs c]; rfl
theorem smp_take (l rs : List Int) : ∀ {c n : Nat}, c ≤ n → (smp l rs n).take c = smp l rs c
  | c, 0, h => by obtain rfl : c = 0 := by omega
                  rfl
  | c, n + 1, h => by
    by_cases e : c = n + 1
    · subst e
      rw [List.take_of_length_le (by rw [smp_length]; omega)]
    · rw [smp, List.take_append_of_le_length (by rw [smp_length]; omega)]
      exact smp_take l rs (by omega)
theorem smp_last (l rs : List Int) (c : Nat) : (smp l rs (c + 1))[c]'(by rw [smp_length]; omega) = rs.getD c 0 + fore l (smp l rs c) := by
  have h := smp_length l rs c
  simp only [smp]
  rw [List.getElem_append_right (by omega)]
  simp [h]
theorem smp_at (l rs : List Int) {c n : Nat} (h : c < n) : (smp l rs n)[c]'(by rw [smp_length]; exact h) = rs.getD c 0 + fore l (smp l rs c) := by
  rw [← smp_last l rs c]
  have e := smp_take l rs (show c + 1 ≤ n by omega)
  have : (smp l rs n)[c]? = (smp l rs (c + 1))[c]? := by rw [← e, List.getElem?_take, if_pos (by omega)]
  rw [List.getElem?_eq_getElem (by rw [smp_length]; exact h), List.getElem?_eq_getElem (by rw [smp_length]; omega)] at this
  exact Option.some.inj this
/-- Coefficients of an index list, and numbers about samples. -/
theorem prod_small {l p : List Int} (hg : goodL l = true) {n : Nat} (hn : n ≤ 16) (hp : ∀ y ∈ p, -67108865 ≤ y ∧ y ≤ 67108864) : ∀ x ∈ cf l n, ∀ y ∈ p, -72057594037927936 ≤ x * y ∧ x * y ≤ 72057594037927936 := by
  intro x hx y hy
  have h1 := cf_small hg hn x hx
  have h2 := hp y hy
  by_cases h : 0 ≤ y
  · have e1 : x * y ≤ 536870912 * y := Int.mul_le_mul_of_nonneg_right h1.2 h
    have e2 : (-x) * y ≤ 536870912 * y := Int.mul_le_mul_of_nonneg_right (by omega) h
    rw [Int.neg_mul] at e2
    omega
  · have e1 : x * (-y) ≤ 536870912 * (-y) := Int.mul_le_mul_of_nonneg_right h1.2 (by omega)
    have e2 : (-x) * (-y) ≤ 536870912 * (-y) := Int.mul_le_mul_of_nonneg_right (by omega) (by omega)
    rw [Int.mul_neg] at e1
    rw [Int.neg_mul_neg] at e2
    omega
theorem pred_bound {l p : List Int} (hg : goodL l = true) {n : Nat} (hn : n ≤ 16) (hp : ∀ y ∈ p, -67108865 ≤ y ∧ y ≤ 67108864) : -100000000000000 ≤ pred (cf l n) p ∧ pred (cf l n) p ≤ 100000000000000 := by
  have h := psum_boundP (prod_small hg hn hp) (min (cf l n).length p.length)
  have h2 : min (cf l n).length p.length ≤ 16 := by rw [cf_length]; omega
  unfold pred rnd
  omega
theorem fore_bound {l p : List Int} (hg : goodL l = true) (hp : ∀ y ∈ p, -67108865 ≤ y ∧ y ≤ 67108864) : -100000000000000 ≤ fore l p ∧ fore l p ≤ 100000000000000 :=
  pred_bound hg (by have := good_len hg; omega) hp

theorem isR_of {n : Int} (h : isR n = true) : -1152921504606846976 ≤ n ∧ n ≤ 1152921504606846976 := of_decide_eq_true h
theorem all_M {xs : List Int} {most : Int} (hm : most ≤ 67108864) (h : xs.all (inM most) = true) : ∀ x ∈ xs, -67108865 ≤ x ∧ x ≤ 67108864 := fun x hx => by
  have : _ ∧ _ := of_decide_eq_true (List.all_eq_true.1 h x hx)
  omega
end Go.Proofs.FilM
end

section
namespace Go.Proofs.LagM

/-- May a number be? -/
def inB (n : Int) : Bool := decide (-1099511627776 ≤ n ∧ n ≤ 1099511627776)
/-- May a term be? -/
def goodT (a g : Int) : Bool := (decide (a = 0) && decide (g = 0)) || (decide (1 ≤ a) && decide (a ≤ 255) && decide (1 ≤ g) && decide (g ≤ 15))
/-- What is wrong with a term, or with numbers. -/
def codeT (a g : Int) (l : List Int) : Int := if goodT a g then (if l.all inB then 0 else 9) else 1
/-- What a gain takes off for a number. -/
def tk (g n : Int) : Int := n * g / 16
/-- What is left at a place. -/
def offV (a : Nat) (g : Int) (l : List Int) (i : Nat) : Int := if a ≤ i then l.getD i 0 - tk g (l.getD (i - a) 0) else l.getD i 0
def offL (a : Nat) (g : Int) (l : List Int) : List Int := (List.range l.length).map (offV a g l)
/-- What comes out at a place. -/
def onV (a : Nat) (g : Int) (l : List Int) (i : Nat) : Int :=
  if _h : 0 < a ∧ a ≤ i then l.getD i 0 + tk g (onV a g l (i - a)) else l.getD i 0
  termination_by i
  decreasing_by omega
def onL (a : Nat) (g : Int) (l : List Int) : List Int := (List.range l.length).map (onV a g l)
/-- What is wrong with a term, or with numbers, or with what comes out. -/
def codeO (a g : Int) (l : List Int) : Int := if codeT a g l = 0 then (if (onL a.toNat g l).all inB then 0 else 9) else codeT a g l

theorem inB_of {n : Int} (h : inB n = true) : -1099511627776 ≤ n ∧ n ≤ 1099511627776 := of_decide_eq_true h
theorem all_B {l : List Int} (h : l.all inB = true) : ∀ x ∈ l, -1099511627776 ≤ x ∧ x ≤ 1099511627776 := fun x hx => inB_of (List.all_eq_true.1 h x hx)
theorem goodT_of {a g : Int} (h : goodT a g = true) : ∃ n : Nat, a = n ∧ n ≤ 255 ∧ 0 ≤ g ∧ g ≤ 15 ∧ (n = 0 → g = 0) ∧ (0 < n → 1 ≤ g) := by
  unfold goodT at h
  simp only [Bool.or_eq_true, Bool.and_eq_true, decide_eq_true_eq] at h
  obtain ⟨n, rfl⟩ : ∃ n : Nat, a = n := ⟨a.toNat, by omega⟩
  exact ⟨n, rfl, by omega, by omega, by omega, by omega, by omega⟩
theorem codeT_zero {a g : Int} {l : List Int} (h : codeT a g l = 0) : goodT a g = true ∧ l.all inB = true := by
  unfold codeT at h
  split at h
  · rename_i h1
    split at h
    · rename_i h2; exact ⟨h1, h2⟩
    · cases h
  · cases h
theorem codeT_of {a g : Int} {l : List Int} (h : goodT a g = true) (h2 : l.all inB = true) : codeT a g l = 0 := by unfold codeT; rw [h, h2]; rfl
theorem codeT_good {a g : Int} {l : List Int} (h : goodT a g = false) : codeT a g l = 1 := by unfold codeT; rw [h]; rfl
theorem codeT_all {a g : Int} {l : List Int} (h : goodT a g = true) (h2 : l.all inB = false) : codeT a g l = 9 := by unfold codeT; rw [h, h2]; rfl
theorem codeT_cases (a g : Int) (l : List Int) : codeT a g l = 0 ∨ codeT a g l = 1 ∨ codeT a g l = 9 := by
  unfold codeT
  split
  · split <;> simp
  · simp

theorem onL_length (a : Nat) (g : Int) (l : List Int) : (onL a g l).length = l.length := by simp [onL]
theorem onL_at {a : Nat} {g : Int} {l : List Int} {i : Nat} (h : i < l.length) : (onL a g l)[i]'(by rw [onL_length]; exact h) = onV a g l i := by simp [onL]
theorem getD_lt {l : List Int} {i : Nat} (h : i < l.length) : l.getD i 0 = l[i] := by rw [List.getD, List.getElem?_eq_getElem h]; rfl
theorem tk_zero (n : Int) : tk 0 n = 0 := by simp [tk]
theorem prod_bound {g n : Int} (hg : 0 ≤ g ∧ g ≤ 15) (hn : -1099511627776 ≤ n ∧ n ≤ 1099511627776) : -16492674416640 ≤ n * g ∧ n * g ≤ 16492674416640 := by
  have e1 : n * g ≤ 1099511627776 * g := Int.mul_le_mul_of_nonneg_right hn.2 hg.1
  have e2 : (-n) * g ≤ 1099511627776 * g := Int.mul_le_mul_of_nonneg_right (by omega) hg.1
  rw [Int.neg_mul] at e2
  omega
theorem tk_bound {g n : Int} (hg : 0 ≤ g ∧ g ≤ 15) (hn : -1099511627776 ≤ n ∧ n ≤ 1099511627776) : -1099511627776 ≤ tk g n ∧ tk g n ≤ 1099511627776 := by
  have := prod_bound hg hn
  unfold tk
  omega

theorem onV_late {a : Nat} {g : Int} {l : List Int} {i : Nat} (h : i < a) : onV a g l i = l.getD i 0 := by rw [onV, dif_neg (by omega)]
theorem onV_from {a : Nat} {g : Int} {l : List Int} {i : Nat} (h0 : a = 0 → g = 0) (h : a ≤ i) : onV a g l i = l.getD i 0 + tk g (onV a g l (i - a)) := by
  by_cases ha : 0 < a
  · rw [onV, dif_pos ⟨ha, h⟩]
  · rw [onV, dif_neg (by omega), h0 (by omega), tk_zero]; omega
theorem onV_zero {g : Int} (l : List Int) (i : Nat) : onV 0 g l i = l.getD i 0 := by rw [onV, dif_neg (by omega)]

theorem get_bound {l : List Int} (hb : ∀ x ∈ l, -1099511627776 ≤ x ∧ x ≤ 1099511627776) (i : Nat) : -1099511627776 ≤ l.getD i 0 ∧ l.getD i 0 ≤ 1099511627776 := by
  by_cases h : i < l.length
  · rw [getD_lt h]; exact hb _ (List.getElem_mem h)
  · rw [List.getD, List.getElem?_eq_none (by omega)]; simp
theorem codeO_ok {a : Nat} {g : Int} {l : List Int} (h : codeT (a : Int) g l = 0) (h2 : (onL a g l).all inB = true) : codeO (a : Int) g l = 0 := by
  unfold codeO
  rw [if_pos h, Int.toNat_natCast, h2]; rfl
theorem codeO_bad {a : Nat} {g : Int} {l : List Int} (h : codeT (a : Int) g l = 0) (h2 : (onL a g l).all inB = false) : codeO (a : Int) g l = 9 := by
  unfold codeO
  rw [if_pos h, Int.toNat_natCast, h2]; rfl
theorem codeO_not {a g : Int} {l : List Int} (h : codeT a g l ≠ 0) : codeO a g l = codeT a g l := if_neg h
theorem onL_all {a : Nat} {g : Int} {l : List Int} (h : ∀ j, j < l.length → inB (onV a g l j) = true) : (onL a g l).all inB = true := by
  rw [List.all_eq_true]
  intro x hx
  obtain ⟨i, hi, rfl⟩ := List.getElem_of_mem hx
  rw [onL_length] at hi
  rw [onL_at hi]
  exact h i hi
end Go.Proofs.LagM
end

section
namespace Go.Proofs.PipeM

def kOk (k : Int) : Bool := decide (0 ≤ k ∧ k ≤ 24)
/-- May a list of so many numbers be told in these parts? -/
def partsOk (n : Nat) (P : Int) (ks : List Int) : Bool :=
  decide (1 ≤ n ∧ n ≤ 1024 ∧ 0 ≤ P ∧ P ≤ 3 ∧ n % 2 ^ P.toNat = 0 ∧ ks.length = 2 ^ P.toNat) && ks.all kOk
def nOk (n : Int) : Bool := decide (-8589934592 ≤ n ∧ n ≤ 8589934591)
def listOk (l : List Int) : Bool := l.all nOk && decide (1 ≤ l.length ∧ l.length ≤ 1024)

/-- A part's bits; the bits of parts of one length; a list's. -/
def partBits (k : Int) (c : List Int) : List Bool := low k.toNat 5 ++ c.flatMap (codeOf · k)
def bodyBits (size : Nat) : List Int → List Int → List Bool
  | [], _ => []
  | k :: ks, l => partBits k (l.take size) ++ bodyBits size ks (l.drop size)
def listBits (l : List Int) (P : Int) (ks : List Int) : List Bool := low P.toNat 2 ++ bodyBits (l.length / ks.length) ks l

/-- The same, number by number. -/
def elemAt (size : Nat) (ks l : List Int) (i : Nat) : List Bool :=
  (if i % size = 0 then low (ks.getD (i / size) 0).toNat 5 else []) ++ codeOf (l.getD i 0) (ks.getD (i / size) 0)
def elemBits (size : Nat) (ks l : List Int) (n : Nat) : List Bool := (List.range n).flatMap (elemAt size ks l)

theorem elemBits_succ (size : Nat) (ks l : List Int) (n : Nat) : elemBits size ks l (n + 1) = elemBits size ks l n ++ elemAt size ks l n := by
  simp [elemBits, List.range_succ]

theorem elem_first (size : Nat) (k : Int) (ks l : List Int) : ∀ n, n ≤ size → n ≤ l.length → 0 < n → elemBits size (k :: ks) l n = low k.toNat 5 ++ (l.take n).flatMap (codeOf · k)
  | 0, _, _, h => absurd h (by omega)
  | 1, hs, hl, _ => by
    obtain ⟨a, r, rfl⟩ : ∃ a r, l = a :: r := by
      cases l with
      | nil => simp at hl
      | cons a r => exact ⟨a, r, rfl⟩
    simp [elemBits, elemAt]
  | n + 2, hs, hl, _ => by
    have ht : l.take (n + 2) = l.take (n + 1) ++ [l[n + 1]] := List.take_succ_eq_append_getElem (by omega : n + 1 < l.length)
    rw [elemBits_succ, elem_first size k ks l (n + 1) (by omega) (by omega) (by omega), ht]
    have h1 : (n + 1) / size = 0 := Nat.div_eq_of_lt (by omega)
    have h2 : (n + 1) % size = n + 1 := Nat.mod_eq_of_lt (by omega)
    have h3 : l.getD (n + 1) 0 = l[n + 1] := by rw [List.getD, List.getElem?_eq_getElem (by omega)]; rfl
    simp only [elemAt, h1, h2, h3, if_neg (Nat.succ_ne_zero n), List.getD_cons_zero, List.nil_append, List.flatMap_append, List.flatMap_cons, List.flatMap_nil, List.append_nil, List.append_assoc]

theorem elem_later (size : Nat) (hs : 0 < size) (k : Int) (ks l : List Int) (i : Nat) : elemAt size (k :: ks) l (size + i) = elemAt size ks (l.drop size) i := by
  have h1 : (size + i) / size = i / size + 1 := by rw [Nat.add_div_left _ hs]
  have h2 : (size + i) % size = i % size := by simp
  have h3 : l.getD (size + i) 0 = (l.drop size).getD i 0 := by simp [List.getD]
  simp only [elemAt, h1, h2, h3, List.getD_cons_succ]

theorem elem_body (size : Nat) (hs : 0 < size) : ∀ ks l : List Int, l.length = size * ks.length → elemBits size ks l l.length = bodyBits size ks l
  | [], l, h => by
    have : l.length = 0 := by simpa using h
    rw [this]; rfl
  | k :: ks, l, h => by
    have hl : l.length = size + (l.drop size).length := by
      rw [List.length_cons, Nat.mul_add, Nat.mul_one] at h
      simp
      have : 0 ≤ size * ks.length := Nat.zero_le _
      omega
    have hd : (l.drop size).length = size * ks.length := by
      rw [List.length_cons, Nat.mul_add, Nat.mul_one] at h
      simp
      omega
    have hsp : elemBits size (k :: ks) l l.length = elemBits size (k :: ks) l size ++ elemBits size ks (l.drop size) (l.drop size).length := by
      conv => lhs; rw [hl]
      rw [elemBits, List.range_add, List.flatMap_append]
      congr 1
      rw [List.flatMap_map, elemBits]
      congr 1
      funext i
      exact elem_later size hs k ks l i
    rw [hsp, elem_body size hs ks (l.drop size) hd, elem_first size k ks l size (Nat.le_refl _) (by omega) hs]
    rfl

theorem div_parts {n m : Nat} (h : n % m = 0) : n = (n / m) * m := by
  have := Nat.div_add_mod n m
  rw [h, Nat.mul_comm] at this
  omega

def slideOk (l : List Int) (P : Int) (ks : List Int) : Bool := partsOk l.length P ks && listOk l
def slideBits (l : List Int) (P : Int) (ks : List Int) : List Bool := if slideOk l P ks then listBits l P ks else []

theorem codeOf_len (n k : Int) : (codeOf n k).length ≤ 59 := by
  unfold codeOf
  split
  · rename_i h
    unfold codeOk at h
    have := of_decide_eq_true h
    rw [codeBits_length]
    exact costN_le _ _ (by omega)
  · simp

theorem elemBits_len (size : Nat) (ks l : List Int) : ∀ n, (elemBits size ks l n).length ≤ 64 * n
  | 0 => by simp [elemBits]
  | n + 1 => by
    rw [elemBits_succ, List.length_append]
    have h := elemBits_len size ks l n
    have h1 : (elemAt size ks l n).length ≤ 64 := by
      unfold elemAt
      have := codeOf_len (l.getD n 0) (ks.getD (n / size) 0)
      rw [List.length_append]
      split
      · rw [low_length]; omega
      · rw [List.length_nil]; omega
    omega

theorem slide_parts {l ks : List Int} {P : Int} (h : slideOk l P ks = true) :
    ∃ p : Nat, P = p ∧ p ≤ 3 ∧ ks.length = 2 ^ p ∧ ks.length ≤ 8 ∧ 1 ≤ ks.length ∧ 1 ≤ l.length ∧ l.length ≤ 1024 ∧ 1 ≤ l.length / ks.length ∧ l.length / ks.length ≤ 1024 ∧ l.length = (l.length / ks.length) * ks.length ∧ (∀ k ∈ ks, 0 ≤ k ∧ k ≤ 24) ∧ ∀ n ∈ l, InR n := by
  unfold slideOk partsOk listOk at h
  simp only [Bool.and_eq_true, decide_eq_true_eq] at h
  obtain ⟨⟨⟨h1, h2, h3, h4, h5, h6⟩, hk⟩, hn, h7⟩ := h
  obtain ⟨p, rfl⟩ := Int.eq_ofNat_of_zero_le h3
  rw [Int.toNat_natCast] at h5 h6
  have hp : 1 ≤ 2 ^ p ∧ 2 ^ p ≤ 8 := ⟨Nat.two_pow_pos p, Nat.le_trans (Nat.pow_le_pow_right (by decide) (by omega : p ≤ 3)) (by decide)⟩
  have hd : l.length = (l.length / ks.length) * ks.length := div_parts (by rw [h6]; exact h5)
  refine ⟨p, rfl, by omega, h6, by omega, by omega, h1, h2, ?_, Nat.le_trans (Nat.div_le_self _ _) h2, hd, ?_, ?_⟩
  · rcases Nat.eq_zero_or_pos (l.length / ks.length) with h | h
    · rw [h] at hd; omega
    · exact h
  · intro k hk2
    exact of_decide_eq_true (List.all_eq_true.1 hk k hk2)
  · intro n hn2
    have h8 : nOk n = true := List.all_eq_true.1 hn n hn2
    unfold nOk at h8
    have h9 := of_decide_eq_true h8
    exact h9
end Go.Proofs.PipeM
end
