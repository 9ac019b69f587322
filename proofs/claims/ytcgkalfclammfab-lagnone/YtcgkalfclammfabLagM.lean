import Derived.WalkKit
namespace Go.Proofs.LagM

/-- May a number be? -/
def inB (n : Int) : Bool := decide (-1099511627776 ≤ n ∧ n ≤ 1099511627776)
/-- May a term be? -/
def goodT (a g : Int) : Bool := (decide (a = 0) && decide (g = 0)) || (decide (1 ≤ a) && decide (a ≤ 255) && decide (1 ≤ g) && decide (g ≤ 15))
/-- What is wrong with a term, or with numbers. -/
def codeT (a g : Int) (l : List Int) : Int := if goodT a g then (if l.all inB then 0 else 9) else 1
/-- What a gain takes off for a number. -/
def tk (g n : Int) : Int := n * g / 16
/-- What is left at a place. -/
def offV (a : Nat) (g : Int) (l : List Int) (i : Nat) : Int := if a ≤ i then l.getD i 0 - tk g (l.getD (i - a) 0) else l.getD i 0
def offL (a : Nat) (g : Int) (l : List Int) : List Int := (List.range l.length).map (offV a g l)
/-- What comes out at a place. -/
def onV (a : Nat) (g : Int) (l : List Int) (i : Nat) : Int :=
  if _h : 0 < a ∧ a ≤ i then l.getD i 0 + tk g (onV a g l (i - a)) else l.getD i 0
  termination_by i
  decreasing_by omega
def onL (a : Nat) (g : Int) (l : List Int) : List Int := (List.range l.length).map (onV a g l)
/-- What is wrong with a term, or with numbers, or with what comes out. -/
def codeO (a g : Int) (l : List Int) : Int := if codeT a g l = 0 then (if (onL a.toNat g l).all inB then 0 else 9) else codeT a g l

theorem inB_of {n : Int} (h : inB n = true) : -1099511627776 ≤ n ∧ n ≤ 1099511627776 := of_decide_eq_true h
theorem all_B {l : List Int} (h : l.all inB = true) : ∀ x ∈ l, -1099511627776 ≤ x ∧ x ≤ 1099511627776 := fun x hx => inB_of (List.all_eq_true.1 h x hx)
theorem goodT_of {a g : Int} (h : goodT a g = true) : ∃ n : Nat, a = n ∧ n ≤ 255 ∧ 0 ≤ g ∧ g ≤ 15 ∧ (n = 0 → g = 0) ∧ (0 < n → 1 ≤ g) := by
  unfold goodT at h
  simp only [Bool.or_eq_true, Bool.and_eq_true, decide_eq_true_eq] at h
  obtain ⟨n, rfl⟩ : ∃ n : Nat, a = n := ⟨a.toNat, by omega⟩
  exact ⟨n, rfl, by omega, by omega, by omega, by omega, by omega⟩
theorem goodT_nat {n : Nat} {g : Int} (h1 : 1 ≤ n) (h2 : n ≤ 255) (h3 : 1 ≤ g) (h4 : g ≤ 15) : goodT (n : Int) g = true := by
  unfold goodT
  simp only [Bool.or_eq_true, Bool.and_eq_true, decide_eq_true_eq]
  omega
theorem codeT_zero {a g : Int} {l : List Int} (h : codeT a g l = 0) : goodT a g = true ∧ l.all inB = true := by
  unfold codeT at h
  split at h
  · rename_i h1
    split at h
    · rename_i h2; exact ⟨h1, h2⟩
    · cases h
  · cases h
theorem codeT_of {a g : Int} {l : List Int} (h : goodT a g = true) (h2 : l.all inB = true) : codeT a g l = 0 := by unfold codeT; rw [h, h2]; rfl
theorem codeT_good {a g : Int} {l : List Int} (h : goodT a g = false) : codeT a g l = 1 := by unfold codeT; rw [h]; rfl
theorem codeT_all {a g : Int} {l : List Int} (h : goodT a g = true) (h2 : l.all inB = false) : codeT a g l = 9 := by unfold codeT; rw [h, h2]; rfl
theorem codeT_cases (a g : Int) (l : List Int) : codeT a g l = 0 ∨ codeT a g l = 1 ∨ codeT a g l = 9 := by
  unfold codeT
  split
  · split <;> simp
  · simp

theorem offL_length (a : Nat) (g : Int) (l : List Int) : (offL a g l).length = l.length := by simp [offL]
theorem onL_length (a : Nat) (g : Int) (l : List Int) : (onL a g l).length = l.length := by simp [onL]
theorem offL_at {a : Nat} {g : Int} {l : List Int} {i : Nat} (h : i < l.length) : (offL a g l)[i]'(by rw [offL_length]; exact h) = offV a g l i := by simp [offL]
theorem onL_at {a : Nat} {g : Int} {l : List Int} {i : Nat} (h : i < l.length) : (onL a g l)[i]'(by rw [onL_length]; exact h) = onV a g l i := by simp [onL]
theorem getD_lt {l : List Int} {i : Nat} (h : i < l.length) : l.getD i 0 = l[i] := by rw [List.getD, List.getElem?_eq_getElem h]; rfl
theorem offL_get {a : Nat} {g : Int} {l : List Int} {i : Nat} (h : i < l.length) : (offL a g l).getD i 0 = offV a g l i := by rw [getD_lt (by rw [offL_length]; exact h), offL_at h]
theorem onL_get {a : Nat} {g : Int} {l : List Int} {i : Nat} (h : i < l.length) : (onL a g l).getD i 0 = onV a g l i := by rw [getD_lt (by rw [onL_length]; exact h), onL_at h]

theorem tk_zero (n : Int) : tk 0 n = 0 := by simp [tk]
theorem prod_bound {g n : Int} (hg : 0 ≤ g ∧ g ≤ 15) (hn : -1099511627776 ≤ n ∧ n ≤ 1099511627776) : -16492674416640 ≤ n * g ∧ n * g ≤ 16492674416640 := by
  have e1 : n * g ≤ 1099511627776 * g := Int.mul_le_mul_of_nonneg_right hn.2 hg.1
  have e2 : (-n) * g ≤ 1099511627776 * g := Int.mul_le_mul_of_nonneg_right (by omega) hg.1
  rw [Int.neg_mul] at e2
  omega
theorem tk_bound {g n : Int} (hg : 0 ≤ g ∧ g ≤ 15) (hn : -1099511627776 ≤ n ∧ n ≤ 1099511627776) : -1099511627776 ≤ tk g n ∧ tk g n ≤ 1099511627776 := by
  have := prod_bound hg hn
  unfold tk
  omega

theorem offV_late {a : Nat} {g : Int} {l : List Int} {i : Nat} (h : i < a) : offV a g l i = l.getD i 0 := if_neg (by omega)
theorem offV_from {a : Nat} {g : Int} {l : List Int} {i : Nat} (h : a ≤ i) : offV a g l i = l.getD i 0 - tk g (l.getD (i - a) 0) := if_pos h
theorem onV_late {a : Nat} {g : Int} {l : List Int} {i : Nat} (h : i < a) : onV a g l i = l.getD i 0 := by rw [onV, dif_neg (by omega)]
theorem onV_from {a : Nat} {g : Int} {l : List Int} {i : Nat} (h0 : a = 0 → g = 0) (h : a ≤ i) : onV a g l i = l.getD i 0 + tk g (onV a g l (i - a)) := by
  by_cases ha : 0 < a
  · rw [onV, dif_pos ⟨ha, h⟩]
  · rw [onV, dif_neg (by omega), h0 (by omega), tk_zero]; omega
theorem offV_zero (l : List Int) (i : Nat) : offV 0 0 l i = l.getD i 0 := by rw [offV_from (Nat.zero_le _), tk_zero]; omega
theorem onV_zero {g : Int} (l : List Int) (i : Nat) : onV 0 g l i = l.getD i 0 := by rw [onV, dif_neg (by omega)]

theorem ext_getD {l m : List Int} (h : l.length = m.length) (h2 : ∀ i, i < l.length → l.getD i 0 = m.getD i 0) : l = m := by
  apply List.ext_getElem h
  intro i h3 h4
  have := h2 i h3
  rwa [getD_lt h3, getD_lt h4] at this
/-- On of Off are the numbers. -/
theorem onV_off {a : Nat} {g : Int} {l : List Int} (h0 : a = 0 → g = 0) (i : Nat) (h : i < l.length) : onV a g (offL a g l) i = l.getD i 0 := by
  induction i using Nat.strongRecOn with
  | _ i ih =>
    by_cases hi : a ≤ i
    · by_cases ha : a = 0
      · subst ha
        rw [onV_zero, offL_get h, h0 rfl, offV_zero]
      · rw [onV_from h0 hi, offL_get h, offV_from hi, ih (i - a) (by omega) (by omega)]; omega
    · rw [onV_late (by omega), offL_get h, offV_late (by omega)]
theorem on_off {a : Nat} {g : Int} {l : List Int} (h0 : a = 0 → g = 0) : onL a g (offL a g l) = l := by
  apply ext_getD
  · rw [onL_length, offL_length]
  · intro i hi
    have hi' : i < l.length := by rwa [onL_length, offL_length] at hi
    rw [onL_get (by rw [offL_length]; exact hi'), onV_off h0 i hi']
/-- Off of On are the numbers. -/
theorem off_on {a : Nat} {g : Int} {l : List Int} (h0 : a = 0 → g = 0) : offL a g (onL a g l) = l := by
  apply ext_getD
  · rw [offL_length, onL_length]
  · intro i hi
    have hi' : i < l.length := by rwa [offL_length, onL_length] at hi
    rw [offL_get (by rw [onL_length]; exact hi')]
    by_cases hai : a ≤ i
    · rw [offV_from hai, onL_get hi', onL_get (by omega), onV_from h0 hai]; omega
    · rw [offV_late (by omega), onL_get hi', onV_late (by omega)]
theorem off_none (l : List Int) : offL 0 0 l = l := by
  apply ext_getD (offL_length _ _ _)
  intro i hi
  rw [offL_length] at hi
  rw [offL_get hi, offV_zero]
theorem off_late {a : Nat} {g : Int} {l : List Int} (h : l.length ≤ a) : offL a g l = l := by
  apply ext_getD (offL_length _ _ _)
  intro i hi
  rw [offL_length] at hi
  rw [offL_get hi, offV_late (by omega)]
theorem on_late {a : Nat} {g : Int} {l : List Int} (h : l.length ≤ a) : onL a g l = l := by
  apply ext_getD (onL_length _ _ _)
  intro i hi
  rw [onL_length] at hi
  rw [onL_get hi, onV_late (by omega)]

theorem get_bound {l : List Int} (hb : ∀ x ∈ l, -1099511627776 ≤ x ∧ x ≤ 1099511627776) (i : Nat) : -1099511627776 ≤ l.getD i 0 ∧ l.getD i 0 ≤ 1099511627776 := by
  by_cases h : i < l.length
  · rw [getD_lt h]; exact hb _ (List.getElem_mem h)
  · rw [List.getD, List.getElem?_eq_none (by omega)]; simp
theorem offV_bound {a : Nat} {g : Int} {l : List Int} (hg : 0 ≤ g ∧ g ≤ 15) (hb : ∀ x ∈ l, -1099511627776 ≤ x ∧ x ≤ 1099511627776) (i : Nat) : -2199023255552 ≤ offV a g l i ∧ offV a g l i ≤ 2199023255552 := by
  have h1 := get_bound hb i
  have h2 := tk_bound hg (get_bound hb (i - a))
  unfold offV
  split <;> omega
theorem offL_bound {a : Nat} {g : Int} {l : List Int} (hg : 0 ≤ g ∧ g ≤ 15) (hb : ∀ x ∈ l, -1099511627776 ≤ x ∧ x ≤ 1099511627776) : ∀ x ∈ offL a g l, -2199023255552 ≤ x ∧ x ≤ 2199023255552 := by
  intro x hx
  obtain ⟨i, hi, rfl⟩ := List.getElem_of_mem hx
  rw [offL_length] at hi
  rw [offL_at hi]
  exact offV_bound hg hb i
/-- What came from the numbers back is such as may be. -/
theorem codeO_off {a : Nat} {g : Int} {l : List Int} (h : codeT (a : Int) g l = 0) (h2 : codeT (a : Int) g (offL a g l) = 0) : codeO (a : Int) g (offL a g l) = 0 := by
  obtain ⟨h3, h4⟩ := codeT_zero h
  obtain ⟨n, hn, _, _, _, h0, _⟩ := goodT_of h3
  obtain rfl : a = n := by omega
  unfold codeO
  rw [if_pos h2, Int.toNat_natCast, on_off h0, h4]; rfl
theorem codeO_zero {a : Nat} {g : Int} {l : List Int} (h : codeO (a : Int) g l = 0) : codeT (a : Int) g l = 0 ∧ (onL a g l).all inB = true ∧ codeT (a : Int) g (onL a g l) = 0 := by
  unfold codeO at h
  split at h
  · rename_i h1
    rw [Int.toNat_natCast] at h
    split at h
    · rename_i h2
      exact ⟨h1, h2, codeT_of (codeT_zero h1).1 h2⟩
    · cases h
  · rename_i h1; exact absurd h h1
theorem codeO_ok {a : Nat} {g : Int} {l : List Int} (h : codeT (a : Int) g l = 0) (h2 : (onL a g l).all inB = true) : codeO (a : Int) g l = 0 := by
  unfold codeO
  rw [if_pos h, Int.toNat_natCast, h2]; rfl
theorem codeO_bad {a : Nat} {g : Int} {l : List Int} (h : codeT (a : Int) g l = 0) (h2 : (onL a g l).all inB = false) : codeO (a : Int) g l = 9 := by
  unfold codeO
  rw [if_pos h, Int.toNat_natCast, h2]; rfl
theorem codeO_not {a g : Int} {l : List Int} (h : codeT a g l ≠ 0) : codeO a g l = codeT a g l := if_neg h
theorem onL_all {a : Nat} {g : Int} {l : List Int} (h : ∀ j, j < l.length → inB (onV a g l j) = true) : (onL a g l).all inB = true := by
  rw [List.all_eq_true]
  intro x hx
  obtain ⟨i, hi, rfl⟩ := List.getElem_of_mem hx
  rw [onL_length] at hi
  rw [onL_at hi]
  exact h i hi
end Go.Proofs.LagM
