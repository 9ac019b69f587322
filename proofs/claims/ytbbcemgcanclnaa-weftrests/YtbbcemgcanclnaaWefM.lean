import Derived.WalkKit
namespace Go.Proofs.WefM

/-- A channel told by another one: whether it is, the master's place, the three gains. -/
structure Wv where
  some : Bool
  master : Int
  g0 : Int
  g1 : Int
  g2 : Int
def inS (n : Int) : Bool := decide (-8388608 ≤ n ∧ n ≤ 8388607)
def gIn (g : Int) : Bool := decide (-16 ≤ g ∧ g ≤ 15)
def noneG (w : Wv) : Bool := decide (w.g0 = 0) && decide (w.g1 = 0) && decide (w.g2 = 0)
/-- May a weave be among so many channels? -/
def goodW (w : Wv) (ch : Int) : Bool :=
  if w.some then gIn w.g0 && gIn w.g1 && gIn w.g2 && !noneG w && decide (0 ≤ w.master) && decide (w.master < ch) && decide (w.master < 8)
  else noneG w && decide (w.master = 0)
/-- A channel's sample of a place behind the one ahead (0, where there is none); what is foreseen of a place. -/
def aheadW (m : List Int) (i : Nat) : Int := if 0 < i then m.getD (i - 1) 0 else 0
def fore (w : Wv) (m : List Int) (i : Nat) : Int := (w.g0 * aheadW m i + w.g1 * m.getD i 0 + w.g2 * m.getD (i + 1) 0) / 16
/-- What isn't foreseen; what comes back of it. -/
def restL (w : Wv) (own m : List Int) : List Int := (List.range own.length).map (fun i => own.getD i 0 - fore w m i)
def backL (w : Wv) (rest m : List Int) : List Int := (List.range rest.length).map (fun i => rest.getD i 0 + fore w m i)
def inM (most n : Int) : Bool := decide (-most - 1 ≤ n ∧ n ≤ most)
/-- What is wrong. -/
def codeRest (w : Wv) (own m : List Int) : Int :=
  if goodW w 8 then (if own.length = m.length then (if own.all inS && m.all inS then 0 else 9) else 8) else 2
def codeBack (w : Wv) (rest m : List Int) (most : Int) : Int :=
  if goodW w 8 then (if rest.length = m.length then (if 0 ≤ most ∧ most ≤ 8388607 then (if m.all inS then (if (backL w rest m).all (inM most) then 0 else 9) else 9) else 1) else 8) else 2

theorem restL_length (w : Wv) (own m : List Int) : (restL w own m).length = own.length := by simp [restL]
theorem backL_length (w : Wv) (rest m : List Int) : (backL w rest m).length = rest.length := by simp [backL]
theorem getD_ltW {l : List Int} {i : Nat} (h : i < l.length) : l.getD i 0 = l[i] := by rw [List.getD, List.getElem?_eq_getElem h]; rfl
theorem restL_at {w : Wv} {own m : List Int} {i : Nat} (h : i < own.length) : (restL w own m)[i]'(by rw [restL_length]; exact h) = own.getD i 0 - fore w m i := by simp [restL]
theorem backL_at {w : Wv} {rest m : List Int} {i : Nat} (h : i < rest.length) : (backL w rest m)[i]'(by rw [backL_length]; exact h) = rest.getD i 0 + fore w m i := by simp [backL]
theorem restL_get {w : Wv} {own m : List Int} {i : Nat} (h : i < own.length) : (restL w own m).getD i 0 = own.getD i 0 - fore w m i := by rw [getD_ltW (by rw [restL_length]; exact h), restL_at h]
theorem backL_get {w : Wv} {rest m : List Int} {i : Nat} (h : i < rest.length) : (backL w rest m).getD i 0 = rest.getD i 0 + fore w m i := by rw [getD_ltW (by rw [backL_length]; exact h), backL_at h]
/-- The channel comes back, and so does the rest. -/
theorem back_rest (w : Wv) (own m : List Int) : backL w (restL w own m) m = own := by
  refine List.ext_getElem (by rw [backL_length, restL_length]) (fun i h1 h2 => ?_)
  rw [backL_at (by rw [restL_length]; exact h2), restL_get h2, getD_ltW h2]
  omega
theorem rest_back (w : Wv) (rest m : List Int) : restL w (backL w rest m) m = rest := by
  refine List.ext_getElem (by rw [restL_length, backL_length]) (fun i h1 h2 => ?_)
  rw [restL_at (by rw [backL_length]; exact h2), backL_get h2, getD_ltW h2]
  omega
theorem inS_of {n : Int} (h : inS n = true) : -8388608 ≤ n ∧ n ≤ 8388607 := of_decide_eq_true h
theorem all_S {l : List Int} (h : l.all inS = true) : ∀ x ∈ l, -8388608 ≤ x ∧ x ≤ 8388607 := fun x hx => inS_of (List.all_eq_true.1 h x hx)
theorem get_S {l : List Int} (h : l.all inS = true) (i : Nat) : -8388608 ≤ l.getD i 0 ∧ l.getD i 0 ≤ 8388607 := by
  by_cases hi : i < l.length
  · rw [getD_ltW hi]; exact all_S h _ (List.getElem_mem hi)
  · rw [List.getD, List.getElem?_eq_none (by omega)]; exact ⟨by decide, by decide⟩
theorem ahead_S {l : List Int} (h : l.all inS = true) (i : Nat) : -8388608 ≤ aheadW l i ∧ aheadW l i ≤ 8388607 := by
  unfold aheadW
  split
  · exact get_S h _
  · exact ⟨by decide, by decide⟩
/-- A gain's share of a sample. -/
theorem prodW {g x : Int} (hg : -16 ≤ g ∧ g ≤ 15) (hx : -8388608 ≤ x ∧ x ≤ 8388607) : -134217728 ≤ g * x ∧ g * x ≤ 134217728 := by
  rcases Int.le_total 0 x with h | h
  · have h1 : g * x ≤ 15 * x := Int.mul_le_mul_of_nonneg_right hg.2 h
    have h2 : -16 * x ≤ g * x := Int.mul_le_mul_of_nonneg_right hg.1 h
    omega
  · have h1 : 15 * x ≤ g * x := Int.mul_le_mul_of_nonpos_right hg.2 h
    have h2 : g * x ≤ -16 * x := Int.mul_le_mul_of_nonpos_right hg.1 h
    omega
theorem good_gains {w : Wv} {ch : Int} (h : goodW w ch = true) : (-16 ≤ w.g0 ∧ w.g0 ≤ 15) ∧ (-16 ≤ w.g1 ∧ w.g1 ≤ 15) ∧ (-16 ≤ w.g2 ∧ w.g2 ≤ 15) := by
  unfold goodW gIn noneG at h
  split at h
  · simp only [Bool.and_eq_true, decide_eq_true_eq] at h
    omega
  · simp only [Bool.and_eq_true, decide_eq_true_eq] at h
    omega
theorem fore_bound {w : Wv} {ch : Int} {m : List Int} (h : goodW w ch = true) (hm : m.all inS = true) (i : Nat) : -25165824 ≤ fore w m i ∧ fore w m i ≤ 25165824 := by
  obtain ⟨h0, h1, h2⟩ := good_gains h
  have a := prodW h0 (ahead_S hm i)
  have b := prodW h1 (get_S hm i)
  have c := prodW h2 (get_S hm (i + 1))
  unfold fore
  generalize w.g0 * aheadW m i = x at *
  generalize w.g1 * m.getD i 0 = y at *
  generalize w.g2 * m.getD (i + 1) 0 = z at *
  omega
theorem codeRest_zero {w : Wv} {own m : List Int} (h : codeRest w own m = 0) : goodW w 8 = true ∧ own.length = m.length ∧ own.all inS = true ∧ m.all inS = true := by
  unfold codeRest at h
  split at h
  · rename_i h1
    split at h
    · rename_i h2
      split at h
      · rename_i h3
        rw [Bool.and_eq_true] at h3
        exact ⟨h1, h2, h3.1, h3.2⟩
      · cases h
    · cases h
  · cases h
theorem codeBack_zero {w : Wv} {rest m : List Int} {most : Int} (h : codeBack w rest m most = 0) : goodW w 8 = true ∧ rest.length = m.length ∧ (0 ≤ most ∧ most ≤ 8388607) ∧ m.all inS = true ∧ (backL w rest m).all (inM most) = true := by
  unfold codeBack at h
  split at h
  · rename_i h1
    split at h
    · rename_i h2
      split at h
      · rename_i h3
        split at h
        · rename_i h4
          split at h
          · rename_i h5; exact ⟨h1, h2, h3, h4, h5⟩
          · cases h
        · cases h
      · cases h
    · cases h
  · cases h
/-- The rest of a channel comes back without an error; so does what came back. -/
theorem back_ok {w : Wv} {own m : List Int} (h : codeRest w own m = 0) : codeBack w (restL w own m) m 8388607 = 0 := by
  obtain ⟨h1, h2, h3, h4⟩ := codeRest_zero h
  have h5 : own.all (inM 8388607) = true := by
    rw [List.all_eq_true]
    intro x hx
    have := all_S h3 x hx
    exact decide_eq_true (by omega)
  unfold codeBack
  rw [if_pos h1, if_pos (by rw [restL_length]; exact h2), if_pos (by decide), if_pos h4, back_rest, if_pos h5]
theorem rest_ok {w : Wv} {rest m : List Int} {most : Int} (h : codeBack w rest m most = 0) : codeRest w (backL w rest m) m = 0 := by
  obtain ⟨h1, h2, h3, h4, h5⟩ := codeBack_zero h
  have h6 : (backL w rest m).all inS = true := by
    rw [List.all_eq_true]
    intro x hx
    have := of_decide_eq_true (List.all_eq_true.1 h5 x hx)
    exact decide_eq_true (by omega)
  unfold codeRest
  rw [if_pos h1, if_pos (by rw [backL_length]; exact h2), h6, h4]; rfl
/-- A rest far from any sample brings no sample. -/
theorem far_back {w : Wv} {rest m : List Int} {most : Int} (hg : goodW w 8 = true) (hm : m.all inS = true) (hmost : 0 ≤ most ∧ most ≤ 8388607) {i : Nat} (hi : i < rest.length) (hf : rest.getD i 0 < -33554433 ∨ 33554433 < rest.getD i 0) : (backL w rest m).all (inM most) = false := by
  cases h : (backL w rest m).all (inM most) with
  | false => rfl
  | true =>
    have h1 := of_decide_eq_true (List.all_eq_true.1 h _ (List.getElem_mem (l := backL w rest m) (by rw [backL_length]; exact hi)))
    rw [backL_at hi] at h1
    have h2 := fore_bound hg hm i
    omega

/-- The sum of sizes; the weave of one gain; what is left with it. -/
def sumW (l : List Int) : Nat := (l.map Int.natAbs).sum
def gainW (g : Nat) : Wv := ⟨true, 0, 0, g, 0⟩
def sumG (own m : List Int) (g : Nat) : Nat := sumW (restL (gainW g) own m)
/-- The least of the gains up to one that leave the least. -/
def bestTo (own m : List Int) : Nat → Nat
  | 0 => 0
  | g + 1 => if sumG own m (g + 1) < sumG own m (bestTo own m g) then g + 1 else bestTo own m g
theorem fore_none (w : Wv) (h : noneG w = true) (m : List Int) (i : Nat) : fore w m i = 0 := by
  unfold noneG at h
  simp only [Bool.and_eq_true, decide_eq_true_eq] at h
  unfold fore
  rw [h.1.1, h.1.2, h.2]
  simp
theorem restL_none (w : Wv) (h : noneG w = true) (own m : List Int) : restL w own m = own := by
  refine List.ext_getElem (restL_length _ _ _) (fun i h1 h2 => ?_)
  rw [restL_at h2, fore_none w h, getD_ltW h2]
  omega
theorem backL_none (w : Wv) (h : noneG w = true) (rest m : List Int) : backL w rest m = rest := by
  refine List.ext_getElem (backL_length _ _ _) (fun i h1 h2 => ?_)
  rw [backL_at h2, fore_none w h, getD_ltW h2]
  omega
theorem sumG_zero (own m : List Int) : sumG own m 0 = sumW own := by unfold sumG; rw [restL_none (gainW 0) rfl]
theorem bestTo_le (own m : List Int) (k : Nat) : bestTo own m k ≤ k := by
  induction k with
  | zero => exact Nat.le_refl _
  | succ k ih => unfold bestTo; split <;> omega
theorem bestTo_least (own m : List Int) (k : Nat) : ∀ g, g ≤ k → sumG own m (bestTo own m k) ≤ sumG own m g := by
  induction k with
  | zero => intro g hg; obtain rfl : g = 0 := by omega
            exact Nat.le_refl _
  | succ k ih =>
    intro g hg
    unfold bestTo
    by_cases h : sumG own m (k + 1) < sumG own m (bestTo own m k)
    · rw [if_pos h]
      rcases Nat.lt_or_ge g (k + 1) with h1 | h1
      · have := ih g (by omega); omega
      · obtain rfl : g = k + 1 := by omega
        exact Nat.le_refl _
    · rw [if_neg h]
      rcases Nat.lt_or_ge g (k + 1) with h1 | h1
      · exact ih g (by omega)
      · obtain rfl : g = k + 1 := by omega
        omega
theorem good_gain {g : Nat} (h1 : 1 ≤ g) (h2 : g ≤ 15) : goodW (gainW g) 8 = true := by
  unfold goodW gainW gIn noneG
  simp only [if_true, Bool.and_eq_true, decide_eq_true_eq, Bool.not_eq_true', Bool.and_eq_false_iff, decide_eq_false_iff_not]
  omega
theorem good_none {ch : Int} : goodW ⟨false, 0, 0, 0, 0⟩ ch = true := rfl
end Go.Proofs.WefM
