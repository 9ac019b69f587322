import Derived.Laws.BitsAllLaws

namespace Go.Proofs.LatM

/-- The rounded part of a product. -/
def rnd (p : Int) : Int := (p + 8192) / 16384
/-- An index's reflection at a place. -/
def refl (place : Nat) (i : Int) : Int := if place = 0 then 2 * (i + 64) * (i + 64) - 16384 else if place = 1 then 16384 - 2 * (i + 64) * (i + 64) else 256 * i
def ix (n : Int) : Bool := decide (-64 ≤ n ∧ n ≤ 63)
/-- Are numbers an index list? -/
def goodL (l : List Int) : Bool := l.all ix && decide (l.length ≤ 16)
/-- The coefficients behind one more reflection. -/
def stp (a : List Int) (k : Int) : List Int := (List.range a.length).map (fun j => a.getD j 0 + rnd (k * a.getD (a.length - 1 - j) 0)) ++ [k]
/-- The coefficients behind the first n indices. -/
def cf (l : List Int) : Nat → List Int
  | 0 => []
  | n + 1 => stp (cf l n) (refl n (l.getD n 0))
/-- What is summed for a prediction. -/
def psum (c p : List Int) : Nat → Int
  | 0 => 0
  | j + 1 => psum c p j + c.getD j 0 * p.getD (p.length - 1 - j) 0
def pred (c p : List Int) : Int := -(rnd (psum c p (min c.length p.length)))

theorem stp_length (a : List Int) (k : Int) : (stp a k).length = a.length + 1 := by simp [stp]
theorem cf_length (l : List Int) : ∀ n, (cf l n).length = n
  | 0 => rfl
  | n + 1 => by rw [cf, stp_length, cf_length l n]
theorem rnd_bound {k a M : Int} (hk : -16384 ≤ k ∧ k ≤ 16384) (ha : -M ≤ a ∧ a ≤ M) : -M ≤ rnd (k * a) ∧ rnd (k * a) ≤ M := by
  have hM : 0 ≤ M := by omega
  have h1 : k * a ≤ 16384 * M := by
    by_cases h : 0 ≤ a
    · exact Int.le_trans (Int.mul_le_mul_of_nonneg_right hk.2 h) (Int.mul_le_mul_of_nonneg_left ha.2 (by omega))
    · have h2 : (-k) * (-a) ≤ 16384 * (-a) := Int.mul_le_mul_of_nonneg_right (by omega) (by omega)
      have h3 : (16384 : Int) * (-a) ≤ 16384 * M := Int.mul_le_mul_of_nonneg_left (by omega) (by omega)
      rw [Int.neg_mul_neg] at h2
      omega
  have h4 : -(16384 * M) ≤ k * a := by
    by_cases h : 0 ≤ a
    · have h2 : (-k) * a ≤ 16384 * a := Int.mul_le_mul_of_nonneg_right (by omega) h
      have h3 : (16384 : Int) * a ≤ 16384 * M := Int.mul_le_mul_of_nonneg_left ha.2 (by omega)
      rw [Int.neg_mul] at h2
      omega
    · have h2 : k * (-a) ≤ 16384 * (-a) := Int.mul_le_mul_of_nonneg_right hk.2 (by omega)
      have h3 : (16384 : Int) * (-a) ≤ 16384 * M := Int.mul_le_mul_of_nonneg_left (by omega) (by omega)
      rw [Int.mul_neg] at h2
      omega
  unfold rnd
  omega

theorem sq_bound {u : Int} (h0 : 0 ≤ u) (h1 : u ≤ 127) : 0 ≤ 2 * u * u ∧ 2 * u * u ≤ 32258 := by
  have h2 : u * u ≤ 127 * 127 := Int.le_trans (Int.mul_le_mul_of_nonneg_right h1 h0) (Int.mul_le_mul_of_nonneg_left h1 (by omega))
  have h3 : 0 ≤ u * u := Int.mul_nonneg h0 h0
  rw [Int.mul_assoc]
  omega
theorem refl_bound (p : Nat) {i : Int} (h : -64 ≤ i ∧ i ≤ 63) : -16384 ≤ refl p i ∧ refl p i ≤ 16384 := by
  have := sq_bound (u := i + 64) (by omega) (by omega)
  unfold refl
  split
  · omega
  · split <;> omega

theorem good_len {l : List Int} (h : goodL l = true) : l.length ≤ 16 := by
  unfold goodL at h
  rw [Bool.and_eq_true] at h
  exact of_decide_eq_true h.2
theorem good_at {l : List Int} (h : goodL l = true) {j : Nat} (hj : j < l.length) : -64 ≤ l[j] ∧ l[j] ≤ 63 := by
  unfold goodL at h
  rw [Bool.and_eq_true] at h
  exact of_decide_eq_true (List.all_eq_true.1 h.1 _ (List.getElem_mem hj))
theorem good_get {l : List Int} (h : goodL l = true) (j : Nat) : -64 ≤ l.getD j 0 ∧ l.getD j 0 ≤ 63 := by
  by_cases hj : j < l.length
  · rw [List.getD, List.getElem?_eq_getElem hj]
    exact good_at h hj
  · rw [List.getD, List.getElem?_eq_none (by omega)]
    decide

theorem getD_bound {l : List Int} {M : Int} (hM : 0 ≤ M) (h : ∀ x ∈ l, -M ≤ x ∧ x ≤ M) (j : Nat) : -M ≤ l.getD j 0 ∧ l.getD j 0 ≤ M := by
  by_cases hj : j < l.length
  · rw [List.getD, List.getElem?_eq_getElem hj]
    exact h _ (List.getElem_mem hj)
  · rw [List.getD, List.getElem?_eq_none (by omega)]
    simp [hM]
theorem cf_bound {l : List Int} (hg : goodL l = true) : ∀ n, ∀ x ∈ cf l n, -((2 ^ (n + 13) : Nat) : Int) ≤ x ∧ x ≤ ((2 ^ (n + 13) : Nat) : Int)
  | 0, x, hx => by simp [cf] at hx
  | n + 1, x, hx => by
    have hp : 2 ^ (n + 1 + 13) = 2 * 2 ^ (n + 13) := by rw [show n + 1 + 13 = (n + 13) + 1 by omega, Nat.pow_succ]; omega
    have h14 : 2 ^ 14 ≤ 2 ^ (n + 1 + 13) := Nat.pow_le_pow_right (by decide) (by omega)
    have ih := cf_bound hg n
    have hk := refl_bound n (good_get hg n)
    rw [cf, stp, List.mem_append] at hx
    rcases hx with hx | hx
    · obtain ⟨j, _, rfl⟩ := List.mem_map.1 hx
      have h1 := getD_bound (by omega) ih j
      have h2 := rnd_bound hk (getD_bound (by omega) ih ((cf l n).length - 1 - j))
      omega
    · obtain rfl := List.mem_singleton.1 hx
      omega
theorem cf_small {l : List Int} (hg : goodL l = true) {n : Nat} (hn : n ≤ 16) : ∀ x ∈ cf l n, -536870912 ≤ x ∧ x ≤ 536870912 := by
  intro x hx
  have h1 := cf_bound hg n x hx
  have h2 : 2 ^ (n + 13) ≤ 2 ^ 29 := Nat.pow_le_pow_right (by decide) (by omega)
  omega

theorem psum_boundP {c p : List Int} (h : ∀ x ∈ c, ∀ y ∈ p, -72057594037927936 ≤ x * y ∧ x * y ≤ 72057594037927936) : ∀ n : Nat, -(72057594037927936 * (n : Int)) ≤ psum c p n ∧ psum c p n ≤ 72057594037927936 * (n : Int)
  | 0 => by simp [psum]
  | n + 1 => by
    have ih := psum_boundP h n
    have h3 : -72057594037927936 ≤ c.getD n 0 * p.getD (p.length - 1 - n) 0 ∧ c.getD n 0 * p.getD (p.length - 1 - n) 0 ≤ 72057594037927936 := by
      by_cases h1 : n < c.length
      · by_cases h2 : p.length - 1 - n < p.length
        · rw [List.getD, List.getElem?_eq_getElem h1, List.getD, List.getElem?_eq_getElem h2]
          exact h _ (List.getElem_mem h1) _ (List.getElem_mem h2)
        · have e : p.getD (p.length - 1 - n) 0 = 0 := by rw [List.getD, List.getElem?_eq_none (by omega)]; rfl
          rw [e, Int.mul_zero]; omega
      · have e : c.getD n 0 = 0 := by rw [List.getD, List.getElem?_eq_none (by omega)]; rfl
        rw [e, Int.zero_mul]; omega
    rw [psum]
    omega

end Go.Proofs.LatM
