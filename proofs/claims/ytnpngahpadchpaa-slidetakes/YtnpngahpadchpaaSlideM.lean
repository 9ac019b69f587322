import Derived.Test.YtnpngahpadchpaaSlideC8
namespace Go.Proofs.Ytnpngahpadchpaa
open Go.RowKit Go.Proofs Go.Proofs.PipeM Go.Proofs.PipeA

theorem ksAt_length (l : List Int) (p : Nat) : (ksAt l p).length = 2 ^ p := bestKs_length _ _ _

theorem list_len {l : List Int} (h : listOk l = true) : 1 ≤ l.length ∧ l.length ≤ 1024 := by
  unfold listOk at h; simp only [Bool.and_eq_true, decide_eq_true_eq] at h; exact h.2

theorem bestP_le (l : List Int) : bestP l ≤ topP l.length := pickP_le l _

theorem powAt_ok {l : List Int} (h : listOk l = true) {p : Nat} (hp : p ≤ topP l.length) : slideOk l (p : Int) (ksAt l p) = true := by
  obtain ⟨h1, h2⟩ := topP_pow l.length p hp
  have hl := list_len h
  unfold slideOk
  rw [h, Bool.and_true]
  unfold partsOk
  rw [Bool.and_eq_true]
  refine ⟨decide_eq_true ⟨hl.1, hl.2, by omega, by omega, by rw [Int.toNat_natCast]; exact h1, by rw [Int.toNat_natCast, ksAt_length]⟩, List.all_eq_true.2 (fun k hk => ?_)⟩
  exact decide_eq_true (bestKs_ok _ _ _ k hk)
theorem powAt_len {l : List Int} (h : listOk l = true) {p : Nat} (hp : p ≤ topP l.length) : slideLen l (p : Int) (ksAt l p) = lenAt l p := by
  rw [slide_len (powAt_ok h hp), ksAt_length]; rfl

theorem totalN_ge (l : List Int) (k : Nat) : l.length ≤ totalN l k := by
  induction l with
  | nil => simp
  | cons n l ih =>
    have := costN_pos n k
    simp [totalN] at ih ⊢
    omega

theorem bodyLen_ge (size : Nat) (ks l : List Int) : ∀ n, n * size ≤ l.length → n * (5 + size) ≤ bodyLen size ks l n
  | 0, _ => by simp
  | n + 1, h => by
    have h0 : n * size ≤ l.length := by rw [Nat.add_mul, Nat.one_mul] at h; omega
    have ih := bodyLen_ge size ks l n h0
    show _ ≤ bodyLen size ks l n + partLen size ks l n
    have h1 := totalN_ge (partNo size l n) (ks.getD n 0).toNat
    rw [partNo_length h] at h1
    unfold partLen
    rw [Nat.add_mul, Nat.one_mul]
    omega

/-- A list that may be has at least so many bits. -/
theorem slide_ge {l ks : List Int} {P : Int} (h : slideOk l P ks = true) : 2 + 5 * ks.length + l.length ≤ slideLen l P ks := by
  obtain ⟨p, hP, h3, hk1, hk8, hk0, hl1, hl2, hs1, hs2, hsp, hks, hin⟩ := slide_parts h
  rw [slide_len h]
  have := bodyLen_ge (l.length / ks.length) ks l ks.length (by rw [Nat.mul_comm]; exact Nat.le_of_eq hsp.symm)
  rw [Nat.mul_add, Nat.mul_comm ks.length (l.length / ks.length), ← hsp] at this
  omega

theorem pick_min (l : List Int) : ∀ k p, p ≤ k → lenAt l (pickP l k) ≤ lenAt l p
  | 0, p, h => by
    obtain rfl : p = 0 := by omega
    exact Nat.le_refl _
  | k + 1, p, h => by
    unfold pickP
    split
    · rename_i hc
      by_cases e : p = k + 1
      · subst e; exact Nat.le_refl _
      · exact Nat.le_trans (Nat.le_of_lt hc) (pick_min l k p (by omega))
    · rename_i hc
      by_cases e : p = k + 1
      · subst e; omega
      · exact pick_min l k p (by omega)

theorem pow_top {n p : Nat} (hp : p ≤ 3) (h : n % 2 ^ p = 0) : p ≤ topP n := by
  have hc : p = 0 ∨ p = 1 ∨ p = 2 ∨ p = 3 := by omega
  unfold topP
  rcases hc with rfl | rfl | rfl | rfl
  · exact Nat.zero_le _
  · simp only [Nat.reducePow] at h; split <;> (try split) <;> (try split) <;> omega
  · simp only [Nat.reducePow] at h; split <;> (try split) <;> (try split) <;> omega
  · simp only [Nat.reducePow] at h; rw [if_pos h]; exact Nat.le_refl _

theorem sumTo_le {f g : Nat → Nat} : ∀ n, (∀ j, j < n → f j ≤ g j) → sumTo f n ≤ sumTo g n
  | 0, _ => Nat.le_refl _
  | n + 1, h => by
    have h1 := sumTo_le n (fun j hj => h j (by omega))
    have h2 := h n (by omega)
    show sumTo f n + f n ≤ sumTo g n + g n
    omega

/-- No parts are shorter than the best ones. -/
theorem best_least {l ks : List Int} {P : Int} (h : slideOk l P ks = true) : lenAt l (bestP l) ≤ slideLen l P ks := by
  obtain ⟨p, hP, h3, hk1, hk8, hk0, hl1, hl2, hs1, hs2, hsp, hks, hin⟩ := slide_parts h
  have htop : p ≤ topP l.length := by
    refine pow_top h3 ?_
    rw [← hk1, hsp]
    exact Nat.mul_mod_left _ _
  refine Nat.le_trans (pick_min l _ p htop) ?_
  rw [slide_len h]
  unfold lenAt
  rw [hk1]
  refine Nat.add_le_add_left ?_ 2
  rw [← best_sum]
  unfold bodyLen
  refine sumTo_le _ (fun j hj => ?_)
  unfold bestLen partLen
  have hjk : j < ks.length := by omega
  have hg : ks.getD j 0 = ks[j] := by rw [List.getD, List.getElem?_eq_getElem hjk]; rfl
  have hk := hks ks[j] (List.getElem_mem hjk)
  have := ((bestN_is (partNo (l.length / 2 ^ p) l j)).2 (ks.getD j 0).toNat (by rw [hg]; omega)).1
  omega

/-- A list of one number again and again is best in one part. -/
theorem totalN_rep (n : Int) (k : Nat) : ∀ c, totalN (List.replicate c n) k = c * costN n k
  | 0 => by simp [totalN]
  | c + 1 => by rw [List.replicate_succ, totalN, List.map_cons, List.sum_cons, ← totalN, totalN_rep n k c, Nat.add_mul]; omega
theorem part_rep (n : Int) (c size j : Nat) (h : (j + 1) * size ≤ c) : partNo size (List.replicate c n) j = List.replicate size n := by
  unfold partNo
  rw [List.drop_replicate, List.take_replicate, Nat.min_eq_left]
  rw [Nat.add_mul] at h; omega
theorem best_rep (n : Int) (c : Nat) (hc : 1 ≤ c) : costN n (bestN (List.replicate c n)) = costN n (bestN (List.replicate 1 n)) := by
  have h1 := (bestN_is (List.replicate c n)).2 (bestN (List.replicate 1 n)) (bestN_is _).1
  have h2 := (bestN_is (List.replicate 1 n)).2 (bestN (List.replicate c n)) (bestN_is _).1
  rw [totalN_rep, totalN_rep] at h1 h2
  have h3 := Nat.le_of_mul_le_mul_left h1.1 (by omega)
  omega
theorem sumTo_const (k : Nat) : ∀ n, sumTo (fun _ => k) n = n * k
  | 0 => by simp [sumTo]
  | n + 1 => by show sumTo _ n + k = _; rw [sumTo_const k n, Nat.add_mul]; omega
theorem len_rep (n : Int) (c : Nat) (hc : 1 ≤ c) (p : Nat) (hp : p ≤ topP c) : lenAt (List.replicate c n) p = 2 + 5 * 2 ^ p + c * costN n (bestN (List.replicate 1 n)) := by
  obtain ⟨h1, h2⟩ := topP_pow c p hp
  have hd := div_parts h1
  have hs : 1 ≤ c / 2 ^ p := by
    rcases Nat.eq_zero_or_pos (c / 2 ^ p) with h | h
    · rw [h] at hd; omega
    · exact h
  unfold lenAt
  rw [← best_sum, List.length_replicate]
  rw [sumTo_congr (g := fun _ => 5 + (c / 2 ^ p) * costN n (bestN (List.replicate 1 n))) (2 ^ p) (fun j hj => by
    have hle : (j + 1) * (c / 2 ^ p) ≤ c := by
      have : (j + 1) * (c / 2 ^ p) ≤ 2 ^ p * (c / 2 ^ p) := Nat.mul_le_mul_right _ hj
      rw [Nat.mul_comm (2 ^ p)] at this
      omega
    unfold bestLen
    rw [part_rep n c _ j hle, totalN_rep, best_rep n _ hs]), sumTo_const, Nat.mul_add]
  have : 2 ^ p * (c / 2 ^ p * costN n (bestN (List.replicate 1 n))) = c * costN n (bestN (List.replicate 1 n)) := by
    rw [← Nat.mul_assoc, Nat.mul_comm (2 ^ p), ← hd]
  omega
theorem pick_rep (n : Int) (c : Nat) (hc : 1 ≤ c) : ∀ k, k ≤ topP c → pickP (List.replicate c n) k = 0
  | 0, _ => rfl
  | k + 1, h => by
    unfold pickP
    rw [pick_rep n c hc k (by omega), if_neg]
    rw [len_rep n c hc (k + 1) h, len_rep n c hc 0 (Nat.zero_le _)]
    have : 2 ^ 0 ≤ 2 ^ (k + 1) := Nat.pow_le_pow_right (by decide) (by omega)
    omega
theorem bestP_rep (n : Int) (c : Nat) (hc : 1 ≤ c) : bestP (List.replicate c n) = 0 := by
  unfold bestP
  rw [List.length_replicate]
  exact pick_rep n c hc _ (Nat.le_refl _)
theorem lenP_rep (n : Int) (c : Nat) (hc : 1 ≤ c) : lenAt (List.replicate c n) 0 ≤ 7 + c * 59 := by
  rw [len_rep n c hc 0 (Nat.zero_le _)]
  have := costN_le n (bestN (List.replicate 1 n)) (bestN_is _).1
  have h2 := Nat.mul_le_mul_left c this
  simp only [Nat.pow_zero]
  omega
end Go.Proofs.Ytnpngahpadchpaa
