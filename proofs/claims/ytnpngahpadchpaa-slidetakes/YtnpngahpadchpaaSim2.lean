import Derived.Test.YtnpngahpadchpaaSim
namespace Go.Proofs.Ytnpngahpadchpaa
open Go.RowKit Go.Proofs Go.Proofs.PipeM Go.Proofs.PipeA

theorem zgo_rep (most err : Int) (q : Nat) (t : List Bool) (c : Nat) (h : (c : Int) + q ≤ most) : zgo most err (List.replicate q false ++ true :: t) c = (c + q, ⟨t, err⟩) := by
  induction q generalizing c with
  | zero => simp [zgo]
  | succ q ih =>
    rw [List.replicate_succ, List.cons_append, zgo, if_neg (by omega), ih (c + 1) (by omega)]
    congr 1; omega

theorem takeS_app (a t : List Bool) (n : Int) (hn : n = a.length) (h48 : a.length ≤ 48) (err : Int) : RS.takeS ⟨a ++ t, err⟩ n = ⟨t, err⟩ ∧ RS.takeV ⟨a ++ t, err⟩ n = num a := by
  subst hn
  unfold RS.takeS RS.takeV
  rw [if_neg (by omega), if_neg (by simp; omega), if_pos ⟨by omega, by omega, by simp; omega⟩, Int.toNat_natCast]
  simp

/-- A code is taken as it was put. -/
theorem rice_code (z k : Nat) (hz : z < 17179869184) (hk : k ≤ 24) (rest : List Bool) : RS.rice ⟨codeZ z k ++ rest, 0⟩ k = (⟨rest, 0⟩, unfoldN z) := by
  unfold RS.rice
  rw [if_neg (by omega), Int.toNat_natCast]
  unfold codeZ
  by_cases hq : z / 2 ^ k < 24
  · rw [if_pos hq]
    have e : RS.zeros ⟨(List.replicate (z / 2 ^ k) false ++ [true]) ++ low (z % 2 ^ k) k ++ rest, 0⟩ 24 = (z / 2 ^ k, ⟨low (z % 2 ^ k) k ++ rest, 0⟩) := by
      unfold RS.zeros
      have := zgo_rep 24 0 (z / 2 ^ k) (low (z % 2 ^ k) k ++ rest) 0 (by omega)
      simpa using this
    rw [e]
    simp only [if_pos hq]
    obtain ⟨h1, h2⟩ := takeS_app (low (z % 2 ^ k) k) rest k (by rw [low_length]) (by rw [low_length]; omega) 0
    rw [h1, h2, num_low]
    unfold RS.riceA
    simp only [ne_eq, not_true_eq_false, if_false]
    rw [Nat.mod_mod, Nat.mul_comm, Nat.div_add_mod]
  · rw [if_neg hq]
    have e : RS.zeros ⟨(List.replicate 24 false ++ [true]) ++ low z 34 ++ rest, 0⟩ 24 = (24, ⟨low z 34 ++ rest, 0⟩) := by
      unfold RS.zeros
      have := zgo_rep 24 0 24 (low z 34 ++ rest) 0 (by omega)
      simpa using this
    rw [e]
    simp only [Nat.lt_irrefl, if_false]
    obtain ⟨h1, h2⟩ := takeS_app (low z 34) rest 34 (by rw [low_length]; rfl) (by rw [low_length]; omega) 0
    rw [h1, h2, num_low, Nat.mod_eq_of_lt (by simpa using hz)]
    unfold RS.riceB
    simp only [if_neg hq, ne_eq, not_true_eq_false, if_false]

theorem zgo_inv (most : Int) (l : List Bool) (c : Nat) (h : (zgo most 0 l c).2.err = 0) :
    ∃ q, (zgo most 0 l c).1 = c + q ∧ l = List.replicate q false ++ true :: (zgo most 0 l c).2.bits ∧ (q = 0 ∨ (c : Int) + q ≤ most) := by
  induction l generalizing c with
  | nil => simp [zgo, RS.give] at h
  | cons b r ih =>
    cases b
    · rw [zgo] at h ⊢
      by_cases hm : most ≤ (c : Int)
      · rw [if_pos hm] at h; simp [RS.give] at h
      · rw [if_neg hm] at h ⊢
        obtain ⟨q, h1, h2, h3⟩ := ih (c + 1) h
        refine ⟨q + 1, by omega, ?_, Or.inr ?_⟩
        · rw [List.replicate_succ, List.cons_append, ← h2]
        · rcases h3 with h3 | h3 <;> omega
    · exact ⟨0, by simp [zgo], by simp [zgo], Or.inl rfl⟩

theorem zgo_spent (most err : Int) (c : Nat) (h : err ≠ 0) : (zgo most err [] c).2.err ≠ 0 := by
  rw [zgo, RS.give_spent (by simpa using h)]; exact h

theorem give_err (s : RS) (e : Int) (he : e ≠ 0) : (s.give e).err ≠ 0 := by
  unfold RS.give
  split
  · rename_i h; rcases h with h | h
    · exact absurd h he
    · exact h
  · exact he

theorem takeS_inv (s : RS) (n : Int) (h : (s.takeS n).err = 0) : s.err = 0 ∧ 0 ≤ n ∧ n ≤ 48 ∧ ∃ a, s.bits = a ++ (s.takeS n).bits ∧ (a.length : Int) = n ∧ s.takeV n = num a := by
  unfold RS.takeS RS.takeV at *
  by_cases hn : n < 0 ∨ 48 < n
  · rw [if_pos hn] at h; exact absurd h (give_err s 1 (by decide))
  · rw [if_neg hn] at h ⊢
    by_cases hl : (s.bits.length : Int) < n
    · rw [if_pos hl] at h; exact absurd h (give_err s 3 (by decide))
    · rw [if_neg hl] at h ⊢
      rw [if_pos (by omega)]
      refine ⟨h, by omega, by omega, s.bits.take n.toNat, ?_, ?_, rfl⟩
      · simp
      · rw [List.length_take]; omega

theorem low_num' (a : List Bool) (n : Nat) (h : a.length = n) : low (num a) n = a := by subst h; exact low_num a

/-- Whatever is taken has just the bits that it is put as. -/
theorem rice_taken (s : RS) (k : Nat) (hk : k ≤ 24) (hs : s.err = 0) (h : (s.rice k).1.err = 0) :
    ∃ z, z < 17179869184 ∧ (s.rice k).2 = unfoldN z ∧ s.bits = codeZ z k ++ (s.rice k).1.bits := by
  unfold RS.rice at *
  rw [if_neg (by omega), Int.toNat_natCast] at h ⊢
  have hpk := Nat.two_pow_pos k
  by_cases hq : (s.zeros 24).1 < 24
  · rw [if_pos hq] at h ⊢
    unfold RS.riceA at h ⊢
    by_cases he : ((s.zeros 24).2.takeS k).err ≠ 0
    · rw [if_pos he] at h; exact absurd h he
    · rw [if_neg he] at h ⊢
      obtain ⟨e1, _, _, a, e2, e3, e4⟩ := takeS_inv _ _ h
      have hz : (zgo 24 0 s.bits 0).2.err = 0 := by unfold RS.zeros at e1; rw [hs] at e1; exact e1
      obtain ⟨q, z1, z2, z3⟩ := zgo_inv 24 s.bits 0 hz
      have zq : (s.zeros 24).1 = q := by unfold RS.zeros; rw [hs, z1]; omega
      have zb : (s.zeros 24).2.bits = (zgo 24 0 s.bits 0).2.bits := by unfold RS.zeros; rw [hs]
      have ha : a.length = k := by omega
      have hna := num_lt a
      rw [ha] at hna
      rw [zq] at hq ⊢
      rw [e4]
      have hdiv : (q * 2 ^ k + num a) / 2 ^ k = q := by rw [Nat.mul_comm, Nat.mul_add_div hpk, Nat.div_eq_of_lt hna]; omega
      have hmod : (q * 2 ^ k + num a) % 2 ^ k = num a := by rw [Nat.mul_comm, Nat.mul_add_mod, Nat.mod_eq_of_lt hna]
      refine ⟨q * 2 ^ k + num a, ?_, rfl, ?_⟩
      · have h24 : 2 ^ k ≤ 16777216 := Nat.le_trans (Nat.pow_le_pow_right (by decide) hk) (by decide)
        have : q * 2 ^ k ≤ 23 * 16777216 := Nat.mul_le_mul (by omega) h24
        omega
      · unfold codeZ
        rw [hdiv, hmod, if_pos hq, low_num' a k ha]
        simp only
        rw [z2, ← zb, e2]
        simp
  · rw [if_neg hq] at h ⊢
    unfold RS.riceB at h ⊢
    by_cases hd : (s.zeros 24).2.takeV 34 / 2 ^ k < 24
    · simp only [if_pos hd] at h
      rw [if_pos (give_err _ 2 (by decide))] at h
      exact absurd h (give_err _ 2 (by decide))
    · simp only [if_neg hd] at h ⊢
      by_cases he : ((s.zeros 24).2.takeS 34).err ≠ 0
      · rw [if_pos he] at h; exact absurd h he
      · rw [if_neg he] at h ⊢
        obtain ⟨e1, _, _, a, e2, e3, e4⟩ := takeS_inv _ _ h
        have hz : (zgo 24 0 s.bits 0).2.err = 0 := by unfold RS.zeros at e1; rw [hs] at e1; exact e1
        obtain ⟨q, z1, z2, z3⟩ := zgo_inv 24 s.bits 0 hz
        have zq : (s.zeros 24).1 = q := by unfold RS.zeros; rw [hs, z1]; omega
        have zb : (s.zeros 24).2.bits = (zgo 24 0 s.bits 0).2.bits := by unfold RS.zeros; rw [hs]
        have hq24 : q = 24 := by rw [zq] at hq; omega
        have ha : a.length = 34 := by omega
        have hna := num_lt a
        rw [ha] at hna
        rw [e4] at hd ⊢
        refine ⟨num a, by simpa using hna, rfl, ?_⟩
        unfold codeZ
        rw [if_neg hd, low_num' a 34 ha]
        simp only
        rw [z2, ← zb, e2, hq24]
        simp
end Go.Proofs.Ytnpngahpadchpaa
