import Derived.Test.YtmgckfkdbepkdaaTreF2
namespace Go.Proofs.Ytmgckfkdbepkdaa
open Go.RowKit Go.Proofs Go.Proofs.PipeM Go.Proofs.PipeA Go.Proofs.TreM
set_option maxRecDepth 100000

/-- Bits as letters: both ways to say them. -/
theorem str_bs (b : List Bool) : str b = bs (b.map chr) := rfl
/-- What was read of a text is bits. -/
theorem rd_bits : ∀ (k size : Nat) (s : List UInt8) (l : List Int) (r : List UInt8), rd k size s = some (l, r) → ∃ b : List Bool, s = b.map chr ++ r ∧ b.length < 2 ^ k
  | 0, size, s, l, r, h => by
    simp only [rd, Option.some.injEq, Prod.mk.injEq] at h
    obtain ⟨_, rfl⟩ := h
    exact ⟨[], rfl, by simp⟩
  | k + 1, size, s, l, r, h => by
    have h1 := Nat.one_le_two_pow (n := k)
    cases hm : may (k + 1) size with
    | false =>
      unfold rd at h
      rw [if_neg (by rw [hm]; simp)] at h
      cases h
      exact ⟨[], rfl, by simp only [List.length_nil, Nat.pow_succ]; omega⟩
    | true =>
      cases s with
      | nil => rw [rd, if_pos hm] at h; cases h
      | cons c t =>
        by_cases h48 : c = 48
        · rw [h48, rd_one hm] at h
          cases h
          exact ⟨[false], by rw [h48]; rfl, by simp only [List.length_cons, List.length_nil, Nat.pow_succ]; omega⟩
        · by_cases h49 : c = 49
          · rw [h49, rd_two hm] at h
            cases e1 : rd k (size / 2) t with
            | none => rw [rd2_none e1] at h; cases h
            | some x =>
              rw [rd2_some e1] at h
              cases e2 : rd k (size / 2) x.2 with
              | none => rw [e2] at h; cases h
              | some y =>
                rw [e2] at h
                cases h
                obtain ⟨b1, p1, q1⟩ := rd_bits k _ _ _ _ e1
                obtain ⟨b2, p2, q2⟩ := rd_bits k _ _ _ _ e2
                refine ⟨true :: (b1 ++ b2), ?_, ?_⟩
                · rw [p1, p2, h49, List.map_cons, List.map_append, List.cons_append, List.append_assoc]; rfl
                · simp only [List.length_cons, List.length_append, Nat.pow_succ]; omega
          · rw [rd_bad hm h48 h49] at h; cases h
/-- A tree's text is bits. -/
theorem tree_bits {n : Nat} {s : List UInt8} {l : List Int} (h : leavesOf n s = some l) : ∃ b : List Bool, s = b.map chr ∧ bs s = str b ∧ b.length < 16 := by
  obtain ⟨b, hb, hl⟩ := rd_bits 4 n s l [] (leavesOf_some.1 h)
  rw [List.append_nil] at hb
  exact ⟨b, hb, by rw [hb]; rfl, hl⟩
/-- What stands behind a tree's bits does not turn it. -/
theorem rd_behind_bits : ∀ (k size : Nat) (s m : List UInt8) (l : List Int) (r : List UInt8), rd k size s = some (l, r) → rd k size (s ++ m) = some (l, r ++ m)
  | 0, size, s, m, l, r, h => by
    simp only [rd, Option.some.injEq, Prod.mk.injEq] at h ⊢
    obtain ⟨rfl, rfl⟩ := h
    exact ⟨rfl, rfl⟩
  | k + 1, size, s, m, l, r, h => by
    cases hm : may (k + 1) size with
    | false =>
      unfold rd at h ⊢
      rw [if_neg (by rw [hm]; simp)] at h ⊢
      cases h
      rfl
    | true =>
      cases s with
      | nil => rw [rd, if_pos hm] at h; cases h
      | cons c t =>
        rw [List.cons_append]
        by_cases h48 : c = 48
        · rw [h48, rd_one hm] at h ⊢
          cases h
          rfl
        · by_cases h49 : c = 49
          · rw [h49, rd_two hm] at h ⊢
            cases e1 : rd k (size / 2) t with
            | none => rw [rd2_none e1] at h; cases h
            | some x =>
              rw [rd2_some e1] at h
              cases e2 : rd k (size / 2) x.2 with
              | none => rw [e2] at h; cases h
              | some y =>
                rw [e2] at h
                cases h
                rw [rd2_some (rd_behind_bits k _ _ m _ _ e1), rd_behind_bits k _ _ m _ _ e2]
                rfl
          · rw [rd_bad hm h48 h49] at h; cases h
end Go.Proofs.Ytmgckfkdbepkdaa
