import Derived.Test.YtnpngahpadchpaaMathRice
namespace Go.Proofs.PipeM

def kOk (k : Int) : Bool := decide (0 ≤ k ∧ k ≤ 24)
/-- May a list of so many numbers be told in these parts? -/
def partsOk (n : Nat) (P : Int) (ks : List Int) : Bool :=
  decide (1 ≤ n ∧ n ≤ 1024 ∧ 0 ≤ P ∧ P ≤ 3 ∧ n % 2 ^ P.toNat = 0 ∧ ks.length = 2 ^ P.toNat) && ks.all kOk
def nOk (n : Int) : Bool := decide (-8589934592 ≤ n ∧ n ≤ 8589934591)
def listOk (l : List Int) : Bool := l.all nOk && decide (1 ≤ l.length ∧ l.length ≤ 1024)

/-- A part's bits; the bits of parts of one length; a list's. -/
def partBits (k : Int) (c : List Int) : List Bool := low k.toNat 5 ++ c.flatMap (codeOf · k)
def bodyBits (size : Nat) : List Int → List Int → List Bool
  | [], _ => []
  | k :: ks, l => partBits k (l.take size) ++ bodyBits size ks (l.drop size)
def listBits (l : List Int) (P : Int) (ks : List Int) : List Bool := low P.toNat 2 ++ bodyBits (l.length / ks.length) ks l

/-- The same, number by number. -/
def elemAt (size : Nat) (ks l : List Int) (i : Nat) : List Bool :=
  (if i % size = 0 then low (ks.getD (i / size) 0).toNat 5 else []) ++ codeOf (l.getD i 0) (ks.getD (i / size) 0)
def elemBits (size : Nat) (ks l : List Int) (n : Nat) : List Bool := (List.range n).flatMap (elemAt size ks l)

theorem elemBits_succ (size : Nat) (ks l : List Int) (n : Nat) : elemBits size ks l (n + 1) = elemBits size ks l n ++ elemAt size ks l n := by
  simp [elemBits, List.range_succ]

theorem elem_first (size : Nat) (k : Int) (ks l : List Int) : ∀ n, n ≤ size → n ≤ l.length → 0 < n → elemBits size (k :: ks) l n = low k.toNat 5 ++ (l.take n).flatMap (codeOf · k)
  | 0, _, _, h => absurd h (by omega)
  | 1, hs, hl, _ => by
    obtain ⟨a, r, rfl⟩ : ∃ a r, l = a :: r := by
      cases l with
      | nil => simp at hl
      | cons a r => exact ⟨a, r, rfl⟩
    simp [elemBits, elemAt]
  | n + 2, hs, hl, _ => by
    have ht : l.take (n + 2) = l.take (n + 1) ++ [l[n + 1]] := List.take_succ_eq_append_getElem (by omega : n + 1 < l.length)
    rw [elemBits_succ, elem_first size k ks l (n + 1) (by omega) (by omega) (by omega), ht]
    have h1 : (n + 1) / size = 0 := Nat.div_eq_of_lt (by omega)
    have h2 : (n + 1) % size = n + 1 := Nat.mod_eq_of_lt (by omega)
    have h3 : l.getD (n + 1) 0 = l[n + 1] := by rw [List.getD, List.getElem?_eq_getElem (by omega)]; rfl
    simp only [elemAt, h1, h2, h3, if_neg (Nat.succ_ne_zero n), List.getD_cons_zero, List.nil_append, List.flatMap_append, List.flatMap_cons, List.flatMap_nil, List.append_nil, List.append_assoc]

theorem elem_later (size : Nat) (hs : 0 < size) (k : Int) (ks l : List Int) (i : Nat) : elemAt size (k :: ks) l (size + i) = elemAt size ks (l.drop size) i := by
  have h1 : (size + i) / size = i / size + 1 := by rw [Nat.add_div_left _ hs]
  have h2 : (size + i) % size = i % size := by simp
  have h3 : l.getD (size + i) 0 = (l.drop size).getD i 0 := by simp [List.getD]
  simp only [elemAt, h1, h2, h3, List.getD_cons_succ]

theorem elem_body (size : Nat) (hs : 0 < size) : ∀ ks l : List Int, l.length = size * ks.length → elemBits size ks l l.length = bodyBits size ks l
  | [], l, h => by
    have : l.length = 0 := by simpa using h
    rw [this]; rfl
  | k :: ks, l, h => by
    have hl : l.length = size + (l.drop size).length := by
      rw [List.length_cons, Nat.mul_add, Nat.mul_one] at h
      simp
      have : 0 ≤ size * ks.length := Nat.zero_le _
      omega
    have hd : (l.drop size).length = size * ks.length := by
      rw [List.length_cons, Nat.mul_add, Nat.mul_one] at h
      simp
      omega
    have hsp : elemBits size (k :: ks) l l.length = elemBits size (k :: ks) l size ++ elemBits size ks (l.drop size) (l.drop size).length := by
      conv => lhs; rw [hl]
      rw [elemBits, List.range_add, List.flatMap_append]
      congr 1
      rw [List.flatMap_map, elemBits]
      congr 1
      funext i
      exact elem_later size hs k ks l i
    rw [hsp, elem_body size hs ks (l.drop size) hd, elem_first size k ks l size (Nat.le_refl _) (by omega) hs]
    rfl

theorem div_parts {n m : Nat} (h : n % m = 0) : n = (n / m) * m := by
  have := Nat.div_add_mod n m
  rw [h, Nat.mul_comm] at this
  omega

def slideOk (l : List Int) (P : Int) (ks : List Int) : Bool := partsOk l.length P ks && listOk l
def slideBits (l : List Int) (P : Int) (ks : List Int) : List Bool := if slideOk l P ks then listBits l P ks else []

theorem codeOf_len (n k : Int) : (codeOf n k).length ≤ 59 := by
  unfold codeOf
  split
  · rename_i h
    unfold codeOk at h
    have := of_decide_eq_true h
    rw [codeBits_length]
    exact costN_le _ _ (by omega)
  · simp

theorem elemBits_len (size : Nat) (ks l : List Int) : ∀ n, (elemBits size ks l n).length ≤ 64 * n
  | 0 => by simp [elemBits]
  | n + 1 => by
    rw [elemBits_succ, List.length_append]
    have h := elemBits_len size ks l n
    have h1 : (elemAt size ks l n).length ≤ 64 := by
      unfold elemAt
      have := codeOf_len (l.getD n 0) (ks.getD (n / size) 0)
      rw [List.length_append]
      split
      · rw [low_length]; omega
      · rw [List.length_nil]; omega
    omega

theorem slide_parts {l ks : List Int} {P : Int} (h : slideOk l P ks = true) :
    ∃ p : Nat, P = p ∧ p ≤ 3 ∧ ks.length = 2 ^ p ∧ ks.length ≤ 8 ∧ 1 ≤ ks.length ∧ 1 ≤ l.length ∧ l.length ≤ 1024 ∧ 1 ≤ l.length / ks.length ∧ l.length / ks.length ≤ 1024 ∧ l.length = (l.length / ks.length) * ks.length ∧ (∀ k ∈ ks, 0 ≤ k ∧ k ≤ 24) ∧ ∀ n ∈ l, InR n := by
  unfold slideOk partsOk listOk at h
  simp only [Bool.and_eq_true, decide_eq_true_eq] at h
  obtain ⟨⟨⟨h1, h2, h3, h4, h5, h6⟩, hk⟩, hn, h7⟩ := h
  obtain ⟨p, rfl⟩ := Int.eq_ofNat_of_zero_le h3
  rw [Int.toNat_natCast] at h5 h6
  have hp : 1 ≤ 2 ^ p ∧ 2 ^ p ≤ 8 := ⟨Nat.two_pow_pos p, Nat.le_trans (Nat.pow_le_pow_right (by decide) (by omega : p ≤ 3)) (by decide)⟩
  have hd : l.length = (l.length / ks.length) * ks.length := div_parts (by rw [h6]; exact h5)
  refine ⟨p, rfl, by omega, h6, by omega, by omega, h1, h2, ?_, Nat.le_trans (Nat.div_le_self _ _) h2, hd, ?_, ?_⟩
  · rcases Nat.eq_zero_or_pos (l.length / ks.length) with h | h
    · rw [h] at hd; omega
    · exact h
  · intro k hk2
    exact of_decide_eq_true (List.all_eq_true.1 hk k hk2)
  · intro n hn2
    have h8 : nOk n = true := List.all_eq_true.1 hn n hn2
    unfold nOk at h8
    have h9 := of_decide_eq_true h8
    exact h9
end Go.Proofs.PipeM
