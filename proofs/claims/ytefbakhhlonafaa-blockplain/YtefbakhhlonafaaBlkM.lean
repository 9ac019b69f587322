import Derived.Test.YtefbakhhlonafaaMathRice
import Derived.Test.YtefbakhhlonafaaLatM
import Derived.Test.YtefbakhhlonafaaLagM

section
namespace Go.Proofs.PipeM

def kOk (k : Int) : Bool := decide (0 ≤ k ∧ k ≤ 24)
/-- May a list of so many numbers be told in these parts? -/
def partsOk (n : Nat) (P : Int) (ks : List Int) : Bool :=
  decide (1 ≤ n ∧ n ≤ 1024 ∧ 0 ≤ P ∧ P ≤ 3 ∧ n % 2 ^ P.toNat = 0 ∧ ks.length = 2 ^ P.toNat) && ks.all kOk
def nOk (n : Int) : Bool := decide (-8589934592 ≤ n ∧ n ≤ 8589934591)
def listOk (l : List Int) : Bool := l.all nOk && decide (1 ≤ l.length ∧ l.length ≤ 1024)

/-- A part's bits; the bits of parts of one length; a list's. -/
def partBits (k : Int) (c : List Int) : List Bool := low k.toNat 5 ++ c.flatMap (codeOf · k)
def bodyBits (size : Nat) : List Int → List Int → List Bool
  | [], _ => []
  | k :: ks, l => partBits k (l.take size) ++ bodyBits size ks (l.drop size)
def listBits (l : List Int) (P : Int) (ks : List Int) : List Bool := low P.toNat 2 ++ bodyBits (l.length / ks.length) ks l

/-- The same, number by number. -/
def elemAt (size : Nat) (ks l : List Int) (i : Nat) : List Bool :=
  (if i % size = 0 then low (ks.getD (i / size) 0).toNat 5 else []) ++ codeOf (l.getD i 0) (ks.getD (i / size) 0)
def elemBits (size : Nat) (ks l : List Int) (n : Nat) : List Bool := (List.range n).flatMap (elemAt size ks l)

theorem elemBits_succ (size : Nat) (ks l : List Int) (n : Nat) : elemBits size ks l (n + 1) = elemBits size ks l n ++ elemAt size ks l n := by
  simp [elemBits, List.range_succ]

theorem elem_first (size : Nat) (k : Int) (ks l : List Int) : ∀ n, n ≤ size → n ≤ l.length → 0 < n → elemBits size (k :: ks) l n = low k.toNat 5 ++ (l.take n).flatMap (codeOf · k)
  | 0, _, _, h => absurd h (by omega)
  | 1, hs, hl, _ => by
    obtain ⟨a, r, rfl⟩ : ∃ a r, l = a :: r := by
      cases l with
      | nil => simp at hl
      | cons a r => exact ⟨a, r, rfl⟩
    simp [elemBits, elemAt]
  | n + 2, hs, hl, _ => by
    have ht : l.take (n + 2) = l.take (n + 1) ++ [l[n + 1]] := List.take_succ_eq_append_getElem (by omega : n + 1 < l.length)
    rw [elemBits_succ, elem_first size k ks l (n + 1) (by omega) (by omega) (by omega), ht]
    have h1 : (n + 1) / size = 0 := Nat.div_eq_of_lt (by omega)
    have h2 : (n + 1) % size = n + 1 := Nat.mod_eq_of_lt (by omega)
    have h3 : l.getD (n + 1) 0 = l[n + 1] := by rw [List.getD, List.getElem?_eq_getElem (by omega)]; rfl
    simp only [elemAt, h1, h2, h3, if_neg (Nat.succ_ne_zero n), List.getD_cons_zero, List.nil_append, List.flatMap_append, List.flatMap_cons, List.flatMap_nil, List.append_nil, List.append_assoc]

theorem elem_later (size : Nat) (hs : 0 < size) (k : Int) (ks l : List Int) (i : Nat) : elemAt size (k :: ks) l (size + i) = elemAt size ks (l.drop size) i := by
  have h1 : (size + i) / size = i / size + 1 := by rw [Nat.add_div_left _ hs]
  have h2 : (size + i) % size = i % size := by simp
  have h3 : l.getD (size + i) 0 = (l.drop size).getD i 0 := by simp [List.getD]
  simp only [elemAt, h1, h2, h3, List.getD_cons_succ]

theorem elem_body (size : Nat) (hs : 0 < size) : ∀ ks l : List Int, l.length = size * ks.length → elemBits size ks l l.length = bodyBits size ks l
  | [], l, h => by
    have : l.length = 0 := by simpa using h
    rw [this]; rfl
  | k :: ks, l, h => by
    have hl : l.length = size + (l.drop size).length := by
      rw [List.length_cons, Nat.mul_add, Nat.mul_one] at h
      simp
      have : 0 ≤ size * ks.length := Nat.zero_le _
      omega
    have hd : (l.drop size).length = size * ks.length := by
      rw [List.length_cons, Nat.mul_add, Nat.mul_one] at h
      simp
      omega
    have hsp : elemBits size (k :: ks) l l.length = elemBits size (k :: ks) l size ++ elemBits size ks (l.drop size) (l.drop size).length := by
      conv => lhs; rw [hl]
      rw [elemBits, List.range_add, List.flatMap_append]
      congr 1
      rw [List.flatMap_map, elemBits]
      congr 1
      funext i
      exact elem_later size hs k ks l i
    rw [hsp, elem_body size hs ks (l.drop size) hd, elem_first size k ks l size (Nat.le_refl _) (by omega) hs]
    rfl

theorem div_parts {n m : Nat} (h : n % m = 0) : n = (n / m) * m := by
  have := Nat.div_add_mod n m
  rw [h, Nat.mul_comm] at this
  omega

def slideOk (l : List Int) (P : Int) (ks : List Int) : Bool := partsOk l.length P ks && listOk l
def slideBits (l : List Int) (P : Int) (ks : List Int) : List Bool := if slideOk l P ks then listBits l P ks else []

theorem codeOf_len (n k : Int) : (codeOf n k).length ≤ 59 := by
  unfold codeOf
  split
  · rename_i h
    unfold codeOk at h
    have := of_decide_eq_true h
    rw [codeBits_length]
    exact costN_le _ _ (by omega)
  · simp

theorem elemBits_len (size : Nat) (ks l : List Int) : ∀ n, (elemBits size ks l n).length ≤ 64 * n
  | 0 => by simp [elemBits]
  | n + 1 => by
    rw [elemBits_succ, List.length_append]
    have h := elemBits_len size ks l n
    have h1 : (elemAt size ks l n).length ≤ 64 := by
      unfold elemAt
      have := codeOf_len (l.getD n 0) (ks.getD (n / size) 0)
      rw [List.length_append]
      split
      · rw [low_length]; omega
      · rw [List.length_nil]; omega
    omega

theorem slide_parts {l ks : List Int} {P : Int} (h : slideOk l P ks = true) :
    ∃ p : Nat, P = p ∧ p ≤ 3 ∧ ks.length = 2 ^ p ∧ ks.length ≤ 8 ∧ 1 ≤ ks.length ∧ 1 ≤ l.length ∧ l.length ≤ 1024 ∧ 1 ≤ l.length / ks.length ∧ l.length / ks.length ≤ 1024 ∧ l.length = (l.length / ks.length) * ks.length ∧ (∀ k ∈ ks, 0 ≤ k ∧ k ≤ 24) ∧ ∀ n ∈ l, InR n := by
  unfold slideOk partsOk listOk at h
  simp only [Bool.and_eq_true, decide_eq_true_eq] at h
  obtain ⟨⟨⟨h1, h2, h3, h4, h5, h6⟩, hk⟩, hn, h7⟩ := h
  obtain ⟨p, rfl⟩ := Int.eq_ofNat_of_zero_le h3
  rw [Int.toNat_natCast] at h5 h6
  have hp : 1 ≤ 2 ^ p ∧ 2 ^ p ≤ 8 := ⟨Nat.two_pow_pos p, Nat.le_trans (Nat.pow_le_pow_right (by decide) (by omega : p ≤ 3)) (by decide)⟩
  have hd : l.length = (l.length / ks.length) * ks.length := div_parts (by rw [h6]; exact h5)
  refine ⟨p, rfl, by omega, h6, by omega, by omega, h1, h2, ?_, Nat.le_trans (Nat.div_le_self _ _) h2, hd, ?_, ?_⟩
  · rcases Nat.eq_zero_or_pos (l.length / ks.length) with h | h
    · rw [h] at hd; omega
    · exact h
  · intro k hk2
    exact of_decide_eq_true (List.all_eq_true.1 hk k hk2)
  · intro n hn2
    have h8 : nOk n = true := List.all_eq_true.1 hn n hn2
    unfold nOk at h8
    have h9 := of_decide_eq_true h8
    exact h9
end Go.Proofs.PipeM
end

section
namespace Go.Proofs.BlkM
open Go.Proofs.LatM (goodL)
open Go.Proofs.FilM (smp codeS res)
open Go.Proofs.LagM (goodT codeT codeO onL offL)
open Go.Proofs.PipeM

/-- So many samples, told in one of four ways. -/
structure Blk where
  kind : Int
  value : Int
  shift : Int
  index : List Int
  lag : Int
  gain : Int
  part : Int
  rice : List Int
  data : List Int
/-- Is a number of bits one? Is a number of samples one? -/
def depthB (d : Int) : Bool := decide (8 ≤ d ∧ d ≤ 26)
def sizeN (n : Int) : Bool := decide (1 ≤ n ∧ n ≤ 1024)
/-- Is a number a sample, of half so many? -/
def hasP (P n : Int) : Bool := decide (-P ≤ n ∧ n < P)
def halfOf (d : Int) : Int := 2 ^ (d - 1).toNat
/-- What is wrong with a block's form. -/
def wrongKind (b : Blk) : Bool := decide (b.kind < 0) || decide (3 < b.kind)
def wrongMore (b : Blk) : Bool := decide (b.kind ≠ 2) && (decide (b.shift ≠ 0) || decide (0 < b.index.length) || decide (b.lag ≠ 0) || decide (b.gain ≠ 0) || decide (b.part ≠ 0) || decide (0 < b.rice.length))
def wrongData (b : Blk) (n : Int) : Bool := (decide (b.kind ≠ 1) && decide (b.value ≠ 0)) || (decide (b.kind < 2) && decide (0 < b.data.length)) || (decide (2 ≤ b.kind) && decide ((b.data.length : Int) ≠ n))
def wrongNormal (b : Blk) (n : Nat) (d : Int) : Bool := decide (b.kind = 2) && (decide (b.shift < 0) || decide (d ≤ b.shift) || !goodL b.index || !goodT b.lag b.gain || !partsOk n b.part b.rice || !listOk b.data)
def formB (b : Blk) (n : Nat) (d : Int) : Int := if wrongKind b then 16 else if wrongMore b then 2 else if wrongData b n then 2 else if wrongNormal b n d then 2 else 0
/-- What comes of a Normal's residuals. -/
def lowB (b : Blk) : List Int := smp b.index (onL b.lag.toNat b.gain b.data) (onL b.lag.toNat b.gain b.data).length
def outB (b : Blk) (n : Nat) : List Int := if b.kind = 2 then (lowB b).map (· * 2 ^ b.shift.toNat) else if b.kind = 3 then b.data else List.replicate n b.value
def wrongOut (b : Blk) (d : Int) : Bool := decide (b.kind = 2) && (decide (codeO b.lag b.gain b.data ≠ 0) || decide (codeS b.index (onL b.lag.toNat b.gain b.data) (halfOf d - 1) ≠ 0))
/-- What is wrong with a block. -/
def codeB (b : Blk) (n d : Int) : Int :=
  if !(sizeN n && depthB d) then 1
  else if formB b n.toNat d ≠ 0 then formB b n.toNat d
  else if wrongOut b d then 9
  else if (outB b n.toNat).all (hasP (halfOf d)) then 0 else 9
/-- A right block's bits. -/
def sg (d : Nat) (v : Int) : List Bool := low (v % 2 ^ d).toNat d
def bitsB (b : Blk) (d : Nat) : List Bool :=
  low b.kind.toNat 2 ++
  (if b.kind = 1 then sg d b.value
   else if b.kind = 3 then b.data.flatMap (sg d)
   else if b.kind = 2 then low b.shift.toNat 5 ++ (low b.index.length 5 ++ (b.index.flatMap (sg 7) ++ ((if b.lag = 0 then [false] else true :: (low b.lag.toNat 8 ++ low b.gain.toNat 4)) ++ slideBits b.data b.part b.rice)))
   else [])

theorem codeB_size {b : Blk} {n d : Int} (h : (sizeN n && depthB d) = false) : codeB b n d = 1 := by unfold codeB; rw [h]; rfl
theorem codeB_form {b : Blk} {n d : Int} (h : (sizeN n && depthB d) = true) (h2 : formB b n.toNat d ≠ 0) : codeB b n d = formB b n.toNat d := by unfold codeB; rw [h, if_neg (by simp), if_pos h2]
theorem codeB_out {b : Blk} {n d : Int} (h : (sizeN n && depthB d) = true) (h2 : formB b n.toNat d = 0) (h3 : wrongOut b d = true) : codeB b n d = 9 := by unfold codeB; rw [h, if_neg (by simp), if_neg (by omega), if_pos h3]
theorem codeB_all {b : Blk} {n d : Int} (h : (sizeN n && depthB d) = true) (h2 : formB b n.toNat d = 0) (h3 : wrongOut b d = false) : codeB b n d = if (outB b n.toNat).all (hasP (halfOf d)) then 0 else 9 := by
  unfold codeB
  rw [h, if_neg (by simp), if_neg (by omega), if_neg (by rw [h3]; simp)]
theorem sizeN_of {n : Int} (h : sizeN n = true) : ∃ m : Nat, n = m ∧ 1 ≤ m ∧ m ≤ 1024 := by
  have := of_decide_eq_true h
  exact ⟨n.toNat, by omega, by omega, by omega⟩
theorem depthB_of {d : Int} (h : depthB d = true) : ∃ m : Nat, d = m ∧ 8 ≤ m ∧ m ≤ 26 := by
  have := of_decide_eq_true h
  exact ⟨d.toNat, by omega, by omega, by omega⟩
theorem hp_nat {m : Nat} (h : 1 ≤ m) : halfOf (m : Int) = 2 ^ (m - 1) := by
  unfold halfOf
  rw [show ((m : Int) - 1).toNat = m - 1 by omega]
theorem hp_bound {m : Nat} (h1 : 8 ≤ m) (h2 : m ≤ 26) : 128 ≤ halfOf (m : Int) ∧ halfOf (m : Int) ≤ 33554432 := by
  rw [hp_nat (by omega)]
  have a : (2 : Int) ^ (m - 1) = ((2 ^ (m - 1) : Nat) : Int) := by simp
  have b1 : 2 ^ 7 ≤ 2 ^ (m - 1) := Nat.pow_le_pow_right (by decide) (by omega)
  have b2 : 2 ^ (m - 1) ≤ 2 ^ 25 := Nat.pow_le_pow_right (by decide) (by omega)
  rw [a]
  omega
end Go.Proofs.BlkM
end
