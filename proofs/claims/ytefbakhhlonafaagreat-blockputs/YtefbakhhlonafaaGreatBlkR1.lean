import Derived.Test.YtefbakhhlonafaaGreatBlkT1
import Derived.Test.YtefbakhhlonafaaGreatBlkG4
import Derived.Test.YtefbakhhlonafaaGreatLawBack1
import Derived.Test.YtefbakhhlonafaaGreatLawS5

namespace Go.Proofs.YtefbakhhlonafaaGreat
open Go.RowKit Go.Proofs Go.Proofs.PipeM Go.Proofs.PipeA Go.Proofs.BlkM Go.Proofs.BlkB
open Go.Proofs.LatM (goodL)
set_option maxRecDepth 100000

theorem take_low (v n : Nat) (hv : v < 2 ^ n) (hn : n ≤ 48) (N : Int) (hN : N = (n : Int)) (rest : List Bool) : RS.takeS ⟨low v n ++ rest, 0⟩ N = ⟨rest, 0⟩ ∧ RS.takeV ⟨low v n ++ rest, 0⟩ N = v := by
  subst hN
  obtain ⟨e1, e2⟩ := takeS_app (low v n) rest n (by rw [low_length]) (by rw [low_length]; exact hn) 0
  refine ⟨e1, ?_⟩
  rw [e2, num_low, Nat.mod_eq_of_lt hv]
theorem signed_sg (x : Int) (d : Nat) (h1 : 1 ≤ d) (h2 : d ≤ 48) (hx : -(2 ^ (d - 1)) ≤ x ∧ x < 2 ^ (d - 1)) (rest : List Bool) : RS.signedS ⟨sg d x ++ rest, 0⟩ d = ⟨rest, 0⟩ ∧ RS.signedV ⟨sg d x ++ rest, 0⟩ d = x := by
  obtain ⟨a, b⟩ := signed_take (s := ⟨sg d x ++ rest, 0⟩) h1 h2
  obtain ⟨e1, e2⟩ := takeS_app (sg d x) rest d (by unfold sg; rw [low_length]) (by unfold sg; rw [low_length]; exact h2) 0
  rw [a, b, e1, e2]
  refine ⟨rfl, ?_⟩
  unfold sg
  rw [num_low]
  exact sgn_low x d h1 hx.1 hx.2
theorem ints_sg (d : Nat) (h1 : 1 ≤ d) (h2 : d ≤ 48) (rest : List Bool) : ∀ l : List Int, (∀ x ∈ l, -(2 ^ (d - 1)) ≤ x ∧ x < 2 ^ (d - 1)) → RS.intsS d l.length ⟨l.flatMap (sg d) ++ rest, 0⟩ = (⟨rest, 0⟩, l)
  | [], _ => rfl
  | x :: r, h => by
    obtain ⟨e1, e2⟩ := signed_sg x d h1 h2 (h x (List.mem_cons_self ..)) (r.flatMap (sg d) ++ rest)
    rw [List.length_cons, List.flatMap_cons, List.append_assoc, intsS_succ, e1, e2, ints_sg d h1 h2 rest r (fun y hy => h y (List.mem_cons_of_mem _ hy))]
theorem term_taken (a g : Nat) (ha : a ≤ 255) (hg : g ≤ 15) (hz : a = 0 → g = 0) (hp : 0 < a → 1 ≤ g) (rest : List Bool) : RS.term ⟨termBits a g ++ rest, 0⟩ = (⟨rest, 0⟩, a, g) := by
  unfold RS.term termBits
  by_cases h0 : a = 0
  · obtain rfl := hz h0
    subst h0
    rw [if_pos rfl]
    obtain ⟨e1, e2⟩ := take_low 0 1 (by decide) (by decide) 1 rfl rest
    have e0 : ([false] : List Bool) = low 0 1 := rfl
    rw [e0, e1, e2, if_pos rfl]
  · rw [if_neg h0]
    obtain ⟨e1, e2⟩ := take_low 1 1 (by decide) (by decide) 1 rfl (low a 8 ++ (low g 4 ++ rest))
    obtain ⟨e3, e4⟩ := take_low a 8 (by omega) (by decide) 8 rfl (low g 4 ++ rest)
    obtain ⟨e5, e6⟩ := take_low g 4 (by omega) (by decide) 4 rfl rest
    have e0 : true :: (low a 8 ++ low g 4) ++ rest = low 1 1 ++ (low a 8 ++ (low g 4 ++ rest)) := by
      rw [show low 1 1 = [true] from rfl]; simp
    have hg1 := hp (by omega)
    rw [e0, e1, e2, e3, e4, e5, e6, if_neg (by decide), if_neg (by omega)]
/-- **What is put is taken.** -/
theorem block_taken {b : Blk} {k m : Nat} (hc : codeB b k m = 0) (rest : List Bool) : RS.block ⟨bitsB b m ++ rest, 0⟩ k m = (⟨rest, 0⟩, b, outB b k) := by
  obtain ⟨k', m', hk', hm', hk1, hk, hm1, hm2, hf, _, hall⟩ := right_of hc
  obtain rfl : k = k' := by omega
  obtain rfl : m = m' := by omega
  have hs : (sizeN (k : Int) && depthB (m : Int)) = true := samp_ok hk1 hk hm1 hm2
  have key : RS.kindB ⟨bitsB b m ++ rest, 0⟩ k m = (⟨rest, 0⟩, b) := by
    have hin : ∀ x, hasP (halfOf (m : Int)) x = true → -(2 ^ (m - 1)) ≤ x ∧ x < 2 ^ (m - 1) := fun x h => by
      have hb := of_decide_eq_true h
      rw [hp_nat (by omega)] at hb
      exact hb
    cases shape_of hf with
    | zero =>
      have e0 : bitsB ⟨0, 0, 0, [], 0, 0, 0, [], []⟩ m = low 0 2 := by simp [bitsB]
      obtain ⟨e1, e2⟩ := take_low 0 2 (by decide) (by decide) 2 rfl rest
      unfold RS.kindB
      rw [e0, e1, e2, if_neg (by decide), if_neg (by decide), if_neg (by decide)]
      rfl
    | const x =>
      have hx : hasP (halfOf (m : Int)) x = true := List.all_eq_true.1 hall x (by unfold outB; rw [if_neg (by show ¬ (1 : Int) = 2; decide), if_neg (by show ¬ (1 : Int) = 3; decide)]; exact List.mem_replicate.2 ⟨by omega, rfl⟩)
      have e0 : bitsB ⟨1, x, 0, [], 0, 0, 0, [], []⟩ m ++ rest = low 1 2 ++ (sg m x ++ rest) := by simp [bitsB]
      obtain ⟨e1, e2⟩ := take_low 1 2 (by decide) (by decide) 2 rfl (sg m x ++ rest)
      obtain ⟨e3, e4⟩ := signed_sg x m (by omega) (by omega) (hin x hx) rest
      unfold RS.kindB
      rw [e0, e1, e2, if_pos rfl, e3, e4]
    | raw data h =>
      have hx : ∀ x ∈ data, -(2 ^ (m - 1)) ≤ x ∧ x < 2 ^ (m - 1) := fun x hx => by
        unfold outB at hall
        rw [if_neg (by show ¬ (3 : Int) = 2; decide), if_pos rfl] at hall
        exact hin x (List.all_eq_true.1 hall x hx)
      have e0 : bitsB ⟨3, 0, 0, [], 0, 0, 0, [], data⟩ m ++ rest = low 3 2 ++ (data.flatMap (sg m) ++ rest) := by
        unfold bitsB
        rw [if_neg (by simp), if_pos rfl, List.append_assoc]
        rfl
      obtain ⟨e1, e2⟩ := take_low 3 2 (by decide) (by decide) 2 rfl (data.flatMap (sg m) ++ rest)
      have e3 := ints_sg m (by omega) (by omega) rest data hx
      rw [h] at e3
      unfold RS.kindB
      rw [e0, e1, e2, if_neg (by decide), if_neg (by decide), if_pos rfl, e3]
    | normal s a g part index rice data h hs ha hg hz hi ht hp =>
      have hil : index.length ≤ 16 := LatM.good_len hi
      have hix := good_ix hi
      have e0 : bitsB ⟨2, 0, s, index, a, g, part, rice, data⟩ m ++ rest = low 2 2 ++ (low s 5 ++ (low index.length 5 ++ (index.flatMap (sg 7) ++ (termBits a g ++ (slideBits data part rice ++ rest))))) := by
        unfold bitsB termBits
        rw [if_neg (by simp), if_neg (by simp), if_pos rfl]
        by_cases h : a = 0
        · subst h; simp
        · rw [if_neg (show ¬ ((a : Int) = 0) by omega), if_neg h]; simp
      obtain ⟨e1, e2⟩ := take_low 2 2 (by decide) (by decide) 2 rfl (low s 5 ++ (low index.length 5 ++ (index.flatMap (sg 7) ++ (termBits a g ++ (slideBits data part rice ++ rest)))))
      obtain ⟨e3, e4⟩ := take_low s 5 (by omega) (by decide) 5 rfl (low index.length 5 ++ (index.flatMap (sg 7) ++ (termBits a g ++ (slideBits data part rice ++ rest))))
      obtain ⟨e5, e6⟩ := take_low index.length 5 (by omega) (by decide) 5 rfl (index.flatMap (sg 7) ++ (termBits a g ++ (slideBits data part rice ++ rest)))
      have e7 := ints_sg 7 (by decide) (by decide) (termBits a g ++ (slideBits data part rice ++ rest)) index (fun x hx => by have := hix x hx; omega)
      have e8 : RS.idx ⟨low index.length 5 ++ (index.flatMap (sg 7) ++ (termBits a g ++ (slideBits data part rice ++ rest))), 0⟩ = (⟨termBits a g ++ (slideBits data part rice ++ rest), 0⟩, index) := by
        unfold RS.idx
        rw [e5, e6, if_neg (by omega), e7]
      obtain ⟨n, hn, _, _, _, h9, h10⟩ := LagM.goodT_of ht
      have e9 := term_taken a g ha hg hz (fun h0 => by omega) (slideBits data part rice ++ rest)
      have e10 := slide_taken hp rest
      rw [h] at e10
      obtain ⟨p, hP, _⟩ := slide_parts hp
      unfold RS.kindB
      rw [e0, e1, e2, if_neg (by decide), if_pos rfl]
      unfold RS.normB
      dsimp only
      rw [e3, e4, e8]
      dsimp only
      rw [e9]
      dsimp only
      rw [e10]
      dsimp only
      rw [hP]
      rfl
  unfold RS.block
  rw [hs]
  simp only [Bool.not_true, Bool.false_eq_true, if_false]
  rw [show ((k : Int)).toNat = k from rfl, show ((m : Int)).toNat = m from rfl, key]
  dsimp only
  rw [hc]
  have e : RS.give ⟨rest, 0⟩ 0 = ⟨rest, 0⟩ := by unfold RS.give; rw [if_pos (Or.inl rfl)]
  rw [e, if_neg (show ¬ ((⟨rest, 0⟩ : RS).err ≠ 0) from fun h => h rfl)]
/-- A right block that isn't long has few bits. -/
theorem bits_few {b : Blk} {k m : Nat} (hc : codeB b k m = 0) (hd : b.data.length ≤ 64) : (bitsB b m).length ≤ 4200 := by
  obtain ⟨k', m', hk', hm', hk1, hk, hm1, hm2, hf, _, _⟩ := right_of hc
  obtain rfl : m = m' := by omega
  cases shape_of hf with
  | zero => rw [bits_zero]; omega
  | const x => rw [bits_const]; omega
  | raw data h =>
    rw [bits_raw]
    have := Nat.mul_le_mul hd hm2
    dsimp only at this hd
    omega
  | normal s a g part index rice data h hs ha hg hz hi ht hp =>
    rw [bits_normal]
    have h1 : index.length ≤ 16 := LatM.good_len hi
    have h2 : slideLen data part rice ≤ 4000 := slide_short hp hd
    split <;> omega
end Go.Proofs.YtefbakhhlonafaaGreat
