import Derived.Test.YtefbakhhlonafaaGreatBlkT2
import Derived.Test.YtefbakhhlonafaaGreatBlkG3
import Derived.Test.YtefbakhhlonafaaGreatActs2

namespace Go.Proofs.YtefbakhhlonafaaGreat
open Go.RowKit Go.Proofs Go.Proofs.PipeM Go.Proofs.PipeA Go.Proofs.BlkM Go.Proofs.BlkB
open Go.Proofs.LatM (goodL)
set_option maxRecDepth 100000

theorem sim_of {m : MR} (h : m.fail = 0) : Sim ⟨m.bits, 0⟩ m := ⟨h.symm, fun _ => rfl, fun x => absurd h x⟩
/-- Whatever is taken has just the bits that it is put as: a number. -/
theorem take_back {m : MR} {n : Nat} (h : (m.take n).1.fail = 0) : m.fail = 0 ∧ m.bits = low (m.take n).2 n ++ (m.take n).1.bits := by
  have hf := MR.take_still h
  obtain ⟨h1, h2⟩ := (sim_of hf).take n
  have he : (RS.takeS ⟨m.bits, 0⟩ n).err = 0 := h1.err.trans h
  obtain ⟨_, _, _, a, e1, e2, e3⟩ := takeS_inv _ _ he
  refine ⟨hf, ?_⟩
  rw [← h2, e3, low_num' a n (by omega), ← h1.bits h]
  exact e1
theorem rice_back {m : MR} {k : Nat} (hk : k ≤ 24) (h : (m.rice k).1.fail = 0) : m.fail = 0 ∧ m.bits = codeBits (m.rice k).2 k ++ (m.rice k).1.bits := by
  have hf : m.fail = 0 := by
    by_cases hf : m.fail = 0
    · exact hf
    · rw [MR.rice_spent hf] at h; exact h
  obtain ⟨h1, h2⟩ := (sim_of hf).rice k
  obtain ⟨z, _, e1, e2⟩ := rice_taken ⟨m.bits, 0⟩ k hk rfl (h1.err.trans h)
  refine ⟨hf, ?_⟩
  rw [← h2, e1, ← h1.bits h]
  unfold codeBits
  rw [fold_unfold]
  exact e2
theorem many_back {k : Nat} (hk : k ≤ 24) : ∀ n (m : MR), (MR.many k n m).1.fail = 0 → m.fail = 0 ∧ (MR.many k n m).2.length = n ∧ m.bits = (MR.many k n m).2.flatMap (codeBits · k) ++ (MR.many k n m).1.bits
  | 0, m, h => ⟨h, rfl, rfl⟩
  | n + 1, m, h => by
    rw [MR.many] at h ⊢
    by_cases hf : m.fail = 0
    · rw [if_neg (by simpa using hf)] at h ⊢
      obtain ⟨h1, h2, h3⟩ := many_back hk n (m.rice k).1 h
      obtain ⟨_, h4⟩ := rice_back hk h1
      refine ⟨hf, by simp [h2], ?_⟩
      rw [List.flatMap_cons, List.append_assoc, ← h3]
      exact h4
    · rw [if_pos hf] at h
      exact absurd h hf
theorem body_back (size : Nat) : ∀ c (m : MR), (MR.body size c m).1.fail = 0 → (∀ k ∈ (MR.body size c m).2.2, 0 ≤ k ∧ k ≤ 24) → (∀ n ∈ (MR.body size c m).2.1, InR n) → m.fail = 0 ∧ (MR.body size c m).2.2.length = c ∧ (MR.body size c m).2.1.length = size * c ∧ m.bits = bodyBits size (MR.body size c m).2.2 (MR.body size c m).2.1 ++ (MR.body size c m).1.bits
  | 0, m, h, _, _ => ⟨h, rfl, rfl, rfl⟩
  | c + 1, m, h, hk, hr => by
    rw [MR.body] at h hk hr ⊢
    by_cases hf : m.fail = 0
    · rw [if_neg (by simpa using hf)] at h hk hr ⊢
      dsimp only at h hk hr ⊢
      obtain ⟨h1, h2, h3, h4⟩ := body_back size c (m.partM size).1 h (fun k hk' => hk k (List.mem_cons_of_mem _ hk')) (fun n hn => hr n (List.mem_append_right _ hn))
      have hk0 := hk _ (List.mem_cons_self ..)
      obtain ⟨h5, h6, h7⟩ := many_back (k := (m.take 5).2) (by omega) size (m.take 5).1 h1
      obtain ⟨_, h8⟩ := take_back (m := m) (n := 5) h5
      have hrt : ∀ n ∈ (m.partM size).2, InR n := fun n hn => hr n (List.mem_append_left _ hn)
      have hlt : (m.partM size).2.length = size := h6
      refine ⟨hf, by rw [List.length_cons, h2], by rw [List.length_append, hlt, h3, Nat.mul_add]; omega, ?_⟩
      rw [bodyBits, List.take_left' hlt, List.drop_left' hlt, partBits, flat_code _ hk0 _ hrt, Int.toNat_natCast, List.append_assoc, ← h4]
      rw [List.append_assoc]
      refine h8.trans ?_
      congr 1
    · rw [if_pos hf] at h
      exact absurd h hf
theorem slide_back {m : MR} {n : Nat} (h : (m.slide n).1.fail = 0) (hp : slideOk (m.slide n).2.1 ((m.slide n).2.2.1 : Nat) (m.slide n).2.2.2 = true) : m.fail = 0 ∧ m.bits = slideBits (m.slide n).2.1 ((m.slide n).2.2.1 : Nat) (m.slide n).2.2.2 ++ (m.slide n).1.bits := by
  have hf := MR.slide_still h
  refine ⟨hf, ?_⟩
  obtain ⟨p, hpP, h3, hk1, hk8, hk0, hl1, hl2, hs1, hs2, hsp, hks, hin⟩ := slide_parts hp
  unfold MR.slide at h hp hpP hk1 hks hin hl1 hk0 hsp hs1 ⊢
  split at h
  · rw [if_pos (by assumption)] at hl1
    simp at hl1
  · rename_i hn
    rw [if_neg hn] at hp hpP hk1 hks hin hl1 hk0 hsp hs1 ⊢
    unfold MR.slideB at h hp hpP hk1 hks hin hl1 hk0 hsp hs1 ⊢
    split at h
    · rename_i hb
      exact absurd h hb
    · rename_i hb
      rw [if_neg hb] at hp hpP hk1 hks hin hl1 hk0 hsp hs1 ⊢
      dsimp only at h hp hpP hk1 hks hin hl1 hk0 hsp hs1 ⊢
      simp only [Int.toNat_natCast] at h hp hk1 hks hin hl1 hk0 hsp hs1 ⊢
      obtain ⟨h5, h6, h7, h8⟩ := body_back _ _ _ h hks hin
      have hfm : ((m.take 2).1.form n (m.take 2).2) = (m.take 2).1 ∧ (m.take 2).1.fail = 0 := by
        unfold MR.form at h5 ⊢
        split at h5
        · exfalso
          have := MR.give_still h5
          unfold MR.give at h5
          rw [if_pos this] at h5
          exact absurd h5 (by show ¬ ((2 : Int) = 0); decide)
        · rename_i hx
          rw [if_neg hx]
          exact ⟨rfl, h5⟩
      obtain ⟨_, h9⟩ := take_back (m := m) (n := 2) hfm.2
      obtain rfl : p = (m.take 2).2 := by omega
      have hpos : 0 < 2 ^ (m.take 2).2 := Nat.two_pow_pos _
      unfold slideBits listBits
      rw [hp, if_pos rfl, h6, h7, Nat.mul_div_cancel _ hpos, Int.toNat_natCast, List.append_assoc, ← h8, hfm.1]
      exact h9
theorem ints_back {d : Nat} (h1 : 1 ≤ d) (h2 : d ≤ 48) : ∀ n (m : MR), (MR.ints d n m).1.fail = 0 → m.fail = 0 ∧ m.bits = (MR.ints d n m).2.flatMap (sg d) ++ (MR.ints d n m).1.bits
  | 0, m, h => ⟨h, rfl⟩
  | n + 1, m, h => by
    have hf := MR.ints_still h
    rw [MR.ints_succ hf] at h ⊢
    dsimp only at h ⊢
    obtain ⟨h3, h4⟩ := ints_back h1 h2 n (m.take d).1 h
    obtain ⟨_, h5⟩ := take_back (m := m) (n := d) h3
    refine ⟨hf, ?_⟩
    have hlt := take_lt m d
    have hsg : sg d (m.intV d) = low (m.take d).2 d := by
      unfold sg MR.intV
      have hc : ((2 : Int) ^ d) = ((2 ^ d : Nat) : Int) := by simp
      rw [hc]
      congr 1
      split
      · rw [Int.sub_emod_right]
        rw [Int.emod_eq_of_lt (by omega) (by omega)]
        omega
      · rw [Int.emod_eq_of_lt (by omega) (by omega)]
        omega
    rw [List.flatMap_cons, List.append_assoc, ← h4, hsg]
    exact h5
theorem ints_length {d : Nat} : ∀ {n : Nat} {m : MR}, (MR.ints d n m).1.fail = 0 → (MR.ints d n m).2.length = n
  | 0, m, _ => rfl
  | n + 1, m, h => by
    have hf := MR.ints_still h
    rw [MR.ints_succ hf] at h ⊢
    rw [List.length_cons, ints_length (n := n) (m := (m.take d).1) h]
theorem int_back {d : Nat} (h1 : 1 ≤ d) (h2 : d ≤ 48) {m : MR} (h : (m.take d).1.fail = 0) : m.fail = 0 ∧ m.bits = sg d (m.intV d) ++ (m.take d).1.bits := by
  have hf := MR.take_still h
  have := ints_back h1 h2 1 m (by rw [MR.ints_succ hf]; exact h)
  rw [MR.ints_succ hf] at this
  simpa [MR.ints] using this
theorem term_back {m : MR} (h : m.term.1.fail = 0) : m.fail = 0 ∧ m.bits = termBits m.term.2.1 m.term.2.2 ++ m.term.1.bits := by
  refine ⟨MR.term_still h, ?_⟩
  unfold MR.term at h ⊢
  dsimp only at h ⊢
  have hlt := take_lt m 1
  by_cases h1 : (m.take 1).2 = 1
  · rw [if_pos h1] at h
    simp only [if_pos h1]
    dsimp only at h ⊢
    by_cases hz : ((m.take 1).1.take 8).2 = 0 ∨ (((m.take 1).1.take 8).1.take 4).2 = 0
    · exfalso
      rw [if_pos hz] at h
      have := MR.give_still h
      unfold MR.give at h
      rw [if_pos this] at h
      exact absurd h (by show ¬ ((2 : Int) = 0); decide)
    · rw [if_neg hz] at h ⊢
      obtain ⟨a1, a2⟩ := take_back (m := ((m.take 1).1.take 8).1) (n := 4) h
      obtain ⟨b1, b2⟩ := take_back (m := (m.take 1).1) (n := 8) a1
      obtain ⟨_, c2⟩ := take_back (m := m) (n := 1) b1
      rw [show ((1 : Nat) : Int) = 1 from rfl] at c2
      rw [c2, h1]
      unfold termBits
      rw [if_neg (fun x => hz (.inl x)), show low 1 1 = [true] from rfl]
      rw [show ((8 : Nat) : Int) = 8 from rfl] at b2
      rw [show ((4 : Nat) : Int) = 4 from rfl] at a2
      rw [b2, a2]
      simp
  · rw [if_neg h1] at h
    simp only [if_neg h1]
    dsimp only at h ⊢
    obtain ⟨_, c2⟩ := take_back (m := m) (n := 1) h
    have h0 : (m.take 1).2 = 0 := by have h2 : (m.take 1).2 < 2 ^ 1 := hlt; omega
    rw [show ((1 : Nat) : Int) = 1 from rfl, h0] at c2
    unfold termBits
    rw [if_pos rfl]
    exact c2
theorem bitsB_two (s a g : Nat) (part : Int) (index rice data : List Int) (d : Nat) : bitsB ⟨2, 0, s, index, a, g, part, rice, data⟩ d = low 2 2 ++ (low s 5 ++ (low index.length 5 ++ (index.flatMap (sg 7) ++ (termBits a g ++ slideBits data part rice)))) := by
  unfold bitsB termBits
  rw [if_neg (by simp), if_neg (by simp), if_pos rfl]
  by_cases h : a = 0
  · subst h; simp
  · rw [if_neg (show ¬ ((a : Int) = 0) by omega), if_neg h]; simp
/-- **Whatever is taken has just the bits that it is put as.** -/
theorem block_back {m : MR} {k d : Nat} (hd1 : 8 ≤ d) (hd2 : d ≤ 26) (hf : (m.kindB k d).1.fail = 0) (hc : codeB (m.kindB k d).2 k d = 0) : m.bits = bitsB (m.kindB k d).2 d ++ (m.kindB k d).1.bits := by
  obtain ⟨k', m', hk', hm', hk1, hk, hm1, hm2, hff, _, _⟩ := right_of hc
  obtain rfl : k = k' := by omega
  obtain rfl : d = m' := by omega
  have h4 : (m.take 2).2 < 2 ^ 2 := take_lt m 2
  unfold MR.kindB at hf hc hff ⊢
  dsimp only at hf hc hff ⊢
  by_cases q1 : (m.take 2).2 = 1
  · simp only [if_pos q1] at hf hc hff ⊢
    obtain ⟨a1, a2⟩ := int_back (by omega) (by omega) hf
    obtain ⟨_, b2⟩ := take_back (m := m) (n := 2) a1
    rw [show ((2 : Nat) : Int) = 2 from rfl, q1, a2] at b2
    rw [b2]
    simp [bitsB]
  · simp only [if_neg q1] at hf hc hff ⊢
    by_cases q3 : (m.take 2).2 = 3
    · simp only [if_pos q3] at hf hc hff ⊢
      obtain ⟨a1, a2⟩ := ints_back (by omega) (by omega) _ _ hf
      obtain ⟨_, b2⟩ := take_back (m := m) (n := 2) a1
      rw [show ((2 : Nat) : Int) = 2 from rfl, q3, a2] at b2
      rw [b2]
      unfold bitsB
      rw [if_neg (by simp), if_pos rfl, List.append_assoc]
      rfl
    · simp only [if_neg q3] at hf hc hff ⊢
      by_cases q2 : (m.take 2).2 = 2
      · simp only [if_pos q2] at hf hc hff ⊢
        unfold MR.normB at hf hc hff ⊢
        dsimp only at hf hc hff ⊢
        obtain ⟨_, _, _, _, hgl, hgt, hpo, hlo⟩ := two_facts hff
        have hsl := two_facts hff
        have hp : slideOk ((m.take 2).1.head.1.term.1.slide k).2.1 (((m.take 2).1.head.1.term.1.slide k).2.2.1 : Nat) ((m.take 2).1.head.1.term.1.slide k).2.2.2 = true := by
          unfold slideOk
          rw [hsl.2.1, hpo, hlo]; rfl
        obtain ⟨a1, a2⟩ := slide_back hf hp
        obtain ⟨b1, b2⟩ := term_back a1
        have hgl2 : goodL (m.take 2).1.head.2.2 = true := hgl
        have hil := LatM.good_len hgl2
        have hhead : (m.take 2).1.head.1.fail = 0 := b1
        have e16 : ¬ 16 < (((m.take 2).1.take 5).1.take 5).2 := fun hx => by
          have := MR.ints_still (show (MR.ints 7 (((m.take 2).1.take 5).1.take 5).2 (if 16 < (((m.take 2).1.take 5).1.take 5).2 then (((m.take 2).1.take 5).1.take 5).1.give 2 else (((m.take 2).1.take 5).1.take 5).1)).1.fail = 0 from hhead)
          rw [if_pos hx] at this
          have h0 := MR.give_still this
          unfold MR.give at this
          rw [if_pos h0] at this
          exact absurd this (by show ¬ ((2 : Int) = 0); decide)
        have hints : (MR.ints 7 (((m.take 2).1.take 5).1.take 5).2 (((m.take 2).1.take 5).1.take 5).1).1.fail = 0 := by
          have := show (MR.ints 7 (((m.take 2).1.take 5).1.take 5).2 (if 16 < (((m.take 2).1.take 5).1.take 5).2 then (((m.take 2).1.take 5).1.take 5).1.give 2 else (((m.take 2).1.take 5).1.take 5).1)).1.fail = 0 from hhead
          rwa [if_neg e16] at this
        have ehead : (m.take 2).1.head = ((MR.ints 7 (((m.take 2).1.take 5).1.take 5).2 (((m.take 2).1.take 5).1.take 5).1).1, ((m.take 2).1.take 5).2, (MR.ints 7 (((m.take 2).1.take 5).1.take 5).2 (((m.take 2).1.take 5).1.take 5).1).2) := by
          unfold MR.head
          dsimp only
          rw [if_neg e16]
        obtain ⟨c1, c2⟩ := ints_back (by omega) (by omega) _ _ hints
        obtain ⟨d1, d2⟩ := take_back (m := ((m.take 2).1.take 5).1) (n := 5) c1
        obtain ⟨e1, e2⟩ := take_back (m := (m.take 2).1) (n := 5) d1
        obtain ⟨_, f2⟩ := take_back (m := m) (n := 2) e1
        have hlen := ints_length hints
        rw [show ((2 : Nat) : Int) = 2 from rfl] at f2
        rw [show ((5 : Nat) : Int) = 5 from rfl] at d2 e2
        rw [f2, q2, e2, d2, c2]
        have b2' := b2
        rw [ehead] at b2' a2 ⊢
        dsimp only at b2' a2 ⊢
        rw [b2', a2]
        rw [bitsB_two, hlen]
        simp only [List.append_assoc]
      · simp only [if_neg q2] at hf hc hff ⊢
        have q0 : (m.take 2).2 = 0 := by omega
        obtain ⟨_, b2⟩ := take_back (m := m) (n := 2) hf
        rw [show ((2 : Nat) : Int) = 2 from rfl, q0] at b2
        rw [q0]
        rw [b2]
        simp [bitsB]
end Go.Proofs.YtefbakhhlonafaaGreat
