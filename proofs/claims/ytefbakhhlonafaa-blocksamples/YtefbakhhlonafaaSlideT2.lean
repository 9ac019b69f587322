import Derived.Test.YtefbakhhlonafaaSlideM

section
namespace Go.Proofs.Ytefbakhhlonafaa
open Go.RowKit Go.Proofs Go.Proofs.PipeM Go.Proofs.PipeA
set_option maxRecDepth 100000

def fewOk (len kl : Nat) : Bool := decide (len ≤ 64 ∧ kl ≤ 12)
theorem ints_one (W : World) (b : Nat) (z : Int) (t : TypeId) (h : W.heap[b]? = some (.cells #[.int .i64 z] t)) : IntsAt W (some ⟨b, 0, none⟩) [z] := by
  intro j hj
  have : j = 0 := by simp at hj; omega
  subst this
  exact ⟨b, 0, rfl, (Array.getElem?_eq_some_iff.1 h).1, (cell_of_heap h 0).trans rfl⟩

theorem alloc3 (w : World) (o1 o2 o3 : Obj) : (((w.alloc o1).alloc o2).alloc o3).heap[w.heap.size + 1]? = some o2 ∧ (((w.alloc o1).alloc o2).alloc o3).heap[w.heap.size + 1 + 1]? = some o3 ∧ Below (w.alloc o1).heap.size (w.alloc o1) (((w.alloc o1).alloc o2).alloc o3) := by
  have h2 := World.alloc_heap_new (w.alloc o1) o2
  have h3 := World.alloc_heap_new ((w.alloc o1).alloc o2) o3
  have z1 : (w.alloc o1).heap.size = w.heap.size + 1 := by simp
  have z2 : ((w.alloc o1).alloc o2).heap.size = w.heap.size + 1 + 1 := by simp
  rw [z1] at h2
  rw [z2] at h3
  exact ⟨(Below.heap_alloc _ _ _ (by simp)).trans h2, h3, ((Below.refl _ _).alloc (Nat.le_refl _) _).alloc (by simp) _⟩

end Go.Proofs.Ytefbakhhlonafaa
end

section
namespace Go.Proofs.Ytefbakhhlonafaa
open Go.RowKit Go.Proofs Go.Proofs.PipeM Go.Proofs.PipeA
set_option maxRecDepth 100000

def intsOf (l : List Int) : List Value := l.map fun n => Value.int .i64 n
theorem intsOf_snoc (l : List Int) (n : Int) : intsOf (l ++ [n]) = intsOf l ++ [.int .i64 n] := by simp [intsOf]
theorem ints_own {w : World} {base g cap : Nat} {l : List Int} (h : w.ownsRow base 3 1 (.slice (some ⟨g, 0, none⟩) l.length cap) l.length (intsOf l)) : IntsAt w (some ⟨g, 0, none⟩) l := by
  intro j hj
  refine ⟨g, 0, rfl, ((own_block_lt h) g rfl).2, ?_⟩
  rw [Nat.zero_add, h.cellAt j (by simpa [intsOf] using hj)]
  simp [intsOf]
theorem ints_own_any {w : World} {base : Nat} {ao : Option Addr} {cap : Nat} {l : List Int} (h : w.ownsRow base 3 1 (.slice ao l.length cap) l.length (intsOf l)) : IntsAt w ao l := by
  rcases h.2 with ⟨h1, h2⟩ | ⟨g, cap', cur, h1, _⟩
  · have : l = [] := List.eq_nil_of_length_eq_zero h2
    subst this
    intro j hj; simp at hj
  · simp only [Value.slice.injEq] at h1
    obtain ⟨rfl, _, rfl⟩ := h1
    exact ints_own h
theorem own_cap {w : World} {base : Nat} {ao : Option Addr} {cap n : Nat} {l : List Value} (h : w.ownsRow base 3 1 (.slice ao n cap) n l) : n ≤ cap := by
  rcases h.2 with ⟨h1, h2⟩ | ⟨g, cap', cur, h1, _, _, h3, _⟩
  · omega
  · simp only [Value.slice.injEq] at h1
    obtain ⟨_, _, rfl⟩ := h1
    exact h3

theorem rep_ok (n : Int) (c : Nat) (h : InR n) (hc : 1 ≤ c) (hc2 : c ≤ 1024) : listOk (List.replicate c n) = true := by
  unfold listOk
  rw [Bool.and_eq_true]
  refine ⟨List.all_eq_true.2 (fun x hx => ?_), decide_eq_true (by simp; omega)⟩
  rw [List.eq_of_mem_replicate hx]
  exact decide_eq_true h

end Go.Proofs.Ytefbakhhlonafaa
end

section
namespace Go.Proofs.Ytefbakhhlonafaa
open Go.RowKit Go.Proofs Go.Proofs.PipeM Go.Proofs.PipeA

/-- Numbers that come next under one parameter; a part; parts of one length. -/
def RS.many (k : Int) : Nat → RS → RS × List Int
  | 0, s => (s, [])
  | n + 1, s => ((RS.many k n (s.rice k).1).1, (s.rice k).2 :: (RS.many k n (s.rice k).1).2)
theorem many_snoc (k : Int) : ∀ n s, RS.many k (n + 1) s = (((RS.many k n s).1.rice k).1, (RS.many k n s).2 ++ [((RS.many k n s).1.rice k).2])
  | 0, s => rfl
  | n + 1, s => by
    rw [RS.many, many_snoc k n (s.rice k).1]
    rfl
theorem many_length (k : Int) : ∀ n s, (RS.many k n s).2.length = n
  | 0, _ => rfl
  | n + 1, s => by rw [RS.many]; simp [many_length k n]

def RS.partS (size : Nat) (s : RS) : RS × List Int := RS.many (s.takeV 5) size (s.takeS 5)
def RS.body (size : Nat) : Nat → RS → RS × List Int × List Int
  | 0, s => (s, [], [])
  | m + 1, s => if (s.partS size).1.err ≠ 0 then ((s.partS size).1, [], []) else ((RS.body size m (s.partS size).1).1, (s.partS size).2 ++ (RS.body size m (s.partS size).1).2.1, ((s.takeV 5 : Nat) : Int) :: (RS.body size m (s.partS size).1).2.2)

/-- What a list's taking leaves, and answers: the reader, the numbers, how many parts, and each one's parameter. -/
def RS.slideB (s : RS) (n p : Nat) : RS × List Int × Nat × List Int :=
  if (RS.body (n / 2 ^ p) (2 ^ p) s).1.err ≠ 0 then ((RS.body (n / 2 ^ p) (2 ^ p) s).1, [], 0, []) else ((RS.body (n / 2 ^ p) (2 ^ p) s).1, (RS.body (n / 2 ^ p) (2 ^ p) s).2.1, p, (RS.body (n / 2 ^ p) (2 ^ p) s).2.2)
def RS.slide (s : RS) (n : Int) : RS × List Int × Nat × List Int :=
  if n < 1 ∨ 1024 < n then (s.give 1, [], 0, [])
  else if n.toNat % 2 ^ s.takeV 2 ≠ 0 then ((s.takeS 2).give 2, [], 0, [])
  else (s.takeS 2).slideB n.toNat (s.takeV 2)

/-- What is put is taken. -/
theorem many_codes (k : Nat) (hk : k ≤ 24) (rest : List Bool) : ∀ c : List Int, (∀ n ∈ c, InR n) → RS.many k c.length ⟨c.flatMap (codeBits · k) ++ rest, 0⟩ = (⟨rest, 0⟩, c)
  | [], _ => rfl
  | n :: c, h => by
    have hn := h n (List.mem_cons_self ..)
    have e := rice_code (foldN n) k (foldN_lt hn) hk (c.flatMap (codeBits · k) ++ rest)
    rw [unfold_fold] at e
    rw [List.length_cons, RS.many, List.flatMap_cons, List.append_assoc]
    show (((RS.many k c.length (RS.rice ⟨codeZ (foldN n) k ++ (c.flatMap (codeBits · k) ++ rest), 0⟩ k).1).1), _) = _
    rw [show codeBits n k = codeZ (foldN n) k from rfl, e, many_codes k hk rest c (fun x hx => h x (List.mem_cons_of_mem _ hx))]

theorem low_num_k (k n : Nat) (h : k < 2 ^ n) : num (low k n) = k := by rw [num_low, Nat.mod_eq_of_lt h]

theorem part_codes (k : Nat) (hk : k ≤ 24) (rest : List Bool) (c : List Int) (h : ∀ n ∈ c, InR n) :
    RS.takeV ⟨(low k 5 ++ c.flatMap (codeBits · k)) ++ rest, 0⟩ 5 = k ∧ RS.partS c.length ⟨(low k 5 ++ c.flatMap (codeBits · k)) ++ rest, 0⟩ = (⟨rest, 0⟩, c) := by
  have h5 : k < 2 ^ 5 := Nat.lt_of_le_of_lt hk (by decide)
  obtain ⟨e1, e2⟩ := takeS_app (low k 5) (c.flatMap (codeBits · k) ++ rest) 5 (by rw [low_length]; rfl) (by rw [low_length]; decide) 0
  rw [low_num_k k 5 h5] at e2
  rw [List.append_assoc]
  refine ⟨e2, ?_⟩
  unfold RS.partS
  rw [e1, e2, many_codes k hk rest c h]

theorem body_codes (size : Nat) (rest : List Bool) : ∀ ks l : List Int, (∀ k ∈ ks, 0 ≤ k ∧ k ≤ 24) → (∀ n ∈ l, InR n) → l.length = size * ks.length →
    RS.body size ks.length ⟨bodyBits size ks l ++ rest, 0⟩ = (⟨rest, 0⟩, l, ks)
  | [], l, _, _, hl => by
    have : l = [] := List.eq_nil_of_length_eq_zero (by simpa using hl)
    subst this
    rfl
  | k :: ks, l, hk, hr, hl => by
    have hk0 := hk k (List.mem_cons_self ..)
    obtain ⟨kn, rfl⟩ := Int.eq_ofNat_of_zero_le hk0.1
    rw [List.length_cons, Nat.mul_add, Nat.mul_one] at hl
    have htl : (l.take size).length = size := by rw [List.length_take]; omega
    have hdl : (l.drop size).length = size * ks.length := by rw [List.length_drop]; omega
    have hrt : ∀ n ∈ l.take size, InR n := fun n hn => hr n (List.mem_of_mem_take hn)
    have hb : bodyBits size ((kn : Int) :: ks) l ++ rest = (low kn 5 ++ (l.take size).flatMap (codeBits · kn)) ++ (bodyBits size ks (l.drop size) ++ rest) := by
      rw [bodyBits, partBits, flat_code (kn : Int) hk0 (l.take size) hrt, Int.toNat_natCast, List.append_assoc]
    obtain ⟨e1, e2⟩ := part_codes kn (by omega) (bodyBits size ks (l.drop size) ++ rest) (l.take size) hrt
    rw [htl] at e2
    have ih := body_codes size rest ks (l.drop size) (fun x hx => hk x (List.mem_cons_of_mem _ hx)) (fun x hx => hr x (List.mem_of_mem_drop hx)) hdl
    rw [List.length_cons, hb, RS.body, e2, if_neg (by simp), e1, ih]
    simp

/-- A list's bits are taken as that list, in its parts. -/
theorem slide_taken {l ks : List Int} {P : Int} (h : slideOk l P ks = true) (rest : List Bool) : RS.slide ⟨slideBits l P ks ++ rest, 0⟩ l.length = (⟨rest, 0⟩, l, P.toNat, ks) := by
  obtain ⟨p, hP, h3, hk1, hk8, hk0, hl1, hl2, hs1, hs2, hsp, hks, hin⟩ := slide_parts h
  subst hP
  have hsb : slideBits l (p : Int) ks = low p 2 ++ bodyBits (l.length / ks.length) ks l := by unfold slideBits listBits; rw [if_pos h]; simp
  obtain ⟨e1, e2⟩ := takeS_app (low p 2) (bodyBits (l.length / ks.length) ks l ++ rest) 2 (by rw [low_length]; rfl) (by rw [low_length]; decide) 0
  rw [low_num_k p 2 (by have : p < 4 := by omega
                        simpa using this)] at e2
  have eb := body_codes (l.length / ks.length) rest ks l hks hin hsp
  rw [hk1] at eb
  unfold RS.slide
  rw [if_neg (by omega), hsb, List.append_assoc, e1, e2, Int.toNat_natCast, hk1, if_neg (by
    have : l.length % 2 ^ p = 0 := by rw [← hk1]; conv => lhs; rw [hsp]
                                      exact Nat.mul_mod_left _ _
    omega)]
  unfold RS.slideB
  rw [eb, if_neg (by simp), Int.toNat_natCast]
end Go.Proofs.Ytefbakhhlonafaa
end

section
namespace Go.Proofs.Ytefbakhhlonafaa
open Go.RowKit Go.Proofs Go.Proofs.PipeM Go.Proofs.PipeA

theorem MR.take_spent {m : MR} (h : m.fail ≠ 0) (n : Int) : m.take n = (m, 0) := by
  unfold MR.take
  rw [MR.give_spent h, MR.give_spent h]
  split
  · rfl
  · split
    · rfl
    · first | rfl | rw [if_pos h]
theorem MR.rice_spent {m : MR} (h : m.fail ≠ 0) (k : Int) : m.rice k = (m, 0) := by
  unfold MR.rice
  rw [MR.give_spent h]
  have hr : m.run 24 = (m, 0) := by unfold MR.run; rw [if_pos h]
  rw [hr]
  split
  · rfl
  · rw [if_pos (show (0 : Nat) < 24 by decide), MR.take_spent h]
    unfold MR.riceA
    rw [if_pos h]

/-- The document's. -/
def MR.many (k : Int) : Nat → MR → MR × List Int
  | 0, m => (m, [])
  | n + 1, m => if m.fail ≠ 0 then (m, []) else ((MR.many k n (m.rice k).1).1, (m.rice k).2 :: (MR.many k n (m.rice k).1).2)
def MR.partM (size : Nat) (m : MR) : MR × List Int := MR.many ((m.take 5).2 : Nat) size (m.take 5).1
def MR.body (size : Nat) : Nat → MR → MR × List Int × List Int
  | 0, m => (m, [], [])
  | c + 1, m => if m.fail ≠ 0 then (m, [], []) else ((MR.body size c (m.partM size).1).1, (m.partM size).2 ++ (MR.body size c (m.partM size).1).2.1, (((m.take 5).2 : Nat) : Int) :: (MR.body size c (m.partM size).1).2.2)
def MR.form (m : MR) (n p : Nat) : MR := if n % 2 ^ p ≠ 0 then m.give 2 else m
def MR.slideB (m : MR) (n p : Nat) : MR × List Int × Nat × List Int :=
  if (MR.body (n / 2 ^ p) (2 ^ p) (m.form n p)).1.fail ≠ 0 then ((MR.body (n / 2 ^ p) (2 ^ p) (m.form n p)).1, [], 0, []) else ((MR.body (n / 2 ^ p) (2 ^ p) (m.form n p)).1, (MR.body (n / 2 ^ p) (2 ^ p) (m.form n p)).2.1, p, (MR.body (n / 2 ^ p) (2 ^ p) (m.form n p)).2.2)
def MR.slide (m : MR) (n : Int) : MR × List Int × Nat × List Int :=
  if n < 1 ∨ 1024 < n then (m.give 1, [], 0, []) else (m.take 2).1.slideB n.toNat (m.take 2).2

theorem Sim.spentMany {s : RS} {m : MR} (h : Sim s m) (hf : m.fail ≠ 0) (k : Int) : ∀ n, Sim (RS.many k n s).1 m := by
  intro n
  induction n generalizing s with
  | zero => exact h
  | succ n ih =>
    rw [RS.many]
    have h1 := (h.rice k).1
    rw [MR.rice_spent hf] at h1
    exact ih h1
theorem Sim.many {s : RS} {m : MR} (h : Sim s m) (k : Int) : ∀ n, Sim (RS.many k n s).1 (MR.many k n m).1 ∧ ((MR.many k n m).1.fail = 0 → (RS.many k n s).2 = (MR.many k n m).2) := by
  intro n
  induction n generalizing s m with
  | zero => exact ⟨h, fun _ => rfl⟩
  | succ n ih =>
    rw [MR.many]
    by_cases hf : m.fail = 0
    · rw [if_neg (by simpa using hf), RS.many]
      obtain ⟨h1, h2⟩ := h.rice k
      obtain ⟨h3, h4⟩ := ih h1
      exact ⟨h3, fun e => by rw [h4 e, h2]⟩
    · rw [if_pos hf]
      exact ⟨h.spentMany hf k (n + 1), fun e => absurd e hf⟩
theorem Sim.part {s : RS} {m : MR} (h : Sim s m) (size : Nat) : Sim (s.partS size).1 (m.partM size).1 ∧ ((m.partM size).1.fail = 0 → (s.partS size).2 = (m.partM size).2) := by
  obtain ⟨h1, h2⟩ := h.take 5
  unfold RS.partS MR.partM
  rw [← h2]
  exact h1.many _ size
theorem MR.body_spent {m : MR} (h : m.fail ≠ 0) (size : Nat) : ∀ c, MR.body size c m = (m, [], [])
  | 0 => rfl
  | c + 1 => by rw [MR.body, if_pos h]
theorem Sim.body {s : RS} {m : MR} (h : Sim s m) (hf : m.fail = 0) (size : Nat) : ∀ c, Sim (RS.body size c s).1 (MR.body size c m).1 ∧ ((MR.body size c m).1.fail = 0 → (RS.body size c s).2 = (MR.body size c m).2) := by
  intro c
  induction c generalizing s m with
  | zero => exact ⟨h, fun _ => rfl⟩
  | succ c ih =>
    obtain ⟨h1, h2⟩ := h.part size
    rw [MR.body, if_neg (by simpa using hf), RS.body]
    by_cases hq : (m.partM size).1.fail = 0
    · rw [if_neg (by rw [h1.err]; simpa using hq)]
      obtain ⟨h3, h4⟩ := ih h1 hq
      exact ⟨h3, fun e => by rw [h4 e, h2 hq, (h.take 5).2]⟩
    · rw [if_pos (by rw [h1.err]; exact hq), MR.body_spent hq]
      exact ⟨h1, fun e => absurd e hq⟩

theorem spent_body {s : RS} {m : MR} (h : Sim s m) (hf : m.fail ≠ 0) (size : Nat) : ∀ c, Sim (RS.body size c s).1 m
  | 0 => h
  | c + 1 => by
    have ht := (h.take 5).1
    rw [MR.take_spent hf] at ht
    have hp : Sim (s.partS size).1 m := ht.spentMany hf _ size
    rw [RS.body, if_pos (by rw [hp.err]; exact hf)]
    exact hp

/-- The program's reader takes a list as the document's does. -/
theorem Sim.slide {s : RS} {m : MR} (h : Sim s m) (n : Int) : Sim (s.slide n).1 (m.slide n).1 ∧ (s.slide n).2 = (m.slide n).2 := by
  unfold RS.slide MR.slide
  by_cases hn : n < 1 ∨ 1024 < n
  · rw [if_pos hn, if_pos hn]; exact ⟨h.give 1, rfl⟩
  · rw [if_neg hn, if_neg hn]
    obtain ⟨h1, h2⟩ := h.take 2
    rw [h2]
    by_cases hd : n.toNat % 2 ^ (m.take 2).2 = 0
    · have hform : (m.take 2).1.form n.toNat (m.take 2).2 = (m.take 2).1 := by unfold MR.form; rw [if_neg (by simpa using hd)]
      unfold MR.slideB RS.slideB
      rw [hform, if_neg (by simpa using hd)]
      by_cases hf : (m.take 2).1.fail = 0
      · obtain ⟨h3, h4⟩ := h1.body hf (n.toNat / 2 ^ (m.take 2).2) (2 ^ (m.take 2).2)
        rw [h3.err]
        split
        · exact ⟨h3, rfl⟩
        · rename_i hz
          have e := h4 (by simpa using hz)
          exact ⟨h3, by rw [e]⟩
      · have hsp := spent_body h1 hf (n.toNat / 2 ^ (m.take 2).2) (2 ^ (m.take 2).2)
        rw [MR.body_spent hf, if_pos hf, if_pos (by rw [hsp.err]; exact hf)]
        exact ⟨hsp, rfl⟩
    · have hg : ((m.take 2).1.give 2).fail ≠ 0 := give_fail _ 2 (by decide)
      have hform : (m.take 2).1.form n.toNat (m.take 2).2 = (m.take 2).1.give 2 := by unfold MR.form; rw [if_pos hd]
      unfold MR.slideB
      rw [hform, if_pos hd, MR.body_spent hg, if_pos hg]
      exact ⟨h1.give 2, rfl⟩
end Go.Proofs.Ytefbakhhlonafaa
end
