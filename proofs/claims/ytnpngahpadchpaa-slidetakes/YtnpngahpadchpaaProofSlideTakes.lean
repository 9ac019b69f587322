/-
  PROVED: 'SlideTakes' answers true for every input, and leaves its arguments as they were.
  Conditions: none.
-/
import Derived.Test.YtnpngahpadchpaaSlideM
import Derived.Test.YtnpngahpadchpaaSlideC7
import Derived.Test.YtnpngahpadchpaaLawS1
import Derived.Test.YtnpngahpadchpaaRef3e
import Derived.Deep.AppendSrc
import Derived.Test.YtnpngahpadchpaaRows
import Derived.Test.YtnpngahpadchpaaArgs

namespace Go.Proofs.Ytnpngahpadchpaa
open Go.RowKit Go.Proofs Go.Proofs.PipeM Go.Proofs.PipeA

/-- Numbers that come next under one parameter; a part; parts of one length. -/
def RS.many (k : Int) : Nat → RS → RS × List Int
  | 0, s => (s, [])
  | n + 1, s => ((RS.many k n (s.rice k).1).1, (s.rice k).2 :: (RS.many k n (s.rice k).1).2)
theorem many_snoc (k : Int) : ∀ n s, RS.many k (n + 1) s = (((RS.many k n s).1.rice k).1, (RS.many k n s).2 ++ [((RS.many k n s).1.rice k).2])
  | 0, s => rfl
  | n + 1, s => by
    rw [RS.many, many_snoc k n (s.rice k).1]
    rfl
theorem many_length (k : Int) : ∀ n s, (RS.many k n s).2.length = n
  | 0, _ => rfl
  | n + 1, s => by rw [RS.many]; simp [many_length k n]

def RS.partS (size : Nat) (s : RS) : RS × List Int := RS.many (s.takeV 5) size (s.takeS 5)
def RS.body (size : Nat) : Nat → RS → RS × List Int × List Int
  | 0, s => (s, [], [])
  | m + 1, s => if (s.partS size).1.err ≠ 0 then ((s.partS size).1, [], []) else ((RS.body size m (s.partS size).1).1, (s.partS size).2 ++ (RS.body size m (s.partS size).1).2.1, ((s.takeV 5 : Nat) : Int) :: (RS.body size m (s.partS size).1).2.2)

/-- What a list's taking leaves, and answers: the reader, the numbers, how many parts, and each one's parameter. -/
def RS.slideB (s : RS) (n p : Nat) : RS × List Int × Nat × List Int :=
  if (RS.body (n / 2 ^ p) (2 ^ p) s).1.err ≠ 0 then ((RS.body (n / 2 ^ p) (2 ^ p) s).1, [], 0, []) else ((RS.body (n / 2 ^ p) (2 ^ p) s).1, (RS.body (n / 2 ^ p) (2 ^ p) s).2.1, p, (RS.body (n / 2 ^ p) (2 ^ p) s).2.2)
def RS.slide (s : RS) (n : Int) : RS × List Int × Nat × List Int :=
  if n < 1 ∨ 1024 < n then (s.give 1, [], 0, [])
  else if n.toNat % 2 ^ s.takeV 2 ≠ 0 then ((s.takeS 2).give 2, [], 0, [])
  else (s.takeS 2).slideB n.toNat (s.takeV 2)

/-- What is put is taken. -/
theorem many_codes (k : Nat) (hk : k ≤ 24) (rest : List Bool) : ∀ c : List Int, (∀ n ∈ c, InR n) → RS.many k c.length ⟨c.flatMap (codeBits · k) ++ rest, 0⟩ = (⟨rest, 0⟩, c)
  | [], _ => rfl
  | n :: c, h => by
    have hn := h n (List.mem_cons_self ..)
    have e := rice_code (foldN n) k (foldN_lt hn) hk (c.flatMap (codeBits · k) ++ rest)
    rw [unfold_fold] at e
    rw [List.length_cons, RS.many, List.flatMap_cons, List.append_assoc]
    show (((RS.many k c.length (RS.rice ⟨codeZ (foldN n) k ++ (c.flatMap (codeBits · k) ++ rest), 0⟩ k).1).1), _) = _
    rw [show codeBits n k = codeZ (foldN n) k from rfl, e, many_codes k hk rest c (fun x hx => h x (List.mem_cons_of_mem _ hx))]

theorem low_num_k (k n : Nat) (h : k < 2 ^ n) : num (low k n) = k := by rw [num_low, Nat.mod_eq_of_lt h]

theorem part_codes (k : Nat) (hk : k ≤ 24) (rest : List Bool) (c : List Int) (h : ∀ n ∈ c, InR n) :
    RS.takeV ⟨(low k 5 ++ c.flatMap (codeBits · k)) ++ rest, 0⟩ 5 = k ∧ RS.partS c.length ⟨(low k 5 ++ c.flatMap (codeBits · k)) ++ rest, 0⟩ = (⟨rest, 0⟩, c) := by
  have h5 : k < 2 ^ 5 := Nat.lt_of_le_of_lt hk (by decide)
  obtain ⟨e1, e2⟩ := takeS_app (low k 5) (c.flatMap (codeBits · k) ++ rest) 5 (by rw [low_length]; rfl) (by rw [low_length]; decide) 0
  rw [low_num_k k 5 h5] at e2
  rw [List.append_assoc]
  refine ⟨e2, ?_⟩
  unfold RS.partS
  rw [e1, e2, many_codes k hk rest c h]

theorem body_codes (size : Nat) (rest : List Bool) : ∀ ks l : List Int, (∀ k ∈ ks, 0 ≤ k ∧ k ≤ 24) → (∀ n ∈ l, InR n) → l.length = size * ks.length →
    RS.body size ks.length ⟨bodyBits size ks l ++ rest, 0⟩ = (⟨rest, 0⟩, l, ks)
  | [], l, _, _, hl => by
    have : l = [] := List.eq_nil_of_length_eq_zero (by simpa using hl)
    subst this
    rfl
  | k :: ks, l, hk, hr, hl => by
    have hk0 := hk k (List.mem_cons_self ..)
    obtain ⟨kn, rfl⟩ := Int.eq_ofNat_of_zero_le hk0.1
    rw [List.length_cons, Nat.mul_add, Nat.mul_one] at hl
    have htl : (l.take size).length = size := by rw [List.length_take]; omega
    have hdl : (l.drop size).length = size * ks.length := by rw [List.length_drop]; omega
    have hrt : ∀ n ∈ l.take size, InR n := fun n hn => hr n (List.mem_of_mem_take hn)
    have hb : bodyBits size ((kn : Int) :: ks) l ++ rest = (low kn 5 ++ (l.take size).flatMap (codeBits · kn)) ++ (bodyBits size ks (l.drop size) ++ rest) := by
      rw [bodyBits, partBits, flat_code (kn : Int) hk0 (l.take size) hrt, Int.toNat_natCast, List.append_assoc]
    obtain ⟨e1, e2⟩ := part_codes kn (by omega) (bodyBits size ks (l.drop size) ++ rest) (l.take size) hrt
    rw [htl] at e2
    have ih := body_codes size rest ks (l.drop size) (fun x hx => hk x (List.mem_cons_of_mem _ hx)) (fun x hx => hr x (List.mem_of_mem_drop hx)) hdl
    rw [List.length_cons, hb, RS.body, e2, if_neg (by simp), e1, ih]
    simp

/-- A list's bits are taken as that list, in its parts. -/
theorem slide_taken {l ks : List Int} {P : Int} (h : slideOk l P ks = true) (rest : List Bool) : RS.slide ⟨slideBits l P ks ++ rest, 0⟩ l.length = (⟨rest, 0⟩, l, P.toNat, ks) := by
  obtain ⟨p, hP, h3, hk1, hk8, hk0, hl1, hl2, hs1, hs2, hsp, hks, hin⟩ := slide_parts h
  subst hP
  have hsb : slideBits l (p : Int) ks = low p 2 ++ bodyBits (l.length / ks.length) ks l := by unfold slideBits listBits; rw [if_pos h]; simp
  obtain ⟨e1, e2⟩ := takeS_app (low p 2) (bodyBits (l.length / ks.length) ks l ++ rest) 2 (by rw [low_length]; rfl) (by rw [low_length]; decide) 0
  rw [low_num_k p 2 (by have : p < 4 := by omega
                        simpa using this)] at e2
  have eb := body_codes (l.length / ks.length) rest ks l hks hin hsp
  rw [hk1] at eb
  unfold RS.slide
  rw [if_neg (by omega), hsb, List.append_assoc, e1, e2, Int.toNat_natCast, hk1, if_neg (by
    have : l.length % 2 ^ p = 0 := by rw [← hk1]; conv => lhs; rw [hsp]
                                      exact Nat.mul_mod_left _ _
    omega)]
  unfold RS.slideB
  rw [eb, if_neg (by simp), Int.toNat_natCast]
end Go.Proofs.Ytnpngahpadchpaa

namespace Go.Proofs.Ytnpngahpadchpaa
open Go.RowKit Go.Shelf Go.Proofs Go.Proofs.PipeM Go.Proofs.PipeA
set_option maxRecDepth 100000

/-- Where the taking of parts stands: the reader, whether no part has failed, the parameters, the numbers. -/
structure TS where
  s : RS
  ok : Bool
  keys : Nat → Int
  list : Nat → Int

/-- The numbers behind j numbers of part x; the parameters behind that of part x. -/
def putL (size x j : Nat) (c : List Int) (f : Nat → Int) (i : Nat) : Int := if x * size ≤ i ∧ i < x * size + j then c.getD (i - x * size) 0 else f i
def putK (x : Nat) (k : Int) (f : Nat → Int) (i : Nat) : Int := if i = x then k else f i

/-- One part more. -/
def TS.step (size : Nat) (t : TS) (x : Nat) : TS :=
  ⟨(t.s.partS size).1, t.ok && decide ((t.s.partS size).1.err = 0), putK x ((t.s.takeV 5 : Nat) : Int) t.keys, putL size x size (t.s.partS size).2 t.list⟩
def TS.run (size : Nat) (t : TS) (l : List Nat) : TS := l.foldl (TS.step size) t

theorem run_snoc (size : Nat) (t : TS) (l : List Nat) (x : Nat) : t.run size (l ++ [x]) = (t.run size l).step size x := by simp [TS.run]
theorem run_cons (size : Nat) (t : TS) (l : List Nat) (x : Nat) : t.run size (x :: l) = (t.step size x).run size l := rfl

theorem run_ok {size : Nat} : ∀ {l : List Nat} {t : TS}, (t.run size l).ok = true → t.ok = true
  | [], _, h => h
  | x :: l, t, h => by
    have := run_ok (l := l) (t := t.step size x) h
    simp [TS.step] at this
    exact this.1

theorem run_kept {size : Nat} : ∀ (m j : Nat) (t : TS) (i : Nat), i < j * size → (t.run size (List.range' j m)).list i = t.list i
  | 0, _, _, _, _ => rfl
  | m + 1, j, t, i, h => by
    rw [List.range'_succ, run_cons, run_kept m (j + 1) _ i (by rw [Nat.add_mul]; omega)]
    show putL _ _ _ _ _ _ = _
    unfold putL
    rw [if_neg (by omega)]
theorem run_keptK {size : Nat} : ∀ (m j : Nat) (t : TS) (i : Nat), i < j → (t.run size (List.range' j m)).keys i = t.keys i
  | 0, _, _, _, _ => rfl
  | m + 1, j, t, i, h => by
    rw [List.range'_succ, run_cons, run_keptK m (j + 1) _ i (by omega)]
    show putK _ _ _ _ = _
    unfold putK
    rw [if_neg (by omega)]

theorem partS_length (size : Nat) (s : RS) : (s.partS size).2.length = size := many_length _ _ _

/-- What stands behind so many parts is what the taking of them answers. -/
theorem body_run (size : Nat) : ∀ (m j : Nat) (t : TS), (t.run size (List.range' j m)).ok = true →
    RS.body size m t.s = ((t.run size (List.range' j m)).s, (List.range (m * size)).map (fun i => (t.run size (List.range' j m)).list (j * size + i)), (List.range m).map (fun i => (t.run size (List.range' j m)).keys (j + i)))
  | 0, _, _, _ => by simp [RS.body, TS.run]
  | m + 1, j, t, h => by
    rw [List.range'_succ, run_cons] at h ⊢
    have hok := run_ok h
    have he : (t.s.partS size).1.err = 0 := by simp [TS.step] at hok; exact hok.2
    have ih := body_run size m (j + 1) (t.step size j) h
    have e1 : (t.step size j).s = (t.s.partS size).1 := rfl
    rw [e1] at ih
    rw [RS.body, if_neg (by simp [he]), ih]
    simp only [Prod.mk.injEq, true_and]
    constructor
    · apply List.ext_getElem
      · simp [partS_length, Nat.add_mul]; omega
      · intro i h1 h2
        simp only [List.length_append, partS_length, List.length_map, List.length_range] at h1
        simp only [List.getElem_map, List.getElem_range]
        rw [List.getElem_append]
        split
        · rename_i hlt
          rw [partS_length] at hlt
          rw [run_kept m (j + 1) _ _ (by rw [Nat.add_mul]; omega)]
          show _ = putL _ _ _ _ _ _
          unfold putL
          rw [if_pos (by omega), show j * size + i - j * size = i by omega]
          simp [List.getD, partS_length, hlt]
        · rename_i hge
          rw [partS_length] at hge
          simp only [List.getElem_map, List.getElem_range, partS_length]
          congr 1
          rw [Nat.add_mul]; omega
    · apply List.ext_getElem
      · simp
      · intro i h1 h2
        simp only [List.getElem_map, List.getElem_range]
        cases i with
        | zero =>
          rw [run_keptK m (j + 1) _ _ (by omega)]
          show _ = putK _ _ _ _
          simp [putK]
        | succ i =>
          simp only [List.getElem_cons_succ, List.getElem_map, List.getElem_range]
          congr 1
          omega

/-- Where a part fails, nothing more is taken. -/
theorem body_stop (size r : Nat) : ∀ (q j : Nat) (t : TS), (t.run size (List.range' j q)).ok = true → ((t.run size (List.range' j q)).step size (j + q)).s.err ≠ 0 →
    (RS.body size (q + 1 + r) t.s).1 = ((t.run size (List.range' j q)).step size (j + q)).s
  | 0, j, t, _, h => by
    have h' : (RS.partS size t.s).1.err ≠ 0 := h
    rw [show 0 + 1 + r = r + 1 by omega, RS.body, if_pos h']; rfl
  | q + 1, j, t, hk, h => by
    rw [List.range'_succ, run_cons] at hk h ⊢
    have hok := run_ok hk
    have he : (t.s.partS size).1.err = 0 := by simp [TS.step] at hok; exact hok.2
    rw [show q + 1 + 1 + r = (q + 1 + r) + 1 by omega, RS.body, if_neg (by simp [he])]
    rw [show j + (q + 1) = j + 1 + q by omega] at h ⊢
    exact body_stop size r q (j + 1) (t.step size j) hk h

/-- Behind one number more of a part. -/
theorem putL_next {size x j : Nat} {k : Int} {s : RS} {f : Nat → Int} {N : Nat} : ∀ i, i < N →
    putL size x (j + 1) (RS.many k (j + 1) s).2 f i = if i = x * size + j then ((RS.many k j s).1.rice k).2 else putL size x j (RS.many k j s).2 f i := by
  intro i _
  have hl := many_length k j s
  unfold putL
  rw [many_snoc]
  by_cases h1 : i = x * size + j
  · rw [if_pos (by omega), if_pos h1, h1, show x * size + j - x * size = j by omega]
    simp [List.getD, hl]
  · rw [if_neg h1]
    by_cases h2 : x * size ≤ i ∧ i < x * size + j
    · rw [if_pos (by omega), if_pos h2, List.getD_eq_getElem?_getD, List.getD_eq_getElem?_getD, List.getElem?_append_left (by rw [hl]; omega)]
    · rw [if_neg (by omega), if_neg h2]

/-- A reader abides what grows behind. -/
theorem own_rda {β : Type} {B b : Nat} {ao : Option Addr} (hb : b < B) (ha : ∀ g off, ao = some ⟨g, off, none⟩ → g < B) (f : β → RS) : OwnFrom B (fun s W => RdA W b ao (f s)) := by
  intro s X Y row hs hg hr
  have hk := grown_keeps hg
  refine hs.keeps hk ?_ ?_
  · intro hm
    cases row with
    | none => simp at hm
    | some r => obtain ⟨h1, _⟩ := hr r rfl; simp at hm; omega
  · intro g off hao hm
    cases row with
    | none => simp at hm
    | some r => obtain ⟨h1, _⟩ := hr r rfl; simp at hm; have := ha g off hao; omega
theorem own_and {β : Type} {B : Nat} {p : β → Prop} {J : β → World → Prop} (h : OwnFrom B J) : OwnFrom B (fun s W => p s ∧ J s W) :=
  fun s X Y row hs hg hr => ⟨hs.1, h s X Y row hs.2 hg hr⟩
end Go.Proofs.Ytnpngahpadchpaa

namespace Go.Proofs.Ytnpngahpadchpaa
open Go.RowKit Go.Shelf Go.Proofs Go.Proofs.PipeM Go.Proofs.PipeA
set_option maxRecDepth 100000

/-- What slide.Take leaves, and answers. -/
def TakeIs (w : World) (b : Nat) (ao : Option Addr) (r : RS × List Int × Nat × List Int) (e : Ending) (w' : World) : Prop :=
  ∃ la lc ka kc, e = .returned (.tuple #[.slice la r.2.1.length lc, .agg #[.int .i64 ((r.2.2.1 : Nat) : Int), .slice ka r.2.2.2.length kc]]) ∧ RdA w' b ao r.1 ∧ IntsAt w' la r.2.1 ∧ IntsAt w' ka r.2.2.2 ∧
    (∀ g off, la = some ⟨g, off, none⟩ → w.heap.size ≤ g) ∧ (∀ g off, ka = some ⟨g, off, none⟩ → w.heap.size ≤ g) ∧ r.2.1.length ≤ lc ∧ r.2.2.2.length ≤ kc ∧ Keeps [b] w w'

theorem takeIs_none {w w' : World} {b : Nat} {ao : Option Addr} {s : RS} (h : RdA w' b ao s) (hk : Keeps [b] w w') :
    TakeIs w b ao (s, [], 0, []) (.returned (.tuple #[.slice none 0 0, .agg #[.int .i64 0, .slice none 0 0]])) w' :=
  ⟨none, 0, none, 0, rfl, h, (fun j hj => by simp at hj), (fun j hj => by simp at hj), (fun _ _ h => by cases h), (fun _ _ h => by cases h), Nat.le_refl _, Nat.le_refl _, hk⟩

theorem Keeps.mono {bs bs' : List Nat} {w w' : World} (h : Keeps bs w w') (hs : ∀ x ∈ bs, x ∈ bs') : Keeps bs' w w' :=
  ⟨h.os, h.tape, h.output, h.size, fun k hk hn => h.block k hk (fun hm => hn (hs k hm))⟩

theorem alloc3h (w : World) (o1 o2 o3 : Obj) : (((w.alloc o1).alloc o2).alloc o3).heap[w.heap.size]? = some o1 ∧ (((w.alloc o1).alloc o2).alloc o3).heap[w.heap.size + 1]? = some o2 ∧ (((w.alloc o1).alloc o2).alloc o3).heap[w.heap.size + 1 + 1]? = some o3 ∧ (((w.alloc o1).alloc o2).alloc o3).heap.size = w.heap.size + 3 ∧ Below w.heap.size w (((w.alloc o1).alloc o2).alloc o3) := by
  have h1 := World.alloc_heap_new w o1
  have h2 := World.alloc_heap_new (w.alloc o1) o2
  have h3 := World.alloc_heap_new ((w.alloc o1).alloc o2) o3
  have z1 : (w.alloc o1).heap.size = w.heap.size + 1 := by simp
  have z2 : ((w.alloc o1).alloc o2).heap.size = w.heap.size + 1 + 1 := by simp
  rw [z1] at h2
  rw [z2] at h3
  refine ⟨?_, ?_, h3, by simp, (((Below.refl _ w).alloc (Nat.le_refl _) _).alloc (by simp) _).alloc (by simp; omega) _⟩
  · exact (Below.heap_alloc _ _ _ (by simp; omega)).trans ((Below.heap_alloc _ _ _ (by simp)).trans h1)
  · exact (Below.heap_alloc _ _ _ (by simp)).trans h2

/-- The results' cells, set to nothing. -/
def nilled (W : World) (B1 B2 : Nat) : World := ((W.setCell ⟨B1, 0, none⟩ (.slice none 0 0)).setCell ⟨B2, 0, none⟩ (.int .i64 0)).setCell ⟨B2, 1, none⟩ (.slice none 0 0)
theorem nilled_is {W : World} {B1 B2 : Nat} {x0 x1 x2 : Value} (hne : B1 ≠ B2) (h0 : W.cell? ⟨B1, 0, none⟩ = some x0) (h1 : W.cell? ⟨B2, 0, none⟩ = some x1) (h2 : W.cell? ⟨B2, 1, none⟩ = some x2) :
    Keeps [B1, B2] W (nilled W B1 B2) ∧ (nilled W B1 B2).cell? ⟨B1, 0, none⟩ = some (.slice none 0 0) ∧ (nilled W B1 B2).cell? ⟨B2, 0, none⟩ = some (.int .i64 0) ∧ (nilled W B1 B2).cell? ⟨B2, 1, none⟩ = some (.slice none 0 0) := by
  unfold nilled
  refine ⟨?_, ?_, ?_, ?_⟩
  · exact (((keeps_setCell W B1 0 _).mono (by simp)).trans ((keeps_setCell _ B2 0 _).mono (by simp))).trans ((keeps_setCell _ B2 1 _).mono (by simp))
  · rw [World.cell?_setCell_other _ _ _ _ (by simp), World.cell?_setCell_other _ _ _ _ (by intro e; cases e; exact hne rfl)]
    exact World.cell?_setCell_same' _ _ _ (by rw [h0]; rfl)
  · rw [World.cell?_setCell_other _ _ _ _ (by simp)]
    exact World.cell?_setCell_same' _ _ _ (by rw [World.cell?_setCell_other _ _ _ _ (by intro e; cases e; exact hne rfl), h1]; rfl)
  · exact World.cell?_setCell_same' _ _ _ (by rw [World.cell?_setCell_other _ _ _ _ (by simp), World.cell?_setCell_other _ _ _ _ (by simp), h2]; rfl)

set_option maxHeartbeats 800000 in
theorem cSTake_len (b : Nat) (ao : Option Addr) (s : RS) (n : Int) (w : World) (h : RdA w b ao s) (ha : ∀ g off, ao = some ⟨g, off, none⟩ → g < w.heap.size) (hn : lenOk n = false) :
    Calls Try.prog 20 #[.pointer (some ⟨b, 0, none⟩), .int .i64 n] w (TakeIs w b ao (s.give 1, [], 0, [])) := by
  have HI := fun W => Lib.hid (cIsLen n W)
  rw [hn] at HI
  have H := Lib.hid h
  have hb := h.lt
  clear h hn
  go_enter Try.func20, Try.ntmps20
  go_wp2_with (go_at_call 41; refine (HI _).out.mono ?_; rintro e w1 ⟨rfl, rfl⟩)
  obtain ⟨h1, h2, h3, hz, hbl⟩ := alloc3h w (.cells #[.pointer (some ⟨b, 0, none⟩)] 39) (.cells #[.slice none 0 0] 22) (.cells #[.int .i64 0, .slice none 0 0] 24)
  generalize ((w.alloc (.cells #[.pointer (some ⟨b, 0, none⟩)] 39)).alloc (.cells #[.slice none 0 0] 22)).alloc (.cells #[.int .i64 0, .slice none 0 0] 24) = w3 at h1 h2 h3 hz hbl ⊢
  have HG := Lib.hid (aGive b ao s 1 w3 (H.out.keeps (keeps_of_below hbl []) (by simp) (by simp)))
  refine HG.out.mono ?_
  rintro e w4 ⟨rfl, hr4, hk4⟩
  have c0 := (hk4.cell (p := ⟨w.heap.size + 1, 0, none⟩) (by show w.heap.size + 1 < _; omega) (by simp; omega)).trans (cell_of_heap h2 0)
  have c1 := (hk4.cell (p := ⟨w.heap.size + 1 + 1, 0, none⟩) (by show w.heap.size + 1 + 1 < _; omega) (by simp; omega)).trans (cell_of_heap h3 0)
  have c2 := (hk4.cell (p := ⟨w.heap.size + 1 + 1, 1, none⟩) (by show w.heap.size + 1 + 1 < _; omega) (by simp; omega)).trans (cell_of_heap h3 1)
  have f0 := (hk4.frozen (p := ⟨w.heap.size + 1, 0, none⟩) (by show w.heap.size + 1 < _; omega) (by simp; omega)).trans (frozen_of_heap h2 0)
  have f1 := (hk4.frozen (p := ⟨w.heap.size + 1 + 1, 0, none⟩) (by show w.heap.size + 1 + 1 < _; omega) (by simp; omega)).trans (frozen_of_heap h3 0)
  have f2 := (hk4.frozen (p := ⟨w.heap.size + 1 + 1, 1, none⟩) (by show w.heap.size + 1 + 1 < _; omega) (by simp; omega)).trans (frozen_of_heap h3 1)
  simp at c0 c1 c2
  obtain ⟨kn, y0, y1, y2⟩ := nilled_is (by omega) c0 c1 c2
  have HF : Hid (TakeIs w b ao (s.give 1, [], 0, []) (.returned (.tuple #[.slice none 0 0, .agg #[.int .i64 0, .slice none 0 0]])) (nilled w4 (w.heap.size + 1) (w.heap.size + 1 + 1))) := by
    refine takeIs_none (hr4.keeps kn (by simp; omega) ?_) ?_
    · intro g off hh; have := ha g off hh; simp; omega
    · exact ((keeps_of_below hbl [b]).trans hk4).trans_new kn (by intro x hx; simp at hx; right; omega)
  unfold nilled at y0 y1 y2 HF
  clear hr4 hk4 kn hbl h1 h2 h3
  go_wp2_with fail
  refine bodyPost_ret (v := .tuple #[.slice none 0 0, .agg #[.int .i64 0, .slice none 0 0]]) ?res rfl ?_
  · simp [results, Try.results20, go_sem, y0, y1, y2]
  · exact HF.out

set_option maxHeartbeats 800000 in
theorem cSTake_pow (b : Nat) (ao : Option Addr) (s : RS) (n : Nat) (w : World) (h : RdA w b ao s) (ha : ∀ g off, ao = some ⟨g, off, none⟩ → g < w.heap.size) (hn : lenOk n = true) (hn2 : n ≤ 1024) (hp : powOk n ((s.takeV 2 : Nat) : Int) = false) :
    Calls Try.prog 20 #[.pointer (some ⟨b, 0, none⟩), .int .i64 n] w (TakeIs w b ao ((s.takeS 2).give 2, [], 0, [])) := by
  have HI := fun W => Lib.hid (cIsLen n W)
  rw [hn] at HI
  have HP := fun W => Lib.hid (cIsPow n ((s.takeV 2 : Nat) : Int) W (by omega))
  rw [hp] at HP
  have H := Lib.hid h
  have hb := h.lt
  have hv : s.takeV 2 < 2 ^ 2 := takeV_ltn s 2 (by omega)
  clear h hn hp
  go_enter Try.func20, Try.ntmps20
  go_wp2_with (go_at_call 41; refine (HI _).out.mono ?_; rintro e w1 ⟨rfl, rfl⟩)
  obtain ⟨h1, h2, h3, hz, hbl⟩ := alloc3h w (.cells #[.pointer (some ⟨b, 0, none⟩)] 39) (.cells #[.slice none 0 0] 22) (.cells #[.int .i64 0, .slice none 0 0] 24)
  generalize ((w.alloc (.cells #[.pointer (some ⟨b, 0, none⟩)] 39)).alloc (.cells #[.slice none 0 0] 22)).alloc (.cells #[.int .i64 0, .slice none 0 0] 24) = w3 at h1 h2 h3 hz hbl ⊢
  have HT := Lib.hid (aTake b ao s 2 w3 (H.out.keeps (keeps_of_below hbl []) (by simp) (by simp)))
  refine HT.out.mono ?_
  rintro e wt ⟨rfl, hrt, hkt⟩
  have b0 : wt.cell? ⟨w.heap.size, 0, none⟩ = some (.pointer (some ⟨b, 0, none⟩)) := (hkt.cell (p := ⟨w.heap.size, 0, none⟩) (by show w.heap.size < _; omega) (by simp; omega)).trans (cell_of_heap h1 0)
  have HG := Lib.hid (aGive b ao (s.takeS 2) 2 wt hrt)
  have hwr : IntKind.i64.wrap ((s.takeV 2 : Nat) : Int) = ((s.takeV 2 : Nat) : Int) := IntWalk.i64_in _ ⟨by omega, by omega⟩
  generalize s.takeV 2 = v at HP hv hwr ⊢
  go_wp2_with (go_at_call 42; refine (HP _).out.mono ?_; rintro e w9 ⟨rfl, rfl⟩)
  refine HG.out.mono ?_
  rintro e w4 ⟨rfl, hr4, hk4'⟩
  have hk4 := hkt.trans hk4'
  have c0 := (hk4.cell (p := ⟨w.heap.size + 1, 0, none⟩) (by show w.heap.size + 1 < _; omega) (by simp; omega)).trans (cell_of_heap h2 0)
  have c1 := (hk4.cell (p := ⟨w.heap.size + 1 + 1, 0, none⟩) (by show w.heap.size + 1 + 1 < _; omega) (by simp; omega)).trans (cell_of_heap h3 0)
  have c2 := (hk4.cell (p := ⟨w.heap.size + 1 + 1, 1, none⟩) (by show w.heap.size + 1 + 1 < _; omega) (by simp; omega)).trans (cell_of_heap h3 1)
  have f0 := (hk4.frozen (p := ⟨w.heap.size + 1, 0, none⟩) (by show w.heap.size + 1 < _; omega) (by simp; omega)).trans (frozen_of_heap h2 0)
  have f1 := (hk4.frozen (p := ⟨w.heap.size + 1 + 1, 0, none⟩) (by show w.heap.size + 1 + 1 < _; omega) (by simp; omega)).trans (frozen_of_heap h3 0)
  have f2 := (hk4.frozen (p := ⟨w.heap.size + 1 + 1, 1, none⟩) (by show w.heap.size + 1 + 1 < _; omega) (by simp; omega)).trans (frozen_of_heap h3 1)
  simp at c0 c1 c2
  obtain ⟨kn, y0, y1, y2⟩ := nilled_is (by omega) c0 c1 c2
  have HF : Hid (TakeIs w b ao ((s.takeS 2).give 2, [], 0, []) (.returned (.tuple #[.slice none 0 0, .agg #[.int .i64 0, .slice none 0 0]])) (nilled w4 (w.heap.size + 1) (w.heap.size + 1 + 1))) := by
    refine takeIs_none (hr4.keeps kn (by simp; omega) ?_) ?_
    · intro g off hh; have := ha g off hh; simp; omega
    · exact ((keeps_of_below hbl [b]).trans hk4).trans_new kn (by intro x hx; simp at hx; right; omega)
  unfold nilled at y0 y1 y2 HF
  clear hr4 hk4 kn hbl h1 h2 h3 hkt hk4' hrt
  go_wp2_with fail
  refine bodyPost_ret (v := .tuple #[.slice none 0 0, .agg #[.int .i64 0, .slice none 0 0]]) ?res rfl ?_
  · simp [results, Try.results20, go_sem, y0, y1, y2]
  · exact HF.out
end Go.Proofs.Ytnpngahpadchpaa

namespace Go.Proofs.Ytnpngahpadchpaa
open Go.RowKit Go.Shelf Go.Proofs Go.Proofs.PipeM Go.Proofs.PipeA
set_option maxRecDepth 100000

attribute [local go_sem] Oper.semAt_some

/-- The frame behind the making of the list and of the parameters. -/
def takeA (w : World) (b n p m LB KB BX : Nat) : Array Value :=
  #[.pointer (some ⟨b, 0, none⟩), .int .i64 (n : Int), .pointer (some ⟨w.heap.size, 0, none⟩), undef, .pointer (some ⟨w.heap.size + 1, 0, none⟩), .pointer (some ⟨w.heap.size + 1 + 1, 0, none⟩), .int .i64 (p : Int), .slice (some ⟨LB, 0, none⟩) n n, .pointer (some ⟨BX, 0, none⟩), undef, undef, undef,
    .int .i64 (n : Int), .bool true, .bool false, undef, undef, undef, .pointer (some ⟨b, 0, none⟩), .int .u64 (p : Int), .int .i64 (p : Int), .int .i64 (n : Int), .int .i64 (p : Int), .bool true, .bool false, undef, undef, undef, .int .i64 (n : Int), .slice (some ⟨LB, 0, none⟩) n n, .int .i64 (p : Int), .int .i64 (m : Int), .slice (some ⟨KB, 0, none⟩) m m,
    undef, undef, undef, undef, undef, undef, undef, undef, undef, undef, undef, undef, undef, undef, undef, undef, undef, undef, undef, undef, undef, undef, undef, undef, undef, undef, undef, undef, undef, undef, undef, undef, undef, undef, undef]

/-- What is made there. -/
def Made (wt : World) (m : Nat) (csL csK : Array Value) (LB KB BX : Nat) (W : World) : Prop :=
  W.heap[LB]? = some (.cells csL 3) ∧ W.heap[KB]? = some (.cells csK 3) ∧ W.heap[BX]? = some (.cells #[.slice (some ⟨KB, 0, none⟩) m m] 22) ∧ wt.heap.size ≤ LB ∧ wt.heap.size ≤ KB ∧ wt.heap.size ≤ BX ∧ LB ≠ KB ∧ LB ≠ BX ∧ KB ≠ BX ∧ Below wt.heap.size wt W

theorem KeysAt.keeps {W W' : World} {H m : Nat} {f : Nat → Int} {bs : List Nat} (h : KeysAt W H m f) (hk : Keeps bs W W') (hn : H ∉ bs) (hlt : H < W.heap.size) : KeysAt W' H m f :=
  fun j hj => ⟨(hk.cell (p := ⟨H, j, none⟩) hlt hn).trans (h j hj).1, (hk.frozen (p := ⟨H, j, none⟩) hlt hn).trans (h j hj).2⟩
theorem KeysAt.set {W : World} {H m x : Nat} {f : Nat → Int} (h : KeysAt W H m f) (hx : x < m) (v : Int) : KeysAt (W.setCell ⟨H, x, none⟩ (.int .i64 v)) H m (fun j => if j = x then v else f j) := by
  intro j hj
  rw [World.frozen?_setCell]
  by_cases e : j = x
  · subst e
    rw [World.cell?_setCell_same' _ _ _ (by rw [(h j hj).1]; rfl)]
    exact ⟨by simp, (h j hj).2⟩
  · rw [World.cell?_setCell_other _ _ _ _ (by intro e2; cases e2; exact e rfl)]
    simp only [if_neg e]
    exact h j hj
theorem KeysAt.congr {W : World} {H m : Nat} {f g : Nat → Int} (h : KeysAt W H m f) (he : ∀ j, j < m → g j = f j) : KeysAt W H m g :=
  fun j hj => by rw [he j hj]; exact h j hj
theorem run_err {size : Nat} {t : TS} {l : List Nat} (hl : l ≠ []) (h : (t.run size l).ok = true) : (t.run size l).s.err = 0 := by
  rcases List.eq_nil_or_concat l with rfl | ⟨l', x, rfl⟩
  · exact absurd rfl hl
  · rw [List.concat_eq_append, run_snoc] at h ⊢
    simp [TS.step] at h
    exact h.2

/-- The frame of a round. -/
def roundA (B0 B1 B2 b n p m size LB KB BX c t x : Nat) (v39 v40 v41 v42 v43 v44 : Value) : Array Value :=
  #[.pointer (some ⟨b, 0, none⟩), .int .i64 (n : Int), .pointer (some ⟨B0, 0, none⟩), undef, .pointer (some ⟨B1, 0, none⟩), .pointer (some ⟨B2, 0, none⟩), .int .i64 (p : Int), .slice (some ⟨LB, 0, none⟩) n n, .pointer (some ⟨BX, 0, none⟩), .int .i64 (x : Int), (.slice (some ⟨LB, x * size, none⟩) size (n - x * size)), undef,
    .int .i64 (n : Int), .bool true, .bool false, undef, undef, undef, .pointer (some ⟨b, 0, none⟩), .int .u64 (p : Int), .int .i64 (p : Int), .int .i64 (n : Int), .int .i64 (p : Int), .bool true, .bool false, undef, undef, undef, .int .i64 (n : Int), .slice (some ⟨LB, 0, none⟩) n n, .int .i64 (p : Int), .int .i64 (m : Int), .slice (some ⟨KB, 0, none⟩) m m,
    .slice (some ⟨LB, 0, none⟩) n n, .int .i64 (p : Int), .agg #[.slice (some ⟨LB, 0, none⟩) n n, .int .i64 (p : Int)], .func (.func 76) #[] #[.pointer (some ⟨c, 0, none⟩), .pointer (some ⟨t, 0, none⟩)], .int .i64 (x : Int), (.slice (some ⟨LB, x * size, none⟩) size (n - x * size)),
    v39, v40, v41, v42, v43, v44, undef, undef, undef, undef, undef, undef, undef, undef, undef, undef, undef, undef, undef, undef, undef, undef, undef, undef, undef, undef, undef, undef, undef]

/-- Where the taking stands behind these parts. -/
def runP (size : Nat) (s0 : RS) {m : Nat} (pre : List (Fin m)) : TS := (⟨s0, true, fun _ => 0, fun _ => 0⟩ : TS).run size (pre.map (·.val))
theorem runP_snoc (size : Nat) (s0 : RS) {m : Nat} (pre : List (Fin m)) (x : Fin m) : runP size s0 (pre ++ [x]) = (runP size s0 pre).step size x.val := by
  unfold runP; rw [List.map_append]; exact run_snoc _ _ _ _

/-- What abides in a round, and between rounds. -/
def TakeI (b : Nat) (ao : Option Addr) (size n LB KB : Nat) (s0 : RS) (W6 : World) {m : Nat} (pre : List (Fin m)) (W : World) : Prop :=
  (runP size s0 pre).ok = true ∧ (RdA W b ao (runP size s0 pre).s ∧ (Keeps [b, LB, KB] W6 W ∧ (KeysAt W KB m (runP size s0 pre).keys ∧ KeysAt W LB n (runP size s0 pre).list)))
/-- What is left where a part failed. -/
def TakeX (b : Nat) (ao : Option Addr) (size LB KB B1 B2 : Nat) (s0 : RS) (W6 : World) {m : Nat} (cd : Code) (pre : List (Fin m)) (W : World) : Prop :=
  (cd = .ret ∧ ∃ (pre' : List (Fin m)) (x : Fin m), pre = pre' ++ [x] ∧ (runP size s0 pre').ok = true ∧ (runP size s0 pre).s.err ≠ 0) ∧ (RdA W b ao (runP size s0 pre).s ∧ (Keeps [b, LB, KB, B1, B2] W6 W ∧
    ((W.cell? ⟨B1, 0, none⟩ = some (.slice none 0 0) ∧ W.frozen? ⟨B1, 0, none⟩ = false) ∧ ((W.cell? ⟨B2, 0, none⟩ = some (.int .i64 0) ∧ W.frozen? ⟨B2, 0, none⟩ = false) ∧ (W.cell? ⟨B2, 1, none⟩ = some (.slice none 0 0) ∧ W.frozen? ⟨B2, 1, none⟩ = false)))))

def setR (W : World) (B1 B2 : Nat) (v0 v1 v2 : Value) : World := ((W.setCell ⟨B1, 0, none⟩ v0).setCell ⟨B2, 0, none⟩ v1).setCell ⟨B2, 1, none⟩ v2
theorem setR_is {W : World} {B1 B2 : Nat} {x0 x1 x2 : Value} (v0 v1 v2 : Value) (hne : B1 ≠ B2) (h0 : W.cell? ⟨B1, 0, none⟩ = some x0) (h1 : W.cell? ⟨B2, 0, none⟩ = some x1) (h2 : W.cell? ⟨B2, 1, none⟩ = some x2) :
    Keeps [B1, B2] W (setR W B1 B2 v0 v1 v2) ∧ (setR W B1 B2 v0 v1 v2).cell? ⟨B1, 0, none⟩ = some v0 ∧ (setR W B1 B2 v0 v1 v2).cell? ⟨B2, 0, none⟩ = some v1 ∧ (setR W B1 B2 v0 v1 v2).cell? ⟨B2, 1, none⟩ = some v2 := by
  unfold setR
  refine ⟨?_, ?_, ?_, ?_⟩
  · exact (((keeps_setCell W B1 0 _).mono (by simp)).trans ((keeps_setCell _ B2 0 _).mono (by simp))).trans ((keeps_setCell _ B2 1 _).mono (by simp))
  · rw [World.cell?_setCell_other _ _ _ _ (by simp), World.cell?_setCell_other _ _ _ _ (by intro e; cases e; exact hne rfl)]
    exact World.cell?_setCell_same' _ _ _ (by rw [h0]; rfl)
  · rw [World.cell?_setCell_other _ _ _ _ (by simp)]
    exact World.cell?_setCell_same' _ _ _ (by rw [World.cell?_setCell_other _ _ _ _ (by intro e; cases e; exact hne rfl), h1]; rfl)
  · exact World.cell?_setCell_same' _ _ _ (by rw [World.cell?_setCell_other _ _ _ _ (by simp), World.cell?_setCell_other _ _ _ _ (by simp), h2]; rfl)

theorem size_of {n p m size : Nat} (hm : m = 2 ^ p) (hsp : n = size * m) (hm1 : 1 ≤ m) : n / 2 ^ p = size := by
  rw [← hm, hsp]; exact Nat.mul_div_cancel _ hm1

theorem stop_body {n p m size : Nat} {s0 : RS} {pre : List (Fin m)} {x : Fin m} (hm : m = 2 ^ p) (hsp : n = size * m) (hm1 : 1 ≤ m) (hok : (runP size s0 pre).ok = true) (herr : (runP size s0 (pre ++ [x])).s.err ≠ 0)
    (hS : (pre ++ [x]).map (·.val) = List.range (pre ++ [x]).length) : s0.slideB n p = ((runP size s0 (pre ++ [x])).s, [], 0, []) := by
  rw [List.map_append, List.length_append, List.length_singleton, List.range_succ] at hS
  obtain ⟨h1, h2⟩ := List.append_inj hS (by simp)
  have hx : x.val = pre.length := by simpa using h2
  have hq : pre.length + 1 ≤ m := by have := x.2; omega
  have hr : runP size s0 pre = (⟨s0, true, fun _ => 0, fun _ => 0⟩ : TS).run size (List.range' 0 pre.length) := by unfold runP; rw [h1, List.range_eq_range']
  rw [runP_snoc, hx, hr] at herr ⊢
  rw [hr] at hok
  have hb := body_stop size (m - (pre.length + 1)) pre.length 0 ⟨s0, true, fun _ => 0, fun _ => 0⟩ hok (by rw [Nat.zero_add]; exact herr)
  rw [show pre.length + 1 + (m - (pre.length + 1)) = m by omega, Nat.zero_add] at hb
  unfold RS.slideB
  rw [size_of hm hsp hm1, ← hm, hb, if_pos herr]

theorem done_body {n p m size : Nat} {s0 : RS} {xs : List (Fin m)} (hm : m = 2 ^ p) (hsp : n = size * m) (hm1 : 1 ≤ m) (hok : (runP size s0 xs).ok = true) (hS : xs.map (·.val) = List.range m) :
    s0.slideB n p = ((runP size s0 xs).s, (List.range n).map (runP size s0 xs).list, p, (List.range m).map (runP size s0 xs).keys) := by
  have hr : runP size s0 xs = (⟨s0, true, fun _ => 0, fun _ => 0⟩ : TS).run size (List.range' 0 m) := by unfold runP; rw [hS, List.range_eq_range']
  have he : (runP size s0 xs).s.err = 0 := run_err (by rw [hS]; intro h; have := congrArg List.length h; simp at this; omega) hok
  rw [hr] at hok he ⊢
  have hb := body_run size m 0 ⟨s0, true, fun _ => 0, fun _ => 0⟩ hok
  simp only [Nat.zero_mul, Nat.zero_add] at hb
  unfold RS.slideB
  rw [size_of hm hsp hm1, ← hm, hb, if_neg (by simp [he]), hsp, Nat.mul_comm size m]

theorem ints_of_keys {W : World} {H m : Nat} {f : Nat → Int} (h : KeysAt W H m f) (hlt : H < W.heap.size) : IntsAt W (some ⟨H, 0, none⟩) ((List.range m).map f) := by
  intro j hj
  have hjm : j < m := by simpa using hj
  refine ⟨H, 0, rfl, hlt, ?_⟩
  rw [Nat.zero_add, (h j hjm).1]
  simp

set_option maxHeartbeats 6400000 in
theorem cSTake_main (b : Nat) (ao : Option Addr) (s : RS) (n p m size : Nat) (w : World) (h : RdA w b ao s) (ha : ∀ g off, ao = some ⟨g, off, none⟩ → g < w.heap.size) (hn : lenOk n = true) (hn2 : n ≤ 1024) (hp : powOk n (p : Int) = true) (hv : s.takeV 2 = p)
    (h3 : p ≤ 3) (hm : m = 2 ^ p) (hsp : n = size * m) (hs : 1 ≤ size) :
    Calls Try.prog 20 #[.pointer (some ⟨b, 0, none⟩), .int .i64 n] w (TakeIs w b ao ((s.takeS 2).slideB n p)) := by
  have hm8 : m ≤ 8 := by rw [hm]; exact Nat.le_trans (Nat.pow_le_pow_right (by decide) h3) (by decide)
  have hm1 : 1 ≤ m := by rw [hm]; exact Nat.two_pow_pos p
  have hs2 : size ≤ 1024 := by
    have : size * 1 ≤ size * m := Nat.mul_le_mul_left size hm1
    omega
  have HI := fun W => Lib.hid (cIsLen n W)
  rw [hn] at HI
  have HP := fun W => Lib.hid (cIsPow n (p : Int) W (by omega))
  rw [hp] at HP
  have H := Lib.hid h
  have hb := h.lt
  obtain ⟨csL, hcsL, hmkL⟩ := makeInts n (by omega)
  obtain ⟨csK, hcsK, hmkK⟩ := makeInts m (by omega)
  have E4 : IntKind.i64.wrap ((2 : Int) ^ p) = (m : Int) := by
    have : ((2 : Int) ^ p) = ((2 ^ p : Nat) : Int) := by rw [Int.natCast_pow]; rfl
    rw [this, ← hm]
    exact IntWalk.i64_in _ ⟨by omega, by omega⟩
  have E5 : wrap64 ((2 : Int) ^ p) = (m : Int) := by
    have : ((2 : Int) ^ p) = ((2 ^ p : Nat) : Int) := by rw [Int.natCast_pow]; rfl
    rw [this, ← hm]
    exact IntWalk.wrap64_in _ ⟨by omega, by omega⟩
  have HSP := Lib.hid hsp
  have HM := Lib.hid hm
  have HV := Lib.hid hv
  have HCL := Lib.hid hcsL
  have HCK := Lib.hid hcsK
  clear h hn hp hsp hm hv hcsL hcsK
  refine (callsIn_wide (n := 5)).1 ?_
  refine callsIn_of_wp_marks Try.func20 rfl trivial ?_ rfl
  simp only [Try.ntmps20, List.size_toArray, List.length_cons, List.length_nil, Nat.reduceAdd, Nat.reduceSub, Array.replicate_succ, Array.replicate_zero, List.push_toArray, List.append_toArray, List.nil_append, List.cons_append]
  gi_wp2_with fail
  refine ⟨trivial, (callsIn_wide.2 (HI _).out).mono ?_⟩
  obtain ⟨h1, h2, h3', hz, hbl⟩ := alloc3h w (.cells #[.pointer (some ⟨b, 0, none⟩)] 39) (.cells #[.slice none 0 0] 22) (.cells #[.int .i64 0, .slice none 0 0] 24)
  generalize ((w.alloc (.cells #[.pointer (some ⟨b, 0, none⟩)] 39)).alloc (.cells #[.slice none 0 0] 22)).alloc (.cells #[.int .i64 0, .slice none 0 0] 24) = w3 at h1 h2 h3' hz hbl ⊢
  rintro e wq ⟨rfl, rfl⟩
  have b0 : w3.cell? ⟨w.heap.size, 0, none⟩ = some (.pointer (some ⟨b, 0, none⟩)) := cell_of_heap h1 0
  have HT := Lib.hid (aTake b ao s 2 w3 (H.out.keeps (keeps_of_below hbl []) (by simp) (by simp)))
  rw [HV.out] at HT
  gi_wp2_with fail
  refine ⟨trivial, (callsIn_wide.2 HT.out).mono ?_⟩
  rintro e wt ⟨rfl, hrt, hkt⟩
  have hwr : IntKind.i64.wrap (p : Int) = (p : Int) := IntWalk.i64_in _ ⟨by omega, by omega⟩
  gi_wp2_with fail
  refine ⟨trivial, (callsIn_wide.2 (HP _).out).mono ?_⟩
  rintro e wx ⟨rfl, rfl⟩
  gi_wp2_with fail
  refine Code.wpIn_mono (Q := fun e a W => e = .normal ∧ ∃ LB KB BX, a = { tmps := takeA w b n p m LB KB BX, defers := [] } ∧ Made wt m csL csK LB KB BX W) ?mono ?reg
  case reg =>
    gi_region
    · obtain ⟨a1, a2, a3, _, a5⟩ := alloc3h wt (.cells csL 3) (.cells csK 3) (.cells #[.slice (some ⟨wt.heap.size + 1, 0, none⟩) m m] 22)
      exact ⟨rfl, wt.heap.size, wt.heap.size + 1, wt.heap.size + 1 + 1, rfl, a1, a2, a3, by omega, by omega, by omega, by omega, by omega, by omega, a5.drew⟩
    · obtain ⟨a1, a2, a3, _, a5⟩ := alloc3h wt (.cells csL 3) (.cells #[.slice (some ⟨wt.heap.size + 1 + 1, 0, none⟩) m m] 22) (.cells csK 3)
      exact ⟨rfl, wt.heap.size, wt.heap.size + 1 + 1, wt.heap.size + 1, rfl, a1, a3, a2, by omega, by omega, by omega, by omega, by omega, by omega, a5.drew⟩
    · obtain ⟨a1, a2, a3, _, a5⟩ := alloc3h wt (.cells csK 3) (.cells csL 3) (.cells #[.slice (some ⟨wt.heap.size, 0, none⟩) m m] 22)
      exact ⟨rfl, wt.heap.size + 1, wt.heap.size, wt.heap.size + 1 + 1, rfl, a2, a1, a3, by omega, by omega, by omega, by omega, by omega, by omega, a5.drew⟩
    · obtain ⟨a1, a2, a3, _, a5⟩ := alloc3h wt (.cells csK 3) (.cells #[.slice (some ⟨wt.heap.size, 0, none⟩) m m] 22) (.cells csL 3)
      exact ⟨rfl, wt.heap.size + 1 + 1, wt.heap.size, wt.heap.size + 1, rfl, a3, a1, a2, by omega, by omega, by omega, by omega, by omega, by omega, a5.drew⟩
    · obtain ⟨a1, a2, a3, _, a5⟩ := alloc3h wt (.cells #[.slice (some ⟨wt.heap.size + 1 + 1, 0, none⟩) m m] 22) (.cells csL 3) (.cells csK 3)
      exact ⟨rfl, wt.heap.size + 1, wt.heap.size + 1 + 1, wt.heap.size, rfl, a2, a3, a1, by omega, by omega, by omega, by omega, by omega, by omega, a5.drew⟩
    · obtain ⟨a1, a2, a3, _, a5⟩ := alloc3h wt (.cells #[.slice (some ⟨wt.heap.size + 1, 0, none⟩) m m] 22) (.cells csK 3) (.cells csL 3)
      exact ⟨rfl, wt.heap.size + 1 + 1, wt.heap.size + 1, wt.heap.size, rfl, a3, a2, a1, by omega, by omega, by omega, by omega, by omega, by omega, a5.drew⟩
  case mono =>
    rintro e a W5 ⟨rfl, LB, KB, BX, rfl, hL, hK, hX, l1, k1, x1, n1, n2, n3, hb5⟩
    unfold takeA
    have HPT := Lib.hid (cParts (some ⟨LB, 0, none⟩) n n p W5 h3)
    have hztt := hkt.size
    have HK5 : Hid (Keeps [b] w W5) := ((keeps_of_below hbl [b]).trans hkt).trans (keeps_of_below hb5 [b])
    have HRD5 := Lib.hid (hrt.keeps (keeps_of_below hb5 []) (by simp) (by simp))
    have hz5 := hb5.size
    have hK5 : ∀ k, k < wt.heap.size → k ≠ b → W5.heap[k]? = w3.heap[k]? ∨ w3.heap.size ≤ k := fun k hk hkb => by
      rcases Nat.lt_or_ge k w3.heap.size with h | h
      · exact Or.inl ((hb5.block k hk).trans (hkt.block k h (by simpa using hkb)))
      · exact Or.inr h
    have g0 : W5.heap[w.heap.size]? = some (.cells #[.pointer (some ⟨b, 0, none⟩)] 39) := by
      rcases hK5 w.heap.size (by omega) (by omega) with h | h
      · exact h.trans h1
      · omega
    have g1 : W5.heap[w.heap.size + 1]? = some (.cells #[.slice none 0 0] 22) := by
      rcases hK5 (w.heap.size + 1) (by omega) (by omega) with h | h
      · exact h.trans h2
      · omega
    have g2 : W5.heap[w.heap.size + 1 + 1]? = some (.cells #[.int .i64 0, .slice none 0 0] 24) := by
      rcases hK5 (w.heap.size + 1 + 1) (by omega) (by omega) with h | h
      · exact h.trans h3'
      · omega
    have hl5 : LB < W5.heap.size := (Array.getElem?_eq_some_iff.1 hL).1
    have hk5 : KB < W5.heap.size := (Array.getElem?_eq_some_iff.1 hK).1
    have hx5 : BX < W5.heap.size := (Array.getElem?_eq_some_iff.1 hX).1
    clear hK5 hkt hbl hrt h1 h2 h3' HT hb5 hmkL hmkK E4 E5 HI HP b0
    gi_wp2_with fail
    refine ⟨trivial, (callsIn_wide.2 HPT.out).mono ?_⟩
    rintro e W6 ⟨c, t, rfl, hpa, hc1, ht1, hc2, ht2, hb6⟩
    unfold partsF
    gi_wp2_with fail
    have hseq := each1_stops (n := 4) LB 0 n n p size m c t W6 (by omega) h3 HM.out HSP.out hs hn2 (Nat.le_refl _) hpa hc2 ht2
    have hz6 := hb6.size
    have q0 : W6.cell? ⟨w.heap.size, 0, none⟩ = some (.pointer (some ⟨b, 0, none⟩)) := (hb6.cell (p := ⟨w.heap.size, 0, none⟩) (by show w.heap.size < _; omega)).trans (cell_of_heap g0 0)
    have r0 : W6.cell? ⟨w.heap.size + 1, 0, none⟩ = some (.slice none 0 0) := (hb6.cell (p := ⟨w.heap.size + 1, 0, none⟩) (by show w.heap.size + 1 < _; omega)).trans (cell_of_heap g1 0)
    have r1 : W6.cell? ⟨w.heap.size + 1 + 1, 0, none⟩ = some (.int .i64 0) := (hb6.cell (p := ⟨w.heap.size + 1 + 1, 0, none⟩) (by show w.heap.size + 1 + 1 < _; omega)).trans (cell_of_heap g2 0)
    have r2 : W6.cell? ⟨w.heap.size + 1 + 1, 1, none⟩ = some (.slice none 0 0) := (hb6.cell (p := ⟨w.heap.size + 1 + 1, 1, none⟩) (by show w.heap.size + 1 + 1 < _; omega)).trans (cell_of_heap g2 1)
    have f0 : W6.frozen? ⟨w.heap.size + 1, 0, none⟩ = false := (hb6.frozen (p := ⟨w.heap.size + 1, 0, none⟩) (by show w.heap.size + 1 < _; omega)).trans (frozen_of_heap g1 0)
    have f1 : W6.frozen? ⟨w.heap.size + 1 + 1, 0, none⟩ = false := (hb6.frozen (p := ⟨w.heap.size + 1 + 1, 0, none⟩) (by show w.heap.size + 1 + 1 < _; omega)).trans (frozen_of_heap g2 0)
    have f2 : W6.frozen? ⟨w.heap.size + 1 + 1, 1, none⟩ = false := (hb6.frozen (p := ⟨w.heap.size + 1 + 1, 1, none⟩) (by show w.heap.size + 1 + 1 < _; omega)).trans (frozen_of_heap g2 1)
    have x0 : W6.cell? ⟨BX, 0, none⟩ = some (.slice (some ⟨KB, 0, none⟩) m m) := (hb6.cell (p := ⟨BX, 0, none⟩) (by show BX < _; omega)).trans (cell_of_heap hX 0)
    have HKEY : Hid (KeysAt W6 KB m (fun _ => 0)) := fun j hj => ⟨((hb6.cell (p := ⟨KB, j, none⟩) (by show KB < _; omega)).trans (cell_of_heap hK j)).trans (HCK.out j hj), (hb6.frozen (p := ⟨KB, j, none⟩) (by show KB < _; omega)).trans (frozen_of_heap hK j)⟩
    have HLST : Hid (KeysAt W6 LB n (fun _ => 0)) := fun j hj => ⟨((hb6.cell (p := ⟨LB, j, none⟩) (by show LB < _; omega)).trans (cell_of_heap hL j)).trans (HCL.out j hj), (hb6.frozen (p := ⟨LB, j, none⟩) (by show LB < _; omega)).trans (frozen_of_heap hL j)⟩
    have HRD6 := Lib.hid (HRD5.out.keeps (keeps_of_below hb6 []) (by simp) (by simp))
    have HK6 : Hid (Keeps [b] w W6) := HK5.out.trans (keeps_of_below hb6 [b])
    clear g0 g1 g2 hL hK hX hpa hb6 HCK HCL HRD5 HK5 HPT
    have hcb : c ≠ b := by omega
    have htb : t ≠ b := by omega
    generalize hB1 : w.heap.size + 1 = B1 at *
    generalize hB2 : B1 + 1 = B2 at *
    have hao6 : ∀ g off, ao = some ⟨g, off, none⟩ → g < W6.heap.size := fun g off h => by have := ha g off h; omega
    refine wpIn_rangeFunc_ownG rfl (by omega) (gf := 76) (lb := #[.pointer (some ⟨c, 0, none⟩), .pointer (some ⟨t, 0, none⟩)]) rfl trivial (enters_of Try.func76 (by kernel_rfl) rfl)
      hseq kpB_t (kpB_b hc2 ht2) (Below.refl _ _) (fun _ => rfl)
      (fun pre W => TakeI b ao size n LB KB (s.takeS 2) W6 pre W)
      (fun cd pre W => TakeX b ao size LB KB B1 B2 (s.takeS 2) W6 cd pre W)
      (own_and ((own_rda (by omega) hao6 _).and (own_keeps.and ((own_keys _).and (own_keys _)))))
      (fun cd => own_and ((own_rda (by omega) hao6 _).and (own_keeps.and ((own_cell ⟨B1, 0, none⟩ (fun _ => .slice none 0 0)).and ((own_cell ⟨B2, 0, none⟩ (fun _ => .int .i64 0)).and (own_cell ⟨B2, 1, none⟩ (fun _ => .slice none 0 0)))))))
      ⟨rfl, HRD6.out, Keeps.refl _ _, HKEY.out, HLST.out⟩
      (fun x => { tmps := roundA w.heap.size B1 B2 b n p m size LB KB BX c t x.val undef undef undef undef undef undef, defers := [] }) ?assign ?body ?done ?stop
    case assign =>
      intro l' x W K hK
      unfold encP partV
      unfold roundA at hK
      gi_wp2
      exact hK
    case body =>
      rintro l' pre ⟨x, hx⟩ W ⟨hok, hrd, hkW, hkey, hlst⟩ hpre
      have hmx : Try.prog.follows .mixedOrders = true := by kernel_rfl
      have hx1 : (x + 1) * size ≤ n := by
        rw [HSP.out, Nat.mul_comm size]
        exact Nat.mul_le_mul_right size hx
      have HSN := Lib.hid (runP_snoc size (s.takeS 2) pre ⟨x, hx⟩)
      have HOK := Lib.hid hok
      have HOKP := Lib.hid hok
      generalize runP size (s.takeS 2) pre = tt at hok hrd hkey hlst HSN HOK
      have hszW := hkW.size
      have HKW := Lib.hid hkW
      have q0W : W.cell? ⟨w.heap.size, 0, none⟩ = some (.pointer (some ⟨b, 0, none⟩)) := (hkW.cell (p := ⟨w.heap.size, 0, none⟩) (by show w.heap.size < _; omega) (by simp; omega)).trans q0
      have x0W : W.cell? ⟨BX, 0, none⟩ = some (.slice (some ⟨KB, 0, none⟩) m m) := (hkW.cell (p := ⟨BX, 0, none⟩) (by show BX < _; omega) (by simp; omega)).trans x0
      have HTK := Lib.hid (aTake b ao tt.s 5 W.drew (hrd.keeps (keeps_drew W) (by simp) (by simp)))
      have hk32 : tt.s.takeV 5 < 2 ^ 5 := takeV_ltn tt.s 5 (by omega)
      have HKEYW := Lib.hid hkey
      have HLSTW := Lib.hid hlst
      obtain ⟨k, hk⟩ : ∃ k, k = tt.s.takeV 5 := ⟨_, rfl⟩
      have HKE := Lib.hid hk
      rw [← hk] at HTK hk32
      have hwk : IntKind.i64.wrap (k : Int) = (k : Int) := IntWalk.i64_in _ ⟨by omega, by omega⟩
      have HCX : ∀ w5, Reads W.drew b ao (tt.s.takeS 5) w5 → w5.cell? ⟨BX, 0, none⟩ = some (.slice (some ⟨KB, 0, none⟩) m m) := fun w5 h => (h.2.cell (p := ⟨BX, 0, none⟩) (by show BX < W.heap.size; omega) (by simp; omega)).trans x0W
      have HCK : ∀ w5, Reads W.drew b ao (tt.s.takeS 5) w5 → w5.cell? ⟨KB, x, none⟩ = some (.int .i64 (tt.keys x)) ∧ w5.frozen? ⟨KB, x, none⟩ = false := fun w5 h =>
        ⟨(h.2.cell (p := ⟨KB, x, none⟩) (by show KB < W.heap.size; omega) (by simp; omega)).trans (HKEYW.out x hx).1, (h.2.frozen (p := ⟨KB, x, none⟩) (by show KB < W.heap.size; omega) (by simp; omega)).trans (HKEYW.out x hx).2⟩
      have HFN : ∀ w5, Reads W.drew b ao (tt.s.takeS 5) w5 → RdA (w5.setCell ⟨KB, x, none⟩ (.int .i64 (k : Int))) b ao (tt.s.takeS 5) ∧ Keeps [b, KB] W (w5.setCell ⟨KB, x, none⟩ (.int .i64 (k : Int))) ∧ KeysAt (w5.setCell ⟨KB, x, none⟩ (.int .i64 (k : Int))) KB m (putK x k tt.keys) := fun w5 h => by
        have kk : Keeps [b] W w5 := ((keeps_drew W).mono (by simp)).trans h.2
        refine ⟨h.1.keeps (keeps_setCell w5 KB x _) (by simp; omega) ?_, (kk.mono (by simp)).trans ((keeps_setCell w5 KB x _).mono (by simp)), ?_⟩
        · intro g off hh; have := ha g off hh; simp; omega
        · exact (HKEYW.out.keeps kk (by simp; omega) (by omega)).set hx k
      clear hrd hkW hkey hlst hok hk
      unfold roundA
      gi_wp2_with fail
      refine Code.wpIn_mono (Q := fun e a W7 => e = .normal ∧ a = { tmps := roundA w.heap.size B1 B2 b n p m size LB KB BX c t x (.slice (some ⟨KB, 0, none⟩) m m) (.int .i64 (x : Int)) (.pointer (some ⟨b, 0, none⟩)) (.int .u64 (k : Int)) (.int .i64 (k : Int)) (.pointer (some ⟨KB, x, none⟩)), defers := [] } ∧ RdA W7 b ao (tt.s.takeS 5) ∧ Keeps [b, KB] W W7 ∧ KeysAt W7 KB m (putK x k tt.keys)) ?mono12 ?reg12
      case reg12 =>
        refine regionR hmx (by kernel_rfl) ?_
        refine wpAnyIn_take (i := 1) (v := ?_) rfl rfl (by kernel_rfl) (by kernel_rfl) (by kernel_rfl) (fun _ _ _ h => by cases h.1) ⟨Or.inl ⟨by rfl, ?_⟩, fun _ => rfl⟩ ?_
        rotate_left
        · intro w9; go_simp; try with_reducible rfl
        refine wpAnyIn_ready (rs := [0, 2]) (by kernel_rfl) (by simp) ?_
        refine AllReadyIn.cons rfl (fun K hK => ?_) ?_
        · go_simp
          refine hK _ _ ?_
          clear hK K
          refine wpAnyIn_ready (rs := [2]) (by kernel_rfl) (by simp) ?_
          refine AllReadyIn.cons rfl (fun K hK => ?_) ?_
          · go_simp
            refine hK _ _ ?_
            clear hK K
            refine wpAnyIn_ready (rs := [3]) (by kernel_rfl) (by simp) ?_
            refine AllReadyIn.cons rfl (fun K hK => ?_) ?_
            · go_simp
              refine ⟨trivial, (callsIn_wide.2 HTK.out).mono ?_⟩
              rintro e w5 ⟨rfl, hr5⟩
              have u0 := HCX w5 hr5
              have u1 := (HCK w5 hr5).1
              have u2 := (HCK w5 hr5).2
              have HFI := Lib.hid (HFN w5 hr5)
              clear hr5
              refine hK _ _ ?_
              clear hK K
              refine wpAnyIn_take (i := 4) (v := ?_) rfl rfl (by kernel_rfl) (by kernel_rfl) (by kernel_rfl) (fun _ _ _ h => by cases h.1) ⟨Or.inl ⟨by rfl, ?_⟩, fun _ => rfl⟩ ?_
              rotate_left
              · intro w9; go_simp; try with_reducible rfl
              refine wpAnyIn_take (i := 5) (v := ?_) rfl rfl (by kernel_rfl) (by kernel_rfl) (by kernel_rfl) (fun _ _ _ h => by cases h.1) ⟨Or.inl ⟨by rfl, ?_⟩, fun _ => rfl⟩ ?_
              rotate_left
              · intro w9; go_simp; try with_reducible rfl
              refine wpAnyIn_ready (rs := [6]) (by kernel_rfl) (by simp) ?_
              refine AllReadyIn.cons rfl (fun K hK => ?_) ?_
              · go_simp
                refine hK _ _ ?_
                clear hK K
                refine wpAnyIn_done (by kernel_rfl) ?_ _
                exact ⟨rfl, rfl, HFI.out⟩
              exact AllReadyIn.nil
            exact AllReadyIn.nil
          exact AllReadyIn.nil
        refine AllReadyIn.cons rfl (fun K hK => ?_) ?_
        · go_simp
          refine hK _ _ ?_
          clear hK K
          refine wpAnyIn_ready (rs := [0, 3]) (by kernel_rfl) (by simp) ?_
          refine AllReadyIn.cons rfl (fun K hK => ?_) ?_
          · go_simp
            refine hK _ _ ?_
            clear hK K
            refine wpAnyIn_ready (rs := [3]) (by kernel_rfl) (by simp) ?_
            refine AllReadyIn.cons rfl (fun K hK => ?_) ?_
            · go_simp
              refine ⟨trivial, (callsIn_wide.2 HTK.out).mono ?_⟩
              rintro e w5 ⟨rfl, hr5⟩
              have u0 := HCX w5 hr5
              have u1 := (HCK w5 hr5).1
              have u2 := (HCK w5 hr5).2
              have HFI := Lib.hid (HFN w5 hr5)
              clear hr5
              refine hK _ _ ?_
              clear hK K
              refine wpAnyIn_take (i := 4) (v := ?_) rfl rfl (by kernel_rfl) (by kernel_rfl) (by kernel_rfl) (fun _ _ _ h => by cases h.1) ⟨Or.inl ⟨by rfl, ?_⟩, fun _ => rfl⟩ ?_
              rotate_left
              · intro w9; go_simp; try with_reducible rfl
              refine wpAnyIn_take (i := 5) (v := ?_) rfl rfl (by kernel_rfl) (by kernel_rfl) (by kernel_rfl) (fun _ _ _ h => by cases h.1) ⟨Or.inl ⟨by rfl, ?_⟩, fun _ => rfl⟩ ?_
              rotate_left
              · intro w9; go_simp; try with_reducible rfl
              refine wpAnyIn_ready (rs := [6]) (by kernel_rfl) (by simp) ?_
              refine AllReadyIn.cons rfl (fun K hK => ?_) ?_
              · go_simp
                refine hK _ _ ?_
                clear hK K
                refine wpAnyIn_done (by kernel_rfl) ?_ _
                exact ⟨rfl, rfl, HFI.out⟩
              exact AllReadyIn.nil
            exact AllReadyIn.nil
          refine AllReadyIn.cons rfl (fun K hK => ?_) ?_
          · go_simp
            refine ⟨trivial, (callsIn_wide.2 HTK.out).mono ?_⟩
            rintro e w5 ⟨rfl, hr5⟩
            have u0 := HCX w5 hr5
            have u1 := (HCK w5 hr5).1
            have u2 := (HCK w5 hr5).2
            have HFI := Lib.hid (HFN w5 hr5)
            clear hr5
            refine hK _ _ ?_
            clear hK K
            refine wpAnyIn_take (i := 4) (v := ?_) rfl rfl (by kernel_rfl) (by kernel_rfl) (by kernel_rfl) (fun _ _ _ h => by cases h.1) ⟨Or.inl ⟨by rfl, ?_⟩, fun _ => rfl⟩ ?_
            rotate_left
            · intro w9; go_simp; try with_reducible rfl
            refine wpAnyIn_ready (rs := [0]) (by kernel_rfl) (by simp) ?_
            refine AllReadyIn.cons rfl (fun K hK => ?_) ?_
            · go_simp
              refine hK _ _ ?_
              clear hK K
              refine wpAnyIn_take (i := 5) (v := ?_) rfl rfl (by kernel_rfl) (by kernel_rfl) (by kernel_rfl) (fun _ _ _ h => by cases h.1) ⟨Or.inl ⟨by rfl, ?_⟩, fun _ => rfl⟩ ?_
              rotate_left
              · intro w9; go_simp; try with_reducible rfl
              refine wpAnyIn_ready (rs := [6]) (by kernel_rfl) (by simp) ?_
              refine AllReadyIn.cons rfl (fun K hK => ?_) ?_
              · go_simp
                refine hK _ _ ?_
                clear hK K
                refine wpAnyIn_done (by kernel_rfl) ?_ _
                exact ⟨rfl, rfl, HFI.out⟩
              exact AllReadyIn.nil
            exact AllReadyIn.nil
          exact AllReadyIn.nil
        exact AllReadyIn.nil
      case mono12 =>
        clear HTK HCX HCK HFN
        rintro e a W7 ⟨rfl, rfl, hr7, hk7, hy7⟩
        have hsz7 := hk7.size
        have q7 := (hk7.cell (p := ⟨w.heap.size, 0, none⟩) (by show w.heap.size < _; omega) (by simp; omega)).trans q0W
        have x7 := (hk7.cell (p := ⟨BX, 0, none⟩) (by show BX < _; omega) (by simp; omega)).trans x0W
        have y7 : W7.cell? ⟨KB, x, none⟩ = some (.int .i64 (k : Int)) := by have := (hy7 x hx).1; rwa [putK, if_pos rfl] at this
        have HL7 := Lib.hid (HLSTW.out.keeps hk7 (by simp; omega) (by omega))
        have HK7 := Lib.hid hk7
        have HY7 := Lib.hid hy7
        have HR7 := Lib.hid hr7
        clear hk7 hy7 hr7
        unfold roundA
        gi_wp2_with fail
        gi_loopw [47] (fun iv wr => ∃ j : Nat, j ≤ size ∧ iv = .int .i64 j ∧ Hid (RdA wr b ao (RS.many k j (tt.s.takeS 5)).1 ∧ Keeps [b, LB] W7 wr ∧ KeysAt wr LB n (putL size x j (RS.many k j (tt.s.takeS 5)).2 tt.list)))
          (fun iv _ => size - (intOf iv).toNat)
        case atStart => exact ⟨0, Nat.zero_le _, rfl, Lib.hid ⟨HR7.out, Keeps.refl _ _, HL7.out.congr (fun j _ => by unfold putL; rw [if_neg (by omega)])⟩⟩
        case round =>
          obtain ⟨j, hj, rfl, HWr⟩ := hrel
          by_cases hlt : j < size
          · obtain ⟨hrr, hkr, hlr⟩ := HWr.out
            have hszr := hkr.size
            have qr := (hkr.cell (p := ⟨w.heap.size, 0, none⟩) (by show w.heap.size < _; omega) (by simp; omega)).trans q7
            have xr := (hkr.cell (p := ⟨BX, 0, none⟩) (by show BX < _; omega) (by simp; omega)).trans x7
            have yr := (hkr.cell (p := ⟨KB, x, none⟩) (by show KB < _; omega) (by simp; omega)).trans y7
            have hij : x * size + j < n := by rw [Nat.add_mul] at hx1; omega
            have HRC := Lib.hid (cTake b ao (RS.many k j (tt.s.takeS 5)).1 k wr.drew (hrr.keeps (keeps_drew wr) (by simp) (by simp)))
            have HKR := Lib.hid hkr
            have HLR := Lib.hid hlr
            have HCL : ∀ w8, Reads wr.drew b ao ((RS.many k j (tt.s.takeS 5)).1.rice k).1 w8 → w8.cell? ⟨LB, x * size + j, none⟩ = some (.int .i64 (putL size x j (RS.many k j (tt.s.takeS 5)).2 tt.list (x * size + j))) ∧ w8.frozen? ⟨LB, x * size + j, none⟩ = false := fun w8 h =>
              ⟨(h.2.cell (p := ⟨LB, x * size + j, none⟩) (by show LB < wr.heap.size; omega) (by simp; omega)).trans (HLR.out _ hij).1, (h.2.frozen (p := ⟨LB, x * size + j, none⟩) (by show LB < wr.heap.size; omega) (by simp; omega)).trans (HLR.out _ hij).2⟩
            have HFN : ∀ w8, Reads wr.drew b ao ((RS.many k j (tt.s.takeS 5)).1.rice k).1 w8 → RdA (w8.setCell ⟨LB, x * size + j, none⟩ (.int .i64 ((RS.many k j (tt.s.takeS 5)).1.rice k).2)) b ao (RS.many k (j + 1) (tt.s.takeS 5)).1 ∧ Keeps [b, LB] W7 (w8.setCell ⟨LB, x * size + j, none⟩ (.int .i64 ((RS.many k j (tt.s.takeS 5)).1.rice k).2)) ∧ KeysAt (w8.setCell ⟨LB, x * size + j, none⟩ (.int .i64 ((RS.many k j (tt.s.takeS 5)).1.rice k).2)) LB n (putL size x (j + 1) (RS.many k (j + 1) (tt.s.takeS 5)).2 tt.list) := fun w8 h => by
              have kk : Keeps [b] wr w8 := ((keeps_drew wr).mono (by simp)).trans h.2
              refine ⟨?_, HKR.out.trans ((kk.mono (by simp)).trans ((keeps_setCell w8 LB _ _).mono (by simp))), ?_⟩
              · rw [many_snoc]
                refine h.1.keeps (keeps_setCell w8 LB _ _) (by simp; omega) ?_
                intro g off hh; have := ha g off hh; simp; omega
              · exact ((HLR.out.keeps kk (by simp; omega) (by omega)).set hij _).congr (putL_next (N := n))
            clear hrr hkr hlr HWr
            generalize RS.many k j (tt.s.takeS 5) = M at HRC HCL HFN HLR
            gi_wp2_with fail
            refine regionR hmx (by kernel_rfl) ?_
            refine wpAnyIn_take (i := 0) (v := ?_) rfl rfl (by kernel_rfl) (by kernel_rfl) (by kernel_rfl) (fun _ _ _ h => h) ⟨Or.inl ⟨by rfl, ?_⟩, fun _ => rfl⟩ ?_
            rotate_left
            · intro w9; go_simp; try with_reducible rfl
            refine wpAnyIn_take (i := 1) (v := ?_) rfl rfl (by kernel_rfl) (by kernel_rfl) (by kernel_rfl) (fun _ _ _ h => h) ⟨Or.inl ⟨by rfl, ?_⟩, fun _ => rfl⟩ ?_
            rotate_left
            · intro w9; go_simp; try with_reducible rfl
            refine wpAnyIn_take (i := 4) (v := ?_) rfl rfl (by kernel_rfl) (by kernel_rfl) (by kernel_rfl) (fun _ _ _ h => h) ⟨Or.inl ⟨by rfl, ?_⟩, fun _ => rfl⟩ ?_
            rotate_left
            · intro w9; go_simp; try with_reducible rfl
            refine wpAnyIn_ready (rs := [2, 3]) (by kernel_rfl) (by simp) ?_
            refine AllReadyIn.cons rfl (fun K hK => ?_) ?_
            · go_simp
              refine hK _ _ ?_
              clear hK K
              refine wpAnyIn_ready (rs := [3]) (by kernel_rfl) (by simp) ?_
              refine AllReadyIn.cons rfl (fun K hK => ?_) ?_
              · go_simp
                refine hK _ _ ?_
                clear hK K
                refine wpAnyIn_take (i := 5) (v := ?_) rfl rfl (by kernel_rfl) (by kernel_rfl) (by kernel_rfl) (fun _ _ _ h => h) ⟨Or.inl ⟨by rfl, ?_⟩, fun _ => rfl⟩ ?_
                rotate_left
                · intro w9; go_simp; try with_reducible rfl
                refine wpAnyIn_ready (rs := [6]) (by kernel_rfl) (by simp) ?_
                refine AllReadyIn.cons rfl (fun K hK => ?_) ?_
                · go_simp
                  refine hK _ _ ?_
                  clear hK K
                  refine wpAnyIn_ready (rs := [7]) (by kernel_rfl) (by simp) ?_
                  refine AllReadyIn.cons rfl (fun K hK => ?_) ?_
                  · go_simp
                    refine ⟨trivial, (callsIn_wide.2 HRC.out).mono ?_⟩
                    rintro e w8 ⟨rfl, hr8⟩
                    have u1 := (HCL w8 hr8).1
                    have u2 := (HCL w8 hr8).2
                    have HFI := Lib.hid (HFN w8 hr8)
                    clear hr8
                    refine hK _ _ ?_
                    clear hK K
                    refine wpAnyIn_take (i := 8) (v := ?_) rfl rfl (by kernel_rfl) (by kernel_rfl) (by kernel_rfl) (fun _ _ _ h => h) ⟨Or.inl ⟨by rfl, ?_⟩, fun _ => rfl⟩ ?_
                    rotate_left
                    · intro w9; go_simp; try with_reducible rfl
                    refine wpAnyIn_ready (rs := [9]) (by kernel_rfl) (by simp) ?_
                    refine AllReadyIn.cons rfl (fun K hK => ?_) ?_
                    · go_simp
                      refine hK _ _ ?_
                      clear hK K
                      refine wpAnyIn_done (by kernel_rfl) ?_ _
                      gi_wp2
                      go_roundw
                      case rel => exact ⟨j + 1, by omega, by go_num, HFI⟩
                      case measure => simp [intOf]; omega
                    exact AllReadyIn.nil
                  exact AllReadyIn.nil
                exact AllReadyIn.nil
              exact AllReadyIn.nil
            refine AllReadyIn.cons rfl (fun K hK => ?_) ?_
            · go_simp
              refine hK _ _ ?_
              clear hK K
              refine wpAnyIn_take (i := 5) (v := ?_) rfl rfl (by kernel_rfl) (by kernel_rfl) (by kernel_rfl) (fun _ _ _ h => h) ⟨Or.inl ⟨by rfl, ?_⟩, fun _ => rfl⟩ ?_
              rotate_left
              · intro w9; go_simp; try with_reducible rfl
              refine wpAnyIn_ready (rs := [2, 6]) (by kernel_rfl) (by simp) ?_
              refine AllReadyIn.cons rfl (fun K hK => ?_) ?_
              · go_simp
                refine hK _ _ ?_
                clear hK K
                refine wpAnyIn_ready (rs := [6]) (by kernel_rfl) (by simp) ?_
                refine AllReadyIn.cons rfl (fun K hK => ?_) ?_
                · go_simp
                  refine hK _ _ ?_
                  clear hK K
                  refine wpAnyIn_ready (rs := [7]) (by kernel_rfl) (by simp) ?_
                  refine AllReadyIn.cons rfl (fun K hK => ?_) ?_
                  · go_simp
                    refine ⟨trivial, (callsIn_wide.2 HRC.out).mono ?_⟩
                    rintro e w8 ⟨rfl, hr8⟩
                    have u1 := (HCL w8 hr8).1
                    have u2 := (HCL w8 hr8).2
                    have HFI := Lib.hid (HFN w8 hr8)
                    clear hr8
                    refine hK _ _ ?_
                    clear hK K
                    refine wpAnyIn_take (i := 8) (v := ?_) rfl rfl (by kernel_rfl) (by kernel_rfl) (by kernel_rfl) (fun _ _ _ h => h) ⟨Or.inl ⟨by rfl, ?_⟩, fun _ => rfl⟩ ?_
                    rotate_left
                    · intro w9; go_simp; try with_reducible rfl
                    refine wpAnyIn_ready (rs := [9]) (by kernel_rfl) (by simp) ?_
                    refine AllReadyIn.cons rfl (fun K hK => ?_) ?_
                    · go_simp
                      refine hK _ _ ?_
                      clear hK K
                      refine wpAnyIn_done (by kernel_rfl) ?_ _
                      gi_wp2
                      go_roundw
                      case rel => exact ⟨j + 1, by omega, by go_num, HFI⟩
                      case measure => simp [intOf]; omega
                    exact AllReadyIn.nil
                  exact AllReadyIn.nil
                exact AllReadyIn.nil
              refine AllReadyIn.cons rfl (fun K hK => ?_) ?_
              · go_simp
                refine hK _ _ ?_
                clear hK K
                refine wpAnyIn_ready (rs := [2]) (by kernel_rfl) (by simp) ?_
                refine AllReadyIn.cons rfl (fun K hK => ?_) ?_
                · go_simp
                  refine hK _ _ ?_
                  clear hK K
                  refine wpAnyIn_ready (rs := [7]) (by kernel_rfl) (by simp) ?_
                  refine AllReadyIn.cons rfl (fun K hK => ?_) ?_
                  · go_simp
                    refine ⟨trivial, (callsIn_wide.2 HRC.out).mono ?_⟩
                    rintro e w8 ⟨rfl, hr8⟩
                    have u1 := (HCL w8 hr8).1
                    have u2 := (HCL w8 hr8).2
                    have HFI := Lib.hid (HFN w8 hr8)
                    clear hr8
                    refine hK _ _ ?_
                    clear hK K
                    refine wpAnyIn_take (i := 8) (v := ?_) rfl rfl (by kernel_rfl) (by kernel_rfl) (by kernel_rfl) (fun _ _ _ h => h) ⟨Or.inl ⟨by rfl, ?_⟩, fun _ => rfl⟩ ?_
                    rotate_left
                    · intro w9; go_simp; try with_reducible rfl
                    refine wpAnyIn_ready (rs := [9]) (by kernel_rfl) (by simp) ?_
                    refine AllReadyIn.cons rfl (fun K hK => ?_) ?_
                    · go_simp
                      refine hK _ _ ?_
                      clear hK K
                      refine wpAnyIn_done (by kernel_rfl) ?_ _
                      gi_wp2
                      go_roundw
                      case rel => exact ⟨j + 1, by omega, by go_num, HFI⟩
                      case measure => simp [intOf]; omega
                    exact AllReadyIn.nil
                  exact AllReadyIn.nil
                exact AllReadyIn.nil
              exact AllReadyIn.nil
            exact AllReadyIn.nil
          · obtain rfl : j = size := by omega
            obtain ⟨hrr, hkr, hlr⟩ := HWr.out
            have hszr := hkr.size
            have kk : Keeps [b, LB, KB] W wr := (HK7.out.mono (by simp)).trans (hkr.mono (by simp))
            have qr := (hkr.cell (p := ⟨w.heap.size, 0, none⟩) (by show w.heap.size < _; omega) (by simp; omega)).trans q7
            have HFL := Lib.hid (aFail b ao (RS.many k j (tt.s.takeS 5)).1 wr hrr)
            have HPS : Hid (RS.many k j (tt.s.takeS 5) = tt.s.partS j) := Lib.hid (by unfold RS.partS; rw [← HKE.out])
            have HKf : Hid (KeepsFrom W6.heap.size W wr) := Lib.hid (keepsFrom_of kk (fun y hy => by simp at hy; left; omega))
            have HKp : Hid (KpB c t W wr) := Lib.hid (kpB_keeps kk (by omega) (by omega) (by simp; omega) (by simp; omega))
            have HYr : Hid (KeysAt wr KB m (putK x k tt.keys)) := Lib.hid (HY7.out.keeps hkr (by simp; omega) (by omega))
            have HKK : Hid (Keeps [b, LB, KB] W6 wr) := Lib.hid (HKW.out.trans kk)
            have HRR := Lib.hid hrr
            have HLR := Lib.hid hlr
            have e0 := (HKK.out.size)
            clear hrr hkr hlr kk HWr
            by_cases herr : (RS.many k j (tt.s.takeS 5)).1.err = 0
            · have t9 : ((RS.many k j (tt.s.takeS 5)).1.err != 0) = false := by rw [herr]; rfl
              have HFIN : Hid (KeepsFrom W6.heap.size W wr ∧ KpB c t W wr ∧ TakeI b ao j n LB KB (s.takeS 2) W6 (pre ++ [⟨x, hx⟩]) wr) := Lib.hid (by
                refine ⟨HKf.out, HKp.out, ?_⟩
                unfold TakeI
                rw [HSN.out]
                unfold TS.step
                rw [← HPS.out, ← HKE.out]
                exact ⟨by rw [HOK.out, herr]; rfl, HRR.out, HKK.out, HYr.out, HLR.out⟩)
              clear herr
              generalize (RS.many k j (tt.s.takeS 5)).1.err = er at HFL t9
              gi_wp2_with fail
              refine ⟨trivial, (CallsIn.inRound l' (callsIn_wide.2 HFL.out)).mono ?_⟩
              rintro e w9 ⟨rfl, rfl⟩
              gi_wp2_with fail
              exact HFIN.out
            · have t9 : ((RS.many k j (tt.s.takeS 5)).1.err != 0) = true := bne_iff_ne.2 herr
              have c0 := (HKK.out.cell (p := ⟨B1, 0, none⟩) (by show B1 < _; omega) (by simp; omega)).trans r0
              have c1 := (HKK.out.cell (p := ⟨B2, 0, none⟩) (by show B2 < _; omega) (by simp; omega)).trans r1
              have c2 := (HKK.out.cell (p := ⟨B2, 1, none⟩) (by show B2 < _; omega) (by simp; omega)).trans r2
              have z0 := (HKK.out.frozen (p := ⟨B1, 0, none⟩) (by show B1 < _; omega) (by simp; omega)).trans f0
              have z1 := (HKK.out.frozen (p := ⟨B2, 0, none⟩) (by show B2 < _; omega) (by simp; omega)).trans f1
              have z2 := (HKK.out.frozen (p := ⟨B2, 1, none⟩) (by show B2 < _; omega) (by simp; omega)).trans f2
              have HFIN : Hid (KeepsFrom W6.heap.size W (nilled wr B1 B2) ∧ TakeX b ao j LB KB B1 B2 (s.takeS 2) W6 .ret (pre ++ [⟨x, hx⟩]) (nilled wr B1 B2)) := Lib.hid (by
                obtain ⟨kn, y0, y1, y2⟩ := nilled_is (by omega) c0 c1 c2
                have kk2 : Keeps [b, LB, KB, B1, B2] W6 (nilled wr B1 B2) := (HKK.out.mono (by simp)).trans (kn.mono (by simp))
                refine ⟨HKf.out.trans (keepsFrom_of kn (fun y hy => by simp at hy; left; omega)), ?_⟩
                unfold TakeX
                rw [HSN.out]
                refine ⟨⟨rfl, pre, ⟨x, hx⟩, rfl, HOKP.out, ?_⟩, ?_, kk2, ⟨y0, ?_⟩, ⟨y1, ?_⟩, y2, ?_⟩
                · unfold TS.step; rw [← HPS.out]; exact herr
                · unfold TS.step; rw [← HPS.out]
                  refine HRR.out.keeps kn (by simp; omega) ?_
                  intro g off hh; have := ha g off hh; simp; omega
                · unfold nilled; rw [World.frozen?_setCell, World.frozen?_setCell, World.frozen?_setCell]; exact z0
                · unfold nilled; rw [World.frozen?_setCell, World.frozen?_setCell, World.frozen?_setCell]; exact z1
                · unfold nilled; rw [World.frozen?_setCell, World.frozen?_setCell, World.frozen?_setCell]; exact z2)
              unfold nilled at HFIN
              clear herr
              generalize (RS.many k j (tt.s.takeS 5)).1.err = er at HFL t9
              gi_wp2_with fail
              refine ⟨trivial, (CallsIn.inRound l' (callsIn_wide.2 HFL.out)).mono ?_⟩
              rintro e w9 ⟨rfl, rfl⟩
              gi_wp2_with fail
              exact HFIN.out
    case done =>
      rintro D xs W hD hS ⟨hok, hrd, hkW, hkey, hlst⟩ hDW
      have hmx : Try.prog.follows .mixedOrders = true := by kernel_rfl
      have hszW := hkW.size
      have c0 := (hkW.cell (p := ⟨B1, 0, none⟩) (by show B1 < _; omega) (by simp; omega)).trans r0
      have c1 := (hkW.cell (p := ⟨B2, 0, none⟩) (by show B2 < _; omega) (by simp; omega)).trans r1
      have c2 := (hkW.cell (p := ⟨B2, 1, none⟩) (by show B2 < _; omega) (by simp; omega)).trans r2
      have z0 := (hkW.frozen (p := ⟨B1, 0, none⟩) (by show B1 < _; omega) (by simp; omega)).trans f0
      have z1 := (hkW.frozen (p := ⟨B2, 0, none⟩) (by show B2 < _; omega) (by simp; omega)).trans f1
      have z2 := (hkW.frozen (p := ⟨B2, 1, none⟩) (by show B2 < _; omega) (by simp; omega)).trans f2
      have xW := (hkW.cell (p := ⟨BX, 0, none⟩) (by show BX < _; omega) (by simp; omega)).trans x0
      obtain ⟨kn, y0, y1, y2⟩ := setR_is (.slice (some ⟨LB, 0, none⟩) n n) (.int .i64 (p : Int)) (.slice (some ⟨KB, 0, none⟩) m m) (by omega) c0 c1 c2
      have hDb : D < W.heap.size := (Array.getElem?_eq_some_iff.1 hDW).1
      have W2c : Hid (∀ W2, W2 = (setR W B1 B2 (.slice (some ⟨LB, 0, none⟩) n n) (.int .i64 (p : Int)) (.slice (some ⟨KB, 0, none⟩) m m)).drew → W2.heap[D]? = some (.deferred (some [])) ∧ (W2.putObj D (.deferred none)).cell? ⟨B1, 0, none⟩ = some (.slice (some ⟨LB, 0, none⟩) n n) ∧ (W2.putObj D (.deferred none)).cell? ⟨B2, 0, none⟩ = some (.int .i64 (p : Int)) ∧ (W2.putObj D (.deferred none)).cell? ⟨B2, 1, none⟩ = some (.slice (some ⟨KB, 0, none⟩) m m) ∧
          TakeIs w b ao ((s.takeS 2).slideB n p) (.returned (.tuple #[.slice (some ⟨LB, 0, none⟩) n n, .agg #[.int .i64 (p : Int), .slice (some ⟨KB, 0, none⟩) m m]])) (W2.putObj D (.deferred none))) := Lib.hid (by
        rintro W2 rfl
        have k2 : Keeps [B1, B2] W (setR W B1 B2 (.slice (some ⟨LB, 0, none⟩) n n) (.int .i64 (p : Int)) (.slice (some ⟨KB, 0, none⟩) m m)).drew := kn.trans (keeps_drew_b _ _)
        have kD : Keeps [D] (setR W B1 B2 (.slice (some ⟨LB, 0, none⟩) n n) (.int .i64 (p : Int)) (.slice (some ⟨KB, 0, none⟩) m m)).drew ((setR W B1 B2 (.slice (some ⟨LB, 0, none⟩) n n) (.int .i64 (p : Int)) (.slice (some ⟨KB, 0, none⟩) m m)).drew.putObj D (.deferred none)) := ⟨rfl, rfl, rfl, by simp [World.putObj], fun k _ hk => World.putObj_heap_other (by simpa using hk)⟩
        have ksz := k2.size
        have kall : Keeps [B1, B2, D] W ((setR W B1 B2 (.slice (some ⟨LB, 0, none⟩) n n) (.int .i64 (p : Int)) (.slice (some ⟨KB, 0, none⟩) m m)).drew.putObj D (.deferred none)) := (k2.mono (by simp)).trans (kD.mono (by simp))
        refine ⟨(k2.block D hDb (by simp; omega)).trans hDW, (World.cell?_of_block (World.putObj_heap_other (by simp; omega))).trans y0, (World.cell?_of_block (World.putObj_heap_other (by simp; omega))).trans y1, (World.cell?_of_block (World.putObj_heap_other (by simp; omega))).trans y2, ?_⟩
        rw [done_body HM.out HSP.out hm1 hok hS]
        have hlk := hlst.keeps kall (by simp; omega) (by omega)
        have hkk := hkey.keeps kall (by simp; omega) (by omega)
        have hszA := kall.size
        refine ⟨some ⟨LB, 0, none⟩, n, some ⟨KB, 0, none⟩, m, by simp, hrd.keeps kall (by simp; omega) ?_, ints_of_keys hlk (by omega), ints_of_keys hkk (by omega), ?_, ?_, by simp, by simp, ?_⟩
        · intro g off hh; have := ha g off hh; simp; omega
        · intro g off hh; cases hh; omega
        · intro g off hh; cases hh; omega
        · exact (HK6.out.trans_new hkW (by intro y hy; simp at hy ⊢; omega)).trans_new kall (by intro y hy; simp at hy; right; omega))
      unfold setR at W2c
      clear hrd hkW hkey hlst hok hS kn y0 y1 y2
      gi_wp2_with fail
      gi_region
      obtain ⟨W2, hW2⟩ : ∃ W2, W2 = (((W.setCell ⟨B1, 0, none⟩ (.slice (some ⟨LB, 0, none⟩) n n)).setCell ⟨B2, 0, none⟩ (.int .i64 (p : Int))).setCell ⟨B2, 1, none⟩ (.slice (some ⟨KB, 0, none⟩) m m)).drew := ⟨_, rfl⟩
      rw [← hW2]
      obtain ⟨hD2, y0, y1, y2, hfin⟩ := W2c.out W2 hW2
      have HF := Lib.hid hfin
      clear hW2 W2c hfin
      gi_wp2
      refine ⟨by simp, .inl ⟨_, _, rfl, run_takeDeferred hD2, ?_⟩⟩
      refine ⟨.tuple #[.slice (some ⟨LB, 0, none⟩) n n, .agg #[.int .i64 (p : Int), .slice (some ⟨KB, 0, none⟩) m m]], ?_, HF.out⟩
      clear HF
      simp [results, Try.results20, go_sem, y0, y1, y2]
    case stop =>
      rintro D cd pre W hD hS ⟨⟨rfl, pre', x, rfl, hok, herr⟩, hrd, hkW, ⟨y0, _⟩, ⟨y1, _⟩, y2, _⟩ hDW
      have hszW := hkW.size
      have hDn : D ≠ B1 ∧ D ≠ B2 ∧ D ≠ b := by omega
      have y0' : (W.putObj D (.deferred none)).cell? ⟨B1, 0, none⟩ = some (.slice none 0 0) := (World.cell?_of_block (World.putObj_heap_other (by simp; omega))).trans y0
      have y1' : (W.putObj D (.deferred none)).cell? ⟨B2, 0, none⟩ = some (.int .i64 0) := (World.cell?_of_block (World.putObj_heap_other (by simp; omega))).trans y1
      have y2' : (W.putObj D (.deferred none)).cell? ⟨B2, 1, none⟩ = some (.slice none 0 0) := (World.cell?_of_block (World.putObj_heap_other (by simp; omega))).trans y2
      have HF : Hid (TakeIs w b ao ((s.takeS 2).slideB n p) (.returned (.tuple #[.slice none 0 0, .agg #[.int .i64 0, .slice none 0 0]])) (W.putObj D (.deferred none))) := Lib.hid (by
        have kD : Keeps [D] W (W.putObj D (.deferred none)) := ⟨rfl, rfl, rfl, by simp [World.putObj], fun k _ hk => World.putObj_heap_other (by simpa using hk)⟩
        have hb := stop_body HM.out HSP.out hm1 hok herr hS
        rw [hb]
        refine takeIs_none (hrd.keeps kD (by simp; omega) ?_) ?_
        · intro g off hh; have := ha g off hh; simp; omega
        · exact (HK6.out.trans_new hkW (by intro y hy; simp at hy ⊢; omega)).trans_new kD (by intro y hy; simp at hy; right; omega))
      clear hrd hkW y0 y1 y2 hok herr
      gi_wp2
      refine ⟨by simp, .inl ⟨_, _, rfl, run_takeDeferred hDW, ?_⟩⟩
      refine ⟨.tuple #[.slice none 0 0, .agg #[.int .i64 0, .slice none 0 0]], ?_, HF.out⟩
      clear HF
      simp [results, Try.results20, go_sem, y0', y1', y2']

/-- Take: what it answers, and what it leaves, whatever comes. -/
theorem cSTake (b : Nat) (ao : Option Addr) (s : RS) (n : Int) (w : World) (h : RdA w b ao s) (ha : ∀ g off, ao = some ⟨g, off, none⟩ → g < w.heap.size) :
    Calls Try.prog 20 #[.pointer (some ⟨b, 0, none⟩), .int .i64 n] w (TakeIs w b ao (s.slide n)) := by
  unfold RS.slide
  by_cases hn : n < 1 ∨ 1024 < n
  · rw [if_pos hn]
    exact cSTake_len b ao s n w h ha (by unfold lenOk; exact decide_eq_false (by omega))
  · rw [if_neg hn]
    obtain ⟨k, rfl⟩ := Int.eq_ofNat_of_zero_le (show 0 ≤ n by omega)
    have hv : s.takeV 2 < 2 ^ 2 := takeV_ltn s 2 (by omega)
    have hl : lenOk (k : Int) = true := by unfold lenOk; exact decide_eq_true (by omega)
    have hv3 : s.takeV 2 ≤ 3 := by omega
    rw [Int.toNat_natCast]
    by_cases hp : k % 2 ^ s.takeV 2 ≠ 0
    · rw [if_pos hp]
      exact cSTake_pow b ao s k w h ha hl (by omega) (by unfold powOk; rw [Int.toNat_natCast]; exact decide_eq_false (fun hc => hp hc.2.2))
    · rw [if_neg hp]
      have hp0 : k % 2 ^ s.takeV 2 = 0 := by omega
      have hm1 : 1 ≤ 2 ^ s.takeV 2 := Nat.two_pow_pos _
      have hsp : k = k / 2 ^ s.takeV 2 * 2 ^ s.takeV 2 := by have := Nat.div_add_mod k (2 ^ s.takeV 2); rw [hp0, Nat.add_zero, Nat.mul_comm] at this; exact this.symm
      have hs : 1 ≤ k / 2 ^ s.takeV 2 := by
        rcases Nat.eq_zero_or_pos (k / 2 ^ s.takeV 2) with h0 | h0
        · rw [h0] at hsp; omega
        · exact h0
      exact cSTake_main b ao s k (s.takeV 2) (2 ^ s.takeV 2) (k / 2 ^ s.takeV 2) w h ha hl (by omega) (by unfold powOk; rw [Int.toNat_natCast]; exact decide_eq_true ⟨by omega, by omega, hp0⟩) rfl hv3 rfl hsp hs
end Go.Proofs.Ytnpngahpadchpaa

namespace Go.Proofs.Ytnpngahpadchpaa
open Go.RowKit Go.Proofs Go.Proofs.PipeM Go.Proofs.PipeA
set_option maxRecDepth 100000

theorem ago_zeros (err : Int) (r : List Bool) : ∀ k, ago err k (List.replicate k false ++ r) = ⟨r, err⟩
  | 0 => by cases r <;> rfl
  | k + 1 => by rw [List.replicate_succ, List.cons_append]; exact ago_zeros err r k
theorem align_zeros (k : Nat) (r : List Bool) (hk : k < 8) (hr : r.length % 8 = 0) : RS.align ⟨List.replicate k false ++ r, 0⟩ = ⟨r, 0⟩ := by
  unfold RS.align
  rw [List.length_append, List.length_replicate, show (k + r.length) % 8 = k by omega]
  exact ago_zeros 0 r k

theorem cells_at {w : World} {a : Addr} {zs : List Nat} (h : BytesAt w (some a) zs) : ∀ j u, (cellsOf zs)[j]? = some u → w.cell? (a.add j) = some u := by
  intro j u hj
  have hlt : j < zs.length := by
    rcases Nat.lt_or_ge j zs.length with h1 | h1
    · exact h1
    · rw [List.getElem?_eq_none (by rw [cellsOf_length]; exact h1)] at hj; cases hj
  obtain ⟨b, off, he, _, hc⟩ := h j hlt
  simp only [Option.some.injEq] at he
  subst he
  rw [cellsOf_get zs j hlt] at hj
  simp only [Option.some.injEq] at hj
  subst hj
  rw [Addr.add_lit]
  exact hc
theorem cells_one (zs : List Nat) : ∀ u ∈ cellsOf zs, u.oneCell' = true := by
  intro u hu
  simp only [cellsOf, List.mem_map] at hu
  obtain ⟨z, _, rfl⟩ := hu
  rfl

/-- append, where it is known what it makes. -/
theorem wpList_append_run {P : Program} {w : World} {ops : Array Oper} {rest : List Oper} {o : Oper} {a : Act} {Q : Exit → Act → World → Prop} (hgd : o.guard = none) (s x : Operand) (t : TypeId)
    (ho : o.op = .call { callee := .builtin .append, args := #[s, x], argTypes := #[t, t] }) (v y v' : Value) (w' : World) (hs : a.eval s = v) (hx : a.eval x = y)
    (hr : (Builtin.append_ #[t, t] o.type #[v, y]).run P w = .ok v' w') (h : wpList P ops Q rest (a.put o.dst v') w') : wpList P ops Q (o :: rest) a w := by
  refine wpList_plain hgd fun _ hK => ?_
  unfold Oper.wp execOp
  simp only [ho, resolve, invoke, builtin, Sem.run_bind, Sem.run_pure, Result.andThen_ok, List.map_toArray, List.map_cons, List.map_nil, hs, hx, hr]
  exact hK _ _ h

/-- append(bytes, more...), the bytes being in memory of their own. -/
theorem run_more {w : World} {base g n cap ty : Nat} {zs ms : List Nat} {mo : Option Addr} {mcap : Nat} (hown : w.ownsRow base 5 1 (.slice (some ⟨g, 0, none⟩) n cap) n (cellsOf zs)) (hbase : base ≤ w.heap.size) (hn : n ≤ 1000000) (hm : ms.length ≤ 1000000) (h : BytesAt w mo ms) (hnil : mo = none → ms = []) :
    ∃ g' cap' w', (Builtin.append_ #[30, 30] ty #[.slice (some ⟨g, 0, none⟩) n cap, .slice mo ms.length mcap]).run Try.prog w = .ok (.slice (some ⟨g', 0, none⟩) (n + ms.length) cap') w' ∧
      w'.ownsRow base 5 1 (.slice (some ⟨g', 0, none⟩) (n + ms.length) cap') (n + ms.length) (cellsOf (zs ++ ms)) ∧ Below base w w' := by
  have hg := own_lt hown
  obtain ⟨i0, hi, hz0, hz1, hz2⟩ := info_parts info_u8
  cases mo with
  | none =>
    obtain rfl := hnil rfl
    have hs : Src Try.prog i0.size 30 (.slice none 0 mcap) 0 [] w := by rw [hz1]; exact Src.ofNil w und_bytes mcap
    have := run_append_room_src w 30 30 ty 5 i0 und_bytes hi g 0 n cap (.slice none 0 mcap) 0 [] hs (by omega) (by simp) (by simp)
    exact ⟨g, cap, w, by simpa [World.setCells] using this, by simpa using hown, Below.refl _ _⟩
  | some a =>
    obtain ⟨v', w', hr, h2, h3, h4⟩ := run_append_own (P := Try.prog) w base 30 ty 5 i0 (.int .u8 0) 1 1 und_bytes hi hz0 hz1 hz2 rfl (by decide) (.slice (some ⟨g, 0, none⟩) n cap) n (cellsOf zs) hown a ms.length mcap (cellsOf ms) (by rw [cellsOf_length, Nat.mul_one]) (cells_at h) (cells_one ms) (by unfold maxLen; omega) (by omega) hbase
    rw [show cellsOf zs ++ cellsOf ms = cellsOf (zs ++ ms) by simp [cellsOf]] at h2
    rcases h2.2 with ⟨rfl, h0⟩ | ⟨g', cap', cur, rfl, r⟩
    · exact absurd (h4.1 rfl).1 (by simp)
    · exact ⟨g', cap', w', hr, h2, (Below.refl base w).grown h3 hbase (by intro x hx; simp [Value.ownBlock] at hx; omega)⟩

theorem alloc2h (w : World) (o1 o2 : Obj) : ((w.alloc o1).alloc o2).heap[w.heap.size]? = some o1 ∧ ((w.alloc o1).alloc o2).heap[w.heap.size + 1]? = some o2 ∧ ((w.alloc o1).alloc o2).heap.size = w.heap.size + 2 ∧ Below w.heap.size w ((w.alloc o1).alloc o2) := by
  have h1 := World.alloc_heap_new w o1
  have h2 := World.alloc_heap_new (w.alloc o1) o2
  have z1 : (w.alloc o1).heap.size = w.heap.size + 1 := by simp
  rw [z1] at h2
  exact ⟨(Below.heap_alloc _ _ _ (by simp)).trans h1, h2, by simp, ((Below.refl _ w).alloc (Nat.le_refl _) _).alloc (by simp) _⟩
theorem wr_fresh2 (w : World) (o : Obj) : WrIs ((w.alloc o).alloc (.cells #[.slice none 0 0, .int .i64 0] 32)) (w.heap.size + 1) (.slice none 0 0) [] [] := by
  have := wr_fresh (w.alloc o)
  rwa [show (w.alloc o).heap.size = w.heap.size + 1 by simp] at this

theorem range_flat_le (f : Nat → List Bool) (k : Nat) (h : ∀ j, (f j).length ≤ k) : ∀ m, ((List.range m).flatMap f).length ≤ m * k
  | 0 => by simp
  | m + 1 => by
    have := range_flat_le f k h m
    have h1 := h m
    rw [List.range_succ, List.flatMap_append, List.length_append, Nat.add_mul]
    simp only [List.flatMap_cons, List.flatMap_nil, List.append_nil]
    omega
theorem slide_short {l ks : List Int} {P : Int} (h : slideOk l P ks = true) (hl : l.length ≤ 64) : (slideBits l P ks).length ≤ 4000 := by
  obtain ⟨p, rfl, h3, hk1, hk8, hk0, hl1, hl2, hs1, hs2, hsp, hks, hin⟩ := slide_parts h
  have hsb : slideBits l p ks = low p 2 ++ bodyBits (l.length / ks.length) ks l := by unfold slideBits listBits; rw [if_pos h]; simp
  rw [hsb, body_flat, List.length_append, low_length]
  have h1 := range_flat_le (pbits (l.length / ks.length) ks l) (5 + 59 * (l.length / ks.length)) (pbits_len _ ks l) ks.length
  have h2 : ks.length * (5 + 59 * (l.length / ks.length)) = 5 * ks.length + 59 * (l.length / ks.length * ks.length) := by rw [Nat.mul_add, Nat.mul_comm ks.length 5, Nat.mul_left_comm, Nat.mul_comm ks.length]
  rw [← hsp] at h2
  omega

def moreIs (l : List Bool) (ms : List Nat) : List Bool := List.replicate ((8 - l.length % 8) % 8) false ++ bitsOf ms
theorem more_bits {zs ms : List Nat} {l : List Bool} (h : Packs zs (pad l)) : bitsOf (zs ++ ms) = l ++ moreIs l ms := by
  rw [bitsOf_append, h.2]
  have hp := pad_length l
  unfold moreIs
  have : pad (pad l) = pad l := by
    show pad l ++ List.replicate ((8 - (pad l).length % 8) % 8) false = _
    rw [show ((8 - (pad l).length % 8) % 8) = 0 by omega]; simp
  rw [this]
  unfold pad
  rw [List.append_assoc]
theorem more_align (l : List Bool) (ms : List Nat) : RS.align ⟨moreIs l ms, 0⟩ = ⟨bitsOf ms, 0⟩ := align_zeros _ _ (by omega) (by rw [bitsOf_length]; omega)

set_option maxHeartbeats 1600000 in
theorem whole_much (lo mo : Option Addr) (lcap mcap : Nat) (l : List Int) (ms : List Nat) (w : World) (hi : IntsAt w lo l) (hl : l.length ≤ 9223372036854775807) (hm : ms.length ≤ 9223372036854775807) (h : ¬ (l.length ≤ 64 ∧ listOk l = true ∧ ms.length ≤ 50)) :
    Calls Try.prog 6 #[.slice lo l.length lcap, .slice mo ms.length mcap] w fun e w' => e = .returned (.bool true) ∧ Below w.heap.size w w' := by
  have HA := fun W => Lib.hid (awake3 W)
  have HL : Hid (l.length ≤ 64 → ∀ W, Below w.heap.size w W → Calls Try.prog 29 #[.slice lo l.length lcap] W fun e w' => e = .returned (.bool (listOk l)) ∧ W = w') := fun h64 W hb => refList lo lcap l W (by omega) (hi.below hb)
  have HH := Lib.hid h
  clear h hi
  go_enter Try.func6, Try.ntmps6
  go_wp2_with fail
  refine (HA _).out.mono ?_
  rintro e w1 ⟨rfl, hb1⟩
  have HB1 := Lib.hid hb1
  clear hb1
  by_cases h64 : l.length ≤ 64
  · have t1 : decide ((64 : Int) < (l.length : Int)) = false := decide_eq_false (by omega)
    have HL1 := Lib.hid (HL.out h64 w1 HB1.out)
    clear HL
    cases hok : listOk l
    · rw [hok] at HL1
      clear HH hok
      go_wp2_with fail
      refine HL1.out.mono ?_
      rintro e w2 ⟨rfl, rfl⟩
      go_wp2_with fail
      refine (HA _).out.mono ?_
      rintro e w3 ⟨rfl, hb3⟩
      have HB3 := Lib.hid (HB1.out.trans (hb3.mono HB1.out.size))
      clear hb3
      go_wp2
      go_ret
      exact ⟨rfl, HB3.out⟩
    · rw [hok] at HL1
      have hm50 : ¬ ms.length ≤ 50 := fun hh => HH.out ⟨h64, hok, hh⟩
      have t2 : decide ((50 : Int) < (ms.length : Int)) = true := decide_eq_true (by omega)
      clear HH hok
      go_wp2_with fail
      refine HL1.out.mono ?_
      rintro e w2 ⟨rfl, rfl⟩
      go_wp2_with fail
      refine (HA _).out.mono ?_
      rintro e w3 ⟨rfl, hb3⟩
      have HB3 := Lib.hid (HB1.out.trans (hb3.mono HB1.out.size))
      clear hb3
      go_wp2
      go_ret
      exact ⟨rfl, HB3.out⟩
  · have t1 : decide ((64 : Int) < (l.length : Int)) = true := decide_eq_true (by omega)
    clear HH HL
    go_wp2_with fail
    refine (HA _).out.mono ?_
    rintro e w3 ⟨rfl, hb3⟩
    have HB3 := Lib.hid (HB1.out.trans (hb3.mono HB1.out.size))
    clear hb3
    go_wp2
    go_ret
    exact ⟨rfl, HB3.out⟩

set_option maxHeartbeats 3200000 in
theorem whole_few (lo mo : Option Addr) (lcap mcap : Nat) (l : List Int) (ms : List Nat) (w : World) (hcap : l.length ≤ lcap) (hi : IntsAt w lo l) (hz : ∀ z ∈ ms, z < 256) (hd : BytesAt w mo ms) (hnil : mo = none → ms = []) (h64 : l.length ≤ 64) (hok : listOk l = true) (h50 : ms.length ≤ 50) :
    Calls Try.prog 6 #[.slice lo l.length lcap, .slice mo ms.length mcap] w fun e w' => e = .returned (.bool true) ∧ Below w.heap.size w w' := by
  have hl1 := list_len hok
  have HA := fun W => Lib.hid (awake3 W)
  have HL := fun W (hb : Below w.heap.size w W) => Lib.hid (refList lo lcap l W (by omega) (hi.below hb))
  rw [hok] at HL
  have t1 : decide ((64 : Int) < (l.length : Int)) = false := decide_eq_false (by omega)
  have t2 : decide ((50 : Int) < (ms.length : Int)) = false := decide_eq_false (by omega)
  have hso := powAt_ok hok (bestP_le l)
  have hlen := powAt_len hok (bestP_le l)
  have hmp8 : 2 ^ bestP l ≤ 8 := Nat.le_trans (Nat.pow_le_pow_right (by decide) (Nat.le_trans (bestP_le l) (topP_le _))) (by decide)
  have HBE := fun W (hb : Below w.heap.size w W) => Lib.hid (cSBest_yes lo lcap l W hcap (hi.below hb) hok)
  have hlo : ∀ g off, lo = some ⟨g, off, none⟩ → g < w.heap.size := fun g off hh => by obtain ⟨g', off', e, h, _⟩ := hi 0 (by omega); rw [hh] at e; cases e; exact h
  have hkl := ksAt_length l (bestP l)
  have hpt : (((bestP l : Nat) : Int)).toNat = bestP l := Int.toNat_natCast _
  obtain ⟨ks, hks⟩ : ∃ ks, ks = ksAt l (bestP l) := ⟨_, rfl⟩
  obtain ⟨bb, hbb⟩ : ∃ bb, bb = lenAt l (bestP l) := ⟨_, rfl⟩
  obtain ⟨mp, hmp⟩ : ∃ mp, mp = 2 ^ bestP l := ⟨_, rfl⟩
  obtain ⟨pb, hpb⟩ : ∃ pb, pb = bestP l := ⟨_, rfl⟩
  rw [← hks, ← hpb] at hso
  rw [← hks, ← hbb, ← hpb] at hlen
  rw [← hks, ← hmp] at hkl
  rw [← hmp] at hmp8
  rw [← hpb] at hpt
  have HKS := Lib.hid hks
  have HBB := Lib.hid hbb
  have HMP := Lib.hid hmp
  have HPB := Lib.hid hpb
  have HKL := Lib.hid hkl
  have HLEN : Hid ((slideBits l pb ks).length = bb) := Lib.hid hlen
  have HSO := Lib.hid hso
  have hbl : (slideBits l pb ks).length ≤ 20000 := by
    have := slide_short hso h64
    omega
  have HTK : Hid (∀ rest, RS.slide ⟨slideBits l pb ks ++ rest, 0⟩ l.length = (⟨rest, 0⟩, l, pb, ks)) := Lib.hid fun rest => by
    have := slide_taken hso rest
    rwa [hpt] at this
  have HI := Lib.hid hi
  have HD := Lib.hid hd
  have HZ := Lib.hid hz
  have HNL := Lib.hid hnil
  clear hi hd hz hnil hok hks hbb hmp hpb hkl hlen hso hpt
  go_enter Try.func6, Try.ntmps6
  go_wp2_with fail
  refine (HA _).out.mono ?_
  rintro e w1 ⟨rfl, hb1⟩
  have HB1 := Lib.hid hb1
  clear hb1
  go_wp2_with fail
  refine (HL _ HB1.out).out.mono ?_
  rintro e wx ⟨rfl, rfl⟩
  go_wp2_with fail
  refine (HBE _ HB1.out).out.mono ?_
  rintro e w3 ⟨H, rfl, hJ3, hH3, hb3⟩
  rw [← HBB.out, ← HMP.out, ← HPB.out]
  rw [← HKS.out] at hJ3
  go_wp2_with fail
  obtain ⟨g1, g2, hz4, hb4⟩ := alloc2h w3 (.cells #[.int .i64 (pb : Int), .slice (some ⟨H, 0, none⟩) mp mp] 24) (.cells #[.slice none 0 0, .int .i64 0] 32)
  have hwr := wr_fresh2 w3 (.cells #[.int .i64 (pb : Int), .slice (some ⟨H, 0, none⟩) mp mp] 24)
  generalize (w3.alloc (.cells #[.int .i64 (pb : Int), .slice (some ⟨H, 0, none⟩) mp mp] 24)).alloc (.cells #[.slice none 0 0, .int .i64 0] 32) = W4 at g1 g2 hz4 hb4 hwr ⊢
  have hH4 : H < w3.heap.size := by obtain ⟨g', off', e, h, _⟩ := hJ3 0 (by rw [HKL.out, HMP.out]; exact Nat.two_pow_pos _); cases e; exact h
  have hs1 := HB1.out.size
  have hs3 := hb3.size
  have HB4 : Hid (Below w.heap.size w W4) := HB1.out.trans ((hb3.mono HB1.out.size).trans (hb4.mono (by omega)))
  have p0 : W4.cell? ⟨w3.heap.size, 0, none⟩ = some (.int .i64 (pb : Int)) := cell_of_heap g1 0
  have p1 : W4.cell? ⟨w3.heap.size, 1, none⟩ = some (.slice (some ⟨H, 0, none⟩) mp mp) := cell_of_heap g1 1
  have HJ4 := Lib.hid (hJ3.below hb4)
  have HPU := cSPut_yes (w3.heap.size + 1) (.slice none 0 0) [] [] lo (some ⟨H, 0, none⟩) lcap mp l pb ks W4 (by simp) hcap hwr (HI.out.below HB4.out) HJ4.out (by intro g off hh; have := hlo g off hh; simp [Off, Value.ownBlock]; omega) (by intro g off hh; cases hh; simp [Off, Value.ownBlock]; omega) HSO.out
  rw [HSO.out, HKL.out, List.nil_append] at HPU
  refine HPU.mono ?_
  rintro e w5 ⟨rfl, v5, zs5, hi5, hk5, ho5⟩
  have H5 := Lib.hid hi5
  have K5 := Lib.hid hk5
  have O5 := Lib.hid ho5
  have c1 : w5.cell? ⟨w3.heap.size + 1, 1, none⟩ = some (.int .i64 (bb : Int)) := by rw [← HLEN.out]; exact hi5.c1
  have t3 : ((bb : Int) != (bb : Int)) = false := by simp
  have HAL := Lib.hid (wAlign (w3.heap.size + 1) v5 _ zs5 w5 (by omega) hi5)
  clear hi5 hk5 ho5 HPU hwr g1 g2 hb4 hb3 hJ3
  go_wp2_with (go_at_call 14; refine (wLen _ _ _ c1).mono ?_; rintro e wy ⟨rfl, rfl⟩)
  refine HAL.out.mono ?_
  rintro e w6 ⟨rfl, hw6⟩
  obtain ⟨v6, zs6, hi6, hk6, ho6⟩ := Wrote.next K5.out O5.out hw6
  have H6 := Lib.hid hi6
  have p0 := (hk6.cell (p := ⟨w3.heap.size, 0, none⟩) (by show w3.heap.size < _; omega) (by simp [Value.ownBlock])).trans p0
  have p1 := (hk6.cell (p := ⟨w3.heap.size, 1, none⟩) (by show w3.heap.size < _; omega) (by simp [Value.ownBlock])).trans p1
  have HJ6 := Lib.hid (HJ4.out.keeps hk6 (by intro g' off' hh; cases hh; simp [Value.ownBlock]; omega))
  have hs6 := hk6.size
  have HB6 : Hid (Below w.heap.size w w6) := HB4.out.trans (hk6.below HB4.out.size (by intro x hx; simp [Value.ownBlock] at hx; omega))
  have hpk := hi6.packs
  have hzl : zs6.length ≤ 10000 := by have := hpk.length; rw [pad_length] at this; omega
  clear hi6 hk6 ho6 hw6 K5 O5 H5 HAL HJ4 HB4
  go_wp2_with fail
  refine (wBytes (w3.heap.size + 1) v6 _ zs6 w6 (by rw [pad_length]; omega) H6.out).mono ?_
  rintro e w7 ⟨g7, rfl, hown7, hb7⟩
  have HB7 : Hid (Below w.heap.size w w7) := HB6.out.trans (hb7.mono HB6.out.size)
  obtain ⟨g8, cap8, w8, hr8, hown8, hb8⟩ := run_more (ty := 30) (mcap := mcap) hown7 hb7.size (by omega) (by omega) (HD.out.below HB7.out) HNL.out
  have HB68 : Hid (Below w6.heap.size w6 w8) := hb7.trans hb8
  have HB8 : Hid (Below w.heap.size w w8) := HB6.out.trans (HB68.out.mono HB6.out.size)
  rw [show zs6.length + ms.length = (zs6 ++ ms).length by simp] at hr8 hown8
  have HO8 := Lib.hid (bytes_own hown8)
  have hg8 := own_lt hown8
  have hal : (zs6 ++ ms).length ≤ 20000 := by simp; omega
  have HZ8 : Hid (∀ z ∈ zs6 ++ ms, z < 256) := Lib.hid fun z hz => by
    rw [List.mem_append] at hz
    rcases hz with h | h
    · exact hpk.1 z h
    · exact HZ.out z h
  have HBT := Lib.hid (more_bits (ms := ms) hpk)
  have HOP := Lib.hid (aOpen (some ⟨g8, 0, none⟩) (some ⟨g8, 0, none⟩) cap8 (zs6 ++ ms) w8 (fun _ => rfl) HO8.out HZ8.out (by omega))
  rw [HBT.out] at HOP
  clear hown7 hb7 hown8 hb8
  generalize (zs6 ++ ms).length = al at *
  go_wp2_with (at_builtin; refine wpList_append_run rfl _ _ 30 rfl _ _ _ _ rfl rfl hr8 ?_)
  refine HOP.out.mono ?_
  rintro e w9 ⟨rfl, hrd9, hb9⟩
  have hs8 := HB68.out.size
  have hs9 := hb9.size
  have HTA := cSTake w8.heap.size (some ⟨g8, 0, none⟩) _ (l.length : Int) w9 hrd9 (by intro g off hh; cases hh; omega)
  rw [HTK.out] at HTA
  have HT9 := Lib.hid HTA
  have HB69 : Hid (Below w6.heap.size w6 w9) := HB68.out.trans (hb9.mono HB68.out.size)
  have HB9 : Hid (Below w.heap.size w w9) := HB6.out.trans (HB69.out.mono HB6.out.size)
  have hRl := hrd9.lt
  clear hrd9 HTA hb9 HOP HB68 HB8 HO8
  generalize w8.heap.size = RB at *
  go_wp2_with fail
  refine HT9.out.mono ?_
  unfold TakeIs
  dsimp only
  rintro e w10 ⟨la, lc, ka, kc, rfl, hr10, hJl, hJk, hla, hka, hlc, hkc, hk10⟩
  have hs10 := hk10.size
  have p0 := (hk10.cell (p := ⟨w3.heap.size, 0, none⟩) (by show w3.heap.size < _; omega) (by simp; omega)).trans ((HB69.out.cell (p := ⟨w3.heap.size, 0, none⟩) (by show w3.heap.size < _; omega)).trans p0)
  have p1 := (hk10.cell (p := ⟨w3.heap.size, 1, none⟩) (by show w3.heap.size < _; omega) (by simp; omega)).trans ((HB69.out.cell (p := ⟨w3.heap.size, 1, none⟩) (by show w3.heap.size < _; omega)).trans p1)
  have HJ10 := Lib.hid ((HJ6.out.below HB69.out).keeps hk10 (by intro g' off' hh; cases hh; simp; omega))
  have HB10 : Hid (Below w.heap.size w w10) := HB9.out.trans (hk10.below HB9.out.size (by intro x hx; simp at hx; omega))
  have hbx := box_below w10 (.cells #[.int .i64 (pb : Int), .slice ka ks.length kc] 24)
  have hbn := World.alloc_heap_new w10 (.cells #[.int .i64 (pb : Int), .slice ka ks.length kc] 24)
  obtain ⟨w11, hw11⟩ : ∃ w11, w11 = w10.alloc (.cells #[.int .i64 (pb : Int), .slice ka ks.length kc] 24) := ⟨_, rfl⟩
  have HW11 := Lib.hid hw11
  rw [← hw11] at hbx hbn
  have HAG := Lib.hid (aAlign RB (some ⟨g8, 0, none⟩) _ w11 (hr10.keeps (keeps_of_below hbx []) (by simp) (by simp)))
  rw [more_align] at HAG
  clear hw11
  go_wp2_with fail
  rw [← HW11.out]
  refine HAG.out.mono ?_
  rintro e w12 ⟨rfl, hr12, hk12⟩
  have hs11 := hbx.size
  have hs12 := hk12.size
  have hs11' : w10.heap.size < w11.heap.size := (Array.getElem?_eq_some_iff.1 hbn).1
  have p0 := (hk12.cell (p := ⟨w3.heap.size, 0, none⟩) (by show w3.heap.size < _; omega) (by simp; omega)).trans ((hbx.cell (p := ⟨w3.heap.size, 0, none⟩) (by show w3.heap.size < _; omega)).trans p0)
  have p1 := (hk12.cell (p := ⟨w3.heap.size, 1, none⟩) (by show w3.heap.size < _; omega) (by simp; omega)).trans ((hbx.cell (p := ⟨w3.heap.size, 1, none⟩) (by show w3.heap.size < _; omega)).trans p1)
  have q0 : w12.cell? ⟨w10.heap.size, 0, none⟩ = some (.int .i64 (pb : Int)) := (hk12.cell (p := ⟨w10.heap.size, 0, none⟩) (by show w10.heap.size < _; omega) (by simp; omega)).trans (cell_of_heap hbn 0)
  have q1 : w12.cell? ⟨w10.heap.size, 1, none⟩ = some (.slice ka ks.length kc) := (hk12.cell (p := ⟨w10.heap.size, 1, none⟩) (by show w10.heap.size < _; omega) (by simp; omega)).trans (cell_of_heap hbn 1)
  have HJH := Lib.hid ((HJ10.out.below hbx).keeps hk12 (by intro g' off' hh; cases hh; simp; omega))
  have HJL := Lib.hid ((hJl.below hbx).keeps hk12 (by intro g' off' hh; have := hla g' off' hh; simp; omega))
  have HJK := Lib.hid ((hJk.below hbx).keeps hk12 (by intro g' off' hh; have := hka g' off' hh; simp; omega))
  have HB12 : Hid (Below w.heap.size w w12) := HB10.out.trans ((hbx.mono HB10.out.size).trans (hk12.below (by have := HB10.out.size; omega) (by intro x hx; simp at hx; omega)))
  have HFL := Lib.hid (aFail RB _ _ w12 hr12)
  have HLE := Lib.hid (aLeft RB _ _ w12 hr12)
  rw [bitsOf_length, Int.natCast_mul] at HLE
  have HSA := fun n => Lib.hid (refSame la lo lc lcap l l (w12.drewN n) (by omega) HJL.out ((HI.out.below HB12.out).keeps (keeps_drewN w12 n []) (by simp)))
  rw [decide_eq_true (rfl : l = l)] at HSA
  have HSP := fun n => Lib.hid (refParts ka (some ⟨H, 0, none⟩) kc mp pb pb ks ks (w12.drewN n) (by rw [HKL.out]; omega) HJK.out HJH.out)
  rw [decide_eq_true (⟨rfl, rfl⟩ : (pb : Int) = pb ∧ ks = ks), HKL.out] at HSP
  rw [HKL.out] at q1
  clear hr12 hk12 hbx hbn hJl hJk hla hka hr10 hk10 HJ10 HW11 HAG HT9
  go_wp2_with fail
  refine HFL.out.mono ?_
  rintro e wz ⟨rfl, rfl⟩
  go_wp2_with fail
  refine HLE.out.mono ?_
  rintro e wz ⟨rfl, n1, rfl⟩
  go_wp2_with fail
  refine (HSA _).out.mono ?_
  rintro e wz ⟨rfl, n2, rfl⟩
  go_wp2_with fail
  refine (HSP _).out.mono ?_
  rintro e w13 ⟨rfl, hb13⟩
  have HB13 : Hid (Below w.heap.size w w13) := HB12.out.trans (((keeps_drewN w12 (n1 + n2) []).below HB12.out.size (by simp)).trans (hb13.mono HB12.out.size))
  clear hb13
  go_wp2
  go_ret
  exact ⟨rfl, HB13.out⟩

theorem slideWhole (lo mo : Option Addr) (lcap mcap : Nat) (l : List Int) (ms : List Nat) (w : World) (hcap : l.length ≤ lcap) (hlc : lcap ≤ 9223372036854775807) (hi : IntsAt w lo l) (hz : ∀ z ∈ ms, z < 256) (hd : BytesAt w mo ms) (hnil : mo = none → ms = []) (hm : ms.length ≤ 9223372036854775807) :
    Calls Try.prog 6 #[.slice lo l.length lcap, .slice mo ms.length mcap] w fun e w' => e = .returned (.bool true) ∧ Below w.heap.size w w' := by
  by_cases h : l.length ≤ 64 ∧ listOk l = true ∧ ms.length ≤ 50
  · exact whole_few lo mo lcap mcap l ms w hcap hi hz hd hnil h.1 h.2.1 h.2.2
  · exact whole_much lo mo lcap mcap l ms w hi (by omega) hm h
end Go.Proofs.Ytnpngahpadchpaa

namespace Go.Proofs.Ytnpngahpadchpaa
open Go.RowKit Go.Proofs Go.Proofs.PipeM Go.Proofs.PipeA

theorem MR.take_spent {m : MR} (h : m.fail ≠ 0) (n : Int) : m.take n = (m, 0) := by
  unfold MR.take
  rw [MR.give_spent h, MR.give_spent h]
  split
  · rfl
  · split
    · rfl
    · first | rfl | rw [if_pos h]
theorem MR.rice_spent {m : MR} (h : m.fail ≠ 0) (k : Int) : m.rice k = (m, 0) := by
  unfold MR.rice
  rw [MR.give_spent h]
  have hr : m.run 24 = (m, 0) := by unfold MR.run; rw [if_pos h]
  rw [hr]
  split
  · rfl
  · rw [if_pos (show (0 : Nat) < 24 by decide), MR.take_spent h]
    unfold MR.riceA
    rw [if_pos h]

/-- The document's. -/
def MR.many (k : Int) : Nat → MR → MR × List Int
  | 0, m => (m, [])
  | n + 1, m => if m.fail ≠ 0 then (m, []) else ((MR.many k n (m.rice k).1).1, (m.rice k).2 :: (MR.many k n (m.rice k).1).2)
def MR.partM (size : Nat) (m : MR) : MR × List Int := MR.many ((m.take 5).2 : Nat) size (m.take 5).1
def MR.body (size : Nat) : Nat → MR → MR × List Int × List Int
  | 0, m => (m, [], [])
  | c + 1, m => if m.fail ≠ 0 then (m, [], []) else ((MR.body size c (m.partM size).1).1, (m.partM size).2 ++ (MR.body size c (m.partM size).1).2.1, (((m.take 5).2 : Nat) : Int) :: (MR.body size c (m.partM size).1).2.2)
def MR.form (m : MR) (n p : Nat) : MR := if n % 2 ^ p ≠ 0 then m.give 2 else m
def MR.slideB (m : MR) (n p : Nat) : MR × List Int × Nat × List Int :=
  if (MR.body (n / 2 ^ p) (2 ^ p) (m.form n p)).1.fail ≠ 0 then ((MR.body (n / 2 ^ p) (2 ^ p) (m.form n p)).1, [], 0, []) else ((MR.body (n / 2 ^ p) (2 ^ p) (m.form n p)).1, (MR.body (n / 2 ^ p) (2 ^ p) (m.form n p)).2.1, p, (MR.body (n / 2 ^ p) (2 ^ p) (m.form n p)).2.2)
def MR.slide (m : MR) (n : Int) : MR × List Int × Nat × List Int :=
  if n < 1 ∨ 1024 < n then (m.give 1, [], 0, []) else (m.take 2).1.slideB n.toNat (m.take 2).2

theorem Sim.spentMany {s : RS} {m : MR} (h : Sim s m) (hf : m.fail ≠ 0) (k : Int) : ∀ n, Sim (RS.many k n s).1 m := by
  intro n
  induction n generalizing s with
  | zero => exact h
  | succ n ih =>
    rw [RS.many]
    have h1 := (h.rice k).1
    rw [MR.rice_spent hf] at h1
    exact ih h1
theorem Sim.many {s : RS} {m : MR} (h : Sim s m) (k : Int) : ∀ n, Sim (RS.many k n s).1 (MR.many k n m).1 ∧ ((MR.many k n m).1.fail = 0 → (RS.many k n s).2 = (MR.many k n m).2) := by
  intro n
  induction n generalizing s m with
  | zero => exact ⟨h, fun _ => rfl⟩
  | succ n ih =>
    rw [MR.many]
    by_cases hf : m.fail = 0
    · rw [if_neg (by simpa using hf), RS.many]
      obtain ⟨h1, h2⟩ := h.rice k
      obtain ⟨h3, h4⟩ := ih h1
      exact ⟨h3, fun e => by rw [h4 e, h2]⟩
    · rw [if_pos hf]
      exact ⟨h.spentMany hf k (n + 1), fun e => absurd e hf⟩
theorem Sim.part {s : RS} {m : MR} (h : Sim s m) (size : Nat) : Sim (s.partS size).1 (m.partM size).1 ∧ ((m.partM size).1.fail = 0 → (s.partS size).2 = (m.partM size).2) := by
  obtain ⟨h1, h2⟩ := h.take 5
  unfold RS.partS MR.partM
  rw [← h2]
  exact h1.many _ size
theorem MR.body_spent {m : MR} (h : m.fail ≠ 0) (size : Nat) : ∀ c, MR.body size c m = (m, [], [])
  | 0 => rfl
  | c + 1 => by rw [MR.body, if_pos h]
theorem Sim.body {s : RS} {m : MR} (h : Sim s m) (hf : m.fail = 0) (size : Nat) : ∀ c, Sim (RS.body size c s).1 (MR.body size c m).1 ∧ ((MR.body size c m).1.fail = 0 → (RS.body size c s).2 = (MR.body size c m).2) := by
  intro c
  induction c generalizing s m with
  | zero => exact ⟨h, fun _ => rfl⟩
  | succ c ih =>
    obtain ⟨h1, h2⟩ := h.part size
    rw [MR.body, if_neg (by simpa using hf), RS.body]
    by_cases hq : (m.partM size).1.fail = 0
    · rw [if_neg (by rw [h1.err]; simpa using hq)]
      obtain ⟨h3, h4⟩ := ih h1 hq
      exact ⟨h3, fun e => by rw [h4 e, h2 hq, (h.take 5).2]⟩
    · rw [if_pos (by rw [h1.err]; exact hq), MR.body_spent hq]
      exact ⟨h1, fun e => absurd e hq⟩

theorem spent_body {s : RS} {m : MR} (h : Sim s m) (hf : m.fail ≠ 0) (size : Nat) : ∀ c, Sim (RS.body size c s).1 m
  | 0 => h
  | c + 1 => by
    have ht := (h.take 5).1
    rw [MR.take_spent hf] at ht
    have hp : Sim (s.partS size).1 m := ht.spentMany hf _ size
    rw [RS.body, if_pos (by rw [hp.err]; exact hf)]
    exact hp

/-- The program's reader takes a list as the document's does. -/
theorem Sim.slide {s : RS} {m : MR} (h : Sim s m) (n : Int) : Sim (s.slide n).1 (m.slide n).1 ∧ (s.slide n).2 = (m.slide n).2 := by
  unfold RS.slide MR.slide
  by_cases hn : n < 1 ∨ 1024 < n
  · rw [if_pos hn, if_pos hn]; exact ⟨h.give 1, rfl⟩
  · rw [if_neg hn, if_neg hn]
    obtain ⟨h1, h2⟩ := h.take 2
    rw [h2]
    by_cases hd : n.toNat % 2 ^ (m.take 2).2 = 0
    · have hform : (m.take 2).1.form n.toNat (m.take 2).2 = (m.take 2).1 := by unfold MR.form; rw [if_neg (by simpa using hd)]
      unfold MR.slideB RS.slideB
      rw [hform, if_neg (by simpa using hd)]
      by_cases hf : (m.take 2).1.fail = 0
      · obtain ⟨h3, h4⟩ := h1.body hf (n.toNat / 2 ^ (m.take 2).2) (2 ^ (m.take 2).2)
        rw [h3.err]
        split
        · exact ⟨h3, rfl⟩
        · rename_i hz
          have e := h4 (by simpa using hz)
          exact ⟨h3, by rw [e]⟩
      · have hsp := spent_body h1 hf (n.toNat / 2 ^ (m.take 2).2) (2 ^ (m.take 2).2)
        rw [MR.body_spent hf, if_pos hf, if_pos (by rw [hsp.err]; exact hf)]
        exact ⟨hsp, rfl⟩
    · have hg : ((m.take 2).1.give 2).fail ≠ 0 := give_fail _ 2 (by decide)
      have hform : (m.take 2).1.form n.toNat (m.take 2).2 = (m.take 2).1.give 2 := by unfold MR.form; rw [if_pos hd]
      unfold MR.slideB
      rw [hform, if_pos hd, MR.body_spent hg, if_pos hg]
      exact ⟨h1.give 2, rfl⟩
end Go.Proofs.Ytnpngahpadchpaa

namespace Go.Proofs.Ytnpngahpadchpaa
open Go.RowKit Go.Proofs Go.Proofs.PipeM Go.Proofs.PipeA
set_option maxRecDepth 100000

def intsOf (l : List Int) : List Value := l.map fun n => Value.int .i64 n
theorem intsOf_snoc (l : List Int) (n : Int) : intsOf (l ++ [n]) = intsOf l ++ [.int .i64 n] := by simp [intsOf]
theorem ints_own {w : World} {base g cap : Nat} {l : List Int} (h : w.ownsRow base 3 1 (.slice (some ⟨g, 0, none⟩) l.length cap) l.length (intsOf l)) : IntsAt w (some ⟨g, 0, none⟩) l := by
  intro j hj
  refine ⟨g, 0, rfl, ((own_block_lt h) g rfl).2, ?_⟩
  rw [Nat.zero_add, h.cellAt j (by simpa [intsOf] using hj)]
  simp [intsOf]
theorem ints_own_any {w : World} {base : Nat} {ao : Option Addr} {cap : Nat} {l : List Int} (h : w.ownsRow base 3 1 (.slice ao l.length cap) l.length (intsOf l)) : IntsAt w ao l := by
  rcases h.2 with ⟨h1, h2⟩ | ⟨g, cap', cur, h1, _⟩
  · have : l = [] := List.eq_nil_of_length_eq_zero h2
    subst this
    intro j hj; simp at hj
  · simp only [Value.slice.injEq] at h1
    obtain ⟨rfl, _, rfl⟩ := h1
    exact ints_own h
theorem own_cap {w : World} {base : Nat} {ao : Option Addr} {cap n : Nat} {l : List Value} (h : w.ownsRow base 3 1 (.slice ao n cap) n l) : n ≤ cap := by
  rcases h.2 with ⟨h1, h2⟩ | ⟨g, cap', cur, h1, _, _, h3, _⟩
  · omega
  · simp only [Value.slice.injEq] at h1
    obtain ⟨_, _, rfl⟩ := h1
    exact h3

set_option maxHeartbeats 800000 in
theorem one_out (n : Int) (mm : Nat) (w : World) (h : n < -8589934592 ∨ 8589934591 < n) :
    Calls Try.prog 7 #[.int .i64 n, .int .u8 mm] w fun e w' => e = .returned (.bool true) ∧ Below w.heap.size w w' := by
  have t : decide (n < -8589934592) = true ∨ (decide (n < -8589934592) = false ∧ decide (8589934591 < n) = true) := by
    by_cases h1 : n < -8589934592
    · exact Or.inl (decide_eq_true h1)
    · exact Or.inr ⟨decide_eq_false h1, decide_eq_true (by omega)⟩
  clear h
  rcases t with t1 | ⟨t1, t2⟩
  all_goals
    go_enter Try.func7, Try.ntmps7
    go_wp2_with fail
    refine (awake3 w).mono ?_
    rintro e w1 ⟨rfl, hb1⟩
    have HB1 := Lib.hid hb1
    clear hb1
    go_wp2_with fail
    refine (awake3 w1).mono ?_
    rintro e w2 ⟨rfl, hb2⟩
    have HB2 := Lib.hid hb2
    clear hb2
    go_wp2
    go_ret
    exact ⟨rfl, HB1.out.trans (HB2.out.mono HB1.out.size)⟩

theorem rep_ok (n : Int) (c : Nat) (h : InR n) (hc : 1 ≤ c) (hc2 : c ≤ 1024) : listOk (List.replicate c n) = true := by
  unfold listOk
  rw [Bool.and_eq_true]
  refine ⟨List.all_eq_true.2 (fun x hx => ?_), decide_eq_true (by simp; omega)⟩
  rw [List.eq_of_mem_replicate hx]
  exact decide_eq_true h

set_option maxHeartbeats 1600000 in
theorem one_in (n : Int) (mm : Nat) (w : World) (h : InR n) (hm : mm ≤ 255) :
    Calls Try.prog 7 #[.int .i64 n, .int .u8 mm] w fun e w' => e = .returned (.bool true) ∧ Below w.heap.size w w' := by
  have t1 : decide (n < -8589934592) = false := decide_eq_false (by have := h.1; omega)
  have t2 : decide (8589934591 < n) = false := decide_eq_false (by have := h.2; omega)
  have HN := Lib.hid h
  obtain ⟨q, hq⟩ : ∃ q, q = 1 + mm % 64 := ⟨_, rfl⟩
  have hq1 : 1 ≤ q := by omega
  have hq2 : q ≤ 64 := by omega
  have e0 : 1 + (mm : Int) % 64 = (q : Int) := by omega
  obtain ⟨i0, hi, hz0, hz1, hz2⟩ := info_parts info_int
  clear hq h
  go_enter Try.func7, Try.ntmps7
  go_wp2_with fail
  refine (awake3 w).mono ?_
  rintro e w1 ⟨rfl, hb1⟩
  have HB1 := Lib.hid hb1
  clear hb1
  go_wp2_with fail
  go_loopg [5, 23] q (fun gk v i wr => ∃ k : Nat, k ≤ q ∧ gk + k = q ∧ i = .int .i64 k ∧ wr.ownsRow w1.heap.size 3 1 v k (intsOf (List.replicate k n)) ∧ Below w1.heap.size w1 wr)
  case atStart => exact ⟨0, Nat.zero_le _, by omega, rfl, World.ownsRow_nil _ _ _ _, Below.refl _ _⟩
  case round =>
    obtain ⟨k, hk, hgk, rfl, hown, hb⟩ := hrel
    have HGK := Lib.hid hgk
    clear hgk
    by_cases hlt : k < q
    · obtain ⟨ao, cap, rfl⟩ := own_slice hown
      go_wp2_with (at_builtin; refine wpList_append_own _ rfl _ _ 22 rfl w1.heap.size 3 i0 (.int .i64 0) 1 8 Try.underlying22 hi hz0 hz1 hz2 rfl (by decide) _ _ _ rfl (hown.alloc _) ⟨wr.heap.size, 0, none⟩ 1 1 [.int .i64 n] rfl rfl ?c1 ?c2 ?c3 ?c4 ?c5 ?_)
      case c1 =>
        intro j u hj
        match j, hj with
        | 0, hj => simp at hj; subst hj; simp [Addr.add]
      case c2 => intro u hu; simp at hu; subst hu; rfl
      case c3 => unfold maxLen; omega
      case c4 => omega
      case c5 => have := hb.size; simp; omega
      intro v' w2 hown' hgrow _
      have hb' : Below w1.heap.size w1 w2 := (hb.alloc hb.size _).grown hgrow (by have := hb.size; simp; omega) (by
        intro g hg
        have := (own_block_lt hown) g hg
        exact this.1)
      rw [← intsOf_snoc, ← List.replicate_succ'] at hown'
      clear hgrow hown
      go_wp2
      go_roundg (gk - 1)
      case rel => exact ⟨k + 1, by omega, by have := HGK.out; omega, by go_num, hown', hb'⟩
      case measure => have := HGK.out; omega
    · obtain rfl : k = q := by omega
      obtain ⟨ao, cap, rfl⟩ := own_slice hown
      have hlen : (List.replicate k n).length = k := List.length_replicate
      have hown2 : wr.ownsRow w1.heap.size 3 1 (.slice ao (List.replicate k n).length cap) (List.replicate k n).length (intsOf (List.replicate k n)) := by rw [hlen]; exact hown
      have hI := ints_own_any hown2
      have hcap := own_cap hown
      have hok := rep_ok n k HN.out hq1 (by omega)
      have HBS := Lib.hid (cSBest_yes ao cap (List.replicate k n) wr (by rw [hlen]; exact hcap) hI hok)
      rw [hlen] at HBS
      have HBI := fun W H (hW : Below wr.heap.size wr W) (hJ : IntsAt W (some ⟨H, 0, none⟩) (ksAt (List.replicate k n) 0)) => Lib.hid (cBits ao (some ⟨H, 0, none⟩) cap 1 (List.replicate k n) 0 (ksAt (List.replicate k n) 0) W (by rw [hlen]; exact hcap) (by rw [hlen]; omega) (by rw [ksAt_length]; decide) (hI.below hW) hJ)
      rw [hlen, ksAt_length] at HBI
      have hL := powAt_len hok (Nat.zero_le _)
      have hle := lenP_rep n k hq1
      have hbp := bestP_rep n k hq1
      rw [show ((0 : Nat) : Int) = 0 from rfl] at hL
      rw [hL] at HBI
      have HBP := Lib.hid hbp
      have HBW := Lib.hid (HB1.out.trans (hb.mono HB1.out.size))
      obtain ⟨bb, hbb⟩ : ∃ bb, bb = lenAt (List.replicate k n) 0 := ⟨_, rfl⟩
      rw [← hbb] at HBI hle
      have HBB := Lib.hid hbb
      clear hL hbp hok hI hown hown2 hb hlen hbb
      go_wp2_with fail
      refine HBS.out.mono ?_
      rintro e w5 ⟨H, rfl, hJ5, hH5, hb5⟩
      rw [HBP.out] at hJ5 ⊢
      rw [← HBB.out]
      simp only [Nat.pow_zero]
      have HBI5 := HBI (w5.alloc (.cells #[.int .i64 ((0 : Nat) : Int), .slice (some ⟨H, 0, none⟩) 1 1] 24)) H (hb5.trans ((box_below w5 _).mono hb5.size)) (hJ5.below (box_below w5 _))
      have HB5 := Lib.hid (hb5.trans ((box_below w5 (.cells #[.int .i64 ((0 : Nat) : Int), .slice (some ⟨H, 0, none⟩) 1 1] 24)).mono hb5.size))
      have tle : decide ((bb : Int) ≤ 7 + (k : Int) * 59) = true := decide_eq_true (by omega)
      simp only [Nat.pow_zero] at HBI5
      clear hJ5 hb5 HBI hH5 hcap
      go_wp2_with fail
      refine HBI5.out.mono ?_
      rintro e w6 ⟨rfl, hb6⟩
      have HB6 := Lib.hid hb6
      clear hb6 HBI5
      go_wp2
      go_ret
      have h5 := HBW.out.trans (HB5.out.mono HBW.out.size)
      exact ⟨rfl, h5.trans (HB6.out.mono h5.size)⟩

theorem slideOne (n : Int) (mm : Nat) (w : World) (hm : mm ≤ 255) :
    Calls Try.prog 7 #[.int .i64 n, .int .u8 mm] w fun e w' => e = .returned (.bool true) ∧ Below w.heap.size w w' := by
  by_cases h : n < -8589934592 ∨ 8589934591 < n
  · exact one_out n mm w h
  · exact one_in n mm w ⟨by omega, by omega⟩ hm
end Go.Proofs.Ytnpngahpadchpaa

namespace Go.Proofs.Ytnpngahpadchpaa
open Go.RowKit Go.Proofs Go.Proofs.PipeM Go.Proofs.PipeA
set_option maxRecDepth 100000

/-- Three cells of a block. -/
structure Box3 (w : World) (b : Nat) (v0 v1 v2 : Value) : Prop where
  lt : b < w.heap.size
  c0 : w.cell? ⟨b, 0, none⟩ = some v0
  c1 : w.cell? ⟨b, 1, none⟩ = some v1
  c2 : w.cell? ⟨b, 2, none⟩ = some v2
  f0 : w.frozen? ⟨b, 0, none⟩ = false
  f1 : w.frozen? ⟨b, 1, none⟩ = false
  f2 : w.frozen? ⟨b, 2, none⟩ = false

theorem Box3.keeps {w w' : World} {b : Nat} {bs : List Nat} {v0 v1 v2 : Value} (h : Box3 w b v0 v1 v2) (hk : Keeps bs w w') (hb : b ∉ bs) : Box3 w' b v0 v1 v2 :=
  ⟨Nat.lt_of_lt_of_le h.lt hk.size, (hk.cell (p := ⟨b, 0, none⟩) h.lt hb).trans h.c0, (hk.cell (p := ⟨b, 1, none⟩) h.lt hb).trans h.c1, (hk.cell (p := ⟨b, 2, none⟩) h.lt hb).trans h.c2,
    (hk.frozen (p := ⟨b, 0, none⟩) h.lt hb).trans h.f0, (hk.frozen (p := ⟨b, 1, none⟩) h.lt hb).trans h.f1, (hk.frozen (p := ⟨b, 2, none⟩) h.lt hb).trans h.f2⟩

theorem Box3.set3 {w : World} {b : Nat} {v0 v1 v2 : Value} (h : Box3 w b v0 v1 v2) (x0 x1 x2 : Value) :
    Box3 (((w.setCell ⟨b, 0, none⟩ x0).setCell ⟨b, 1, none⟩ x1).setCell ⟨b, 2, none⟩ x2) b x0 x1 x2 ∧ Keeps [b] w (((w.setCell ⟨b, 0, none⟩ x0).setCell ⟨b, 1, none⟩ x1).setCell ⟨b, 2, none⟩ x2) := by
  obtain ⟨q0, q1, q2⟩ := set3_cells h.c0 h.c1 h.c2 x0 x1 x2
  refine ⟨⟨by simpa using h.lt, q0, q1, q2, by simp [h.f0], by simp [h.f1], by simp [h.f2]⟩, rfl, rfl, rfl, by simp, fun k _ hn => ?_⟩
  simp at hn
  rw [Below.heap_setCell _ _ _ _ (by simp; omega), Below.heap_setCell _ _ _ _ (by simp; omega), Below.heap_setCell _ _ _ _ (by simp; omega)]

theorem Box3.new (w : World) (v0 v1 v2 : Value) (t : TypeId) : Box3 (w.alloc (.cells #[v0, v1, v2] t)) w.heap.size v0 v1 v2 :=
  ⟨by simp, by simp, by simp, by simp, by simp, by simp, by simp⟩

theorem rice_lenS (m : MR) (k : Int) : (m.rice k).1.bits.length ≤ m.bits.length := by
  have hg : ∀ (m : MR) (e : Int), (m.give e).bits.length ≤ m.bits.length := fun m e => by unfold MR.give; split <;> simp
  unfold MR.rice
  split
  · exact hg m 1
  · split
    · unfold MR.riceA
      split
      · exact Nat.le_trans (take_len _ _) (run_len _ _)
      · exact Nat.le_trans (take_len _ _) (run_len _ _)
    · unfold MR.riceB
      have hb := Nat.le_trans (take_len (m.run 24).1 34) (run_len m 24)
      by_cases hd : ((m.run 24).1.take 34).2 / 2 ^ k.toNat < 24
      · simp only [if_pos hd]
        have := Nat.le_trans (hg ((m.run 24).1.take 34).1 2) hb
        split <;> exact this
      · simp only [if_neg hd]
        split <;> exact hb

/-- Where the document's taking stands: the reader in its box, the parameters, the numbers. -/
structure TRel (W0 : World) (RB XB p : Nat) (m : MR) (lv kv : Value) (ls ks : List Int) (W : World) : Prop where
  kp : Keeps [RB, XB] W0 W
  r : Box3 W RB (.string (str m.bits)) (.int .i64 m.all) (.int .i64 m.fail)
  x0 : W.cell? ⟨XB, 0, none⟩ = some (.int .i64 (p : Int))
  x1 : W.cell? ⟨XB, 1, none⟩ = some kv
  xf : W.frozen? ⟨XB, 1, none⟩ = false
  lown : W.ownsRow W0.heap.size 3 1 lv ls.length (intsOf ls)
  kown : W.ownsRow W0.heap.size 3 1 kv ks.length (intsOf ks)
  sep : ∀ g, lv.ownBlock = some g → kv.ownBlock ≠ some g
  lt : RB < W0.heap.size ∧ XB < W0.heap.size ∧ RB ≠ XB

theorem TRel.far {W0 : World} {RB XB p : Nat} {m : MR} {lv kv : Value} {ls ks : List Int} {W W' : World} (h : TRel W0 RB XB p m lv kv ls ks W) (m' : MR) (hk : Keeps [RB] W W') (hr : Box3 W' RB (.string (str m'.bits)) (.int .i64 m'.all) (.int .i64 m'.fail)) :
    TRel W0 RB XB p m' lv kv ls ks W' := by
  have hx : XB < W.heap.size := Nat.lt_of_lt_of_le h.lt.2.1 h.kp.size
  have hne : XB ∉ [RB] := by have := h.lt.2.2; simp; omega
  refine ⟨h.kp.trans (hk.mono (by simp)), hr, (hk.cell (p := ⟨XB, 0, none⟩) hx hne).trans h.x0, (hk.cell (p := ⟨XB, 1, none⟩) hx hne).trans h.x1, (hk.frozen (p := ⟨XB, 1, none⟩) hx hne).trans h.xf, ?_, ?_, h.sep, h.lt⟩
  · refine ownsRow_keeps h.lown hk fun g hg hm => ?_
    have := (own_block_lt h.lown g hg).1; have := h.lt.1; simp at hm; omega
  · refine ownsRow_keeps h.kown hk fun g hg hm => ?_
    have := (own_block_lt h.kown g hg).1; have := h.lt.1; simp at hm; omega

theorem TRel.read {W0 : World} {RB XB p : Nat} {m : MR} {lv kv : Value} {ls ks : List Int} {W W1 : World} (h : TRel W0 RB XB p m lv kv ls ks W) (hb : Below W.heap.size W W1) (o : Obj) (m' : MR) :
    TRel W0 RB XB p m' lv kv ls ks ((((W1.alloc o).setCell ⟨RB, 0, none⟩ (.string (str m'.bits))).setCell ⟨RB, 1, none⟩ (.int .i64 m'.all)).setCell ⟨RB, 2, none⟩ (.int .i64 m'.fail)) := by
  have k1 : Keeps [] W (W1.alloc o) := (keeps_of_below hb []).trans (keeps_of_below (box_below W1 o) [])
  obtain ⟨hbx, hk⟩ := (h.r.keeps k1 (by simp)).set3 (.string (str m'.bits)) (.int .i64 m'.all) (.int .i64 m'.fail)
  exact h.far m' ((k1.mono (by simp)).trans hk) hbx

theorem TRel.pushK {W0 : World} {RB XB p : Nat} {m : MR} {lv kv kv' : Value} {ls ks : List Int} {k : Int} {W W1 : World} (h : TRel W0 RB XB p m lv kv ls ks W) (hk : Keeps kv.ownBlock.toList W W1)
    (ho : W1.ownsRow W0.heap.size 3 1 kv' (ks.length + 1) (intsOf ks ++ [.int .i64 k])) (hat : kv'.ownBlock = kv.ownBlock ∨ ∃ g, kv'.ownBlock = some g ∧ W.heap.size ≤ g) :
    TRel W0 RB XB p m lv kv' ls (ks ++ [k]) (W1.setCell ⟨XB, 1, none⟩ kv') := by
  have hge : ∀ g ∈ kv.ownBlock.toList, W0.heap.size ≤ g := fun g hg => (own_block_lt h.kown g (by simpa using hg)).1
  have hx : XB < W.heap.size := Nat.lt_of_lt_of_le h.lt.2.1 h.kp.size
  have hxn : XB ∉ kv.ownBlock.toList := fun hm => by have := hge XB hm; have := h.lt.2.1; omega
  have hrn : RB ∉ kv.ownBlock.toList := fun hm => by have := hge RB hm; have := h.lt.1; omega
  have ks2 := keeps_setCell W1 XB 1 kv'
  have hs1 := hk.size
  have x1 : W1.cell? ⟨XB, 1, none⟩ = some kv := (hk.cell (p := ⟨XB, 1, none⟩) hx hxn).trans h.x1
  have hl1 : W1.ownsRow W0.heap.size 3 1 lv ls.length (intsOf ls) := ownsRow_keeps h.lown hk fun g hg hm => h.sep g hg (by simpa using hm)
  refine ⟨(h.kp.trans_new hk (fun x hx => Or.inr (hge x hx))).trans (ks2.mono (by simp)), (h.r.keeps hk hrn).keeps ks2 (by have := h.lt.2.2; simp; exact this), ?_, ?_, ?_, ?_, ?_, ?_, h.lt⟩
  · rw [World.cell?_setCell_other _ _ _ _ (by simp)]
    exact (hk.cell (p := ⟨XB, 0, none⟩) hx hxn).trans h.x0
  · exact World.cell?_setCell_same' _ _ _ (by rw [x1]; rfl)
  · rw [World.frozen?_setCell]
    exact (hk.frozen (p := ⟨XB, 1, none⟩) hx hxn).trans h.xf
  · refine ownsRow_keeps hl1 ks2 fun g hg hm => ?_
    have := (own_block_lt hl1 g hg).1; have := h.lt.2.1; simp at hm; omega
  · rw [List.length_append, List.length_singleton, intsOf_snoc]
    refine ownsRow_keeps ho ks2 fun g hg hm => ?_
    have := (own_block_lt ho g hg).1; have := h.lt.2.1; simp at hm; omega
  · intro g hg
    rcases hat with e | ⟨g', e, hn⟩
    · rw [e]; exact h.sep g hg
    · rw [e]
      intro e2
      cases e2
      have := (own_block_lt h.lown g hg).2
      omega

theorem TRel.pushL {W0 : World} {RB XB p : Nat} {m : MR} {lv kv lv' : Value} {ls ks : List Int} {v : Int} {W W1 : World} (h : TRel W0 RB XB p m lv kv ls ks W) (hk : Keeps lv.ownBlock.toList W W1)
    (ho : W1.ownsRow W0.heap.size 3 1 lv' (ls.length + 1) (intsOf ls ++ [.int .i64 v])) (hat : lv'.ownBlock = lv.ownBlock ∨ ∃ g, lv'.ownBlock = some g ∧ W.heap.size ≤ g) :
    TRel W0 RB XB p m lv' kv (ls ++ [v]) ks W1 := by
  have hge : ∀ g ∈ lv.ownBlock.toList, W0.heap.size ≤ g := fun g hg => (own_block_lt h.lown g (by simpa using hg)).1
  have hx : XB < W.heap.size := Nat.lt_of_lt_of_le h.lt.2.1 h.kp.size
  have hxn : XB ∉ lv.ownBlock.toList := fun hm => by have := hge XB hm; have := h.lt.2.1; omega
  have hrn : RB ∉ lv.ownBlock.toList := fun hm => by have := hge RB hm; have := h.lt.1; omega
  refine ⟨h.kp.trans_new hk (fun x hx => Or.inr (hge x hx)), h.r.keeps hk hrn, (hk.cell (p := ⟨XB, 0, none⟩) hx hxn).trans h.x0, (hk.cell (p := ⟨XB, 1, none⟩) hx hxn).trans h.x1, (hk.frozen (p := ⟨XB, 1, none⟩) hx hxn).trans h.xf, ?_, ?_, ?_, h.lt⟩
  · rw [List.length_append, List.length_singleton, intsOf_snoc]; exact ho
  · exact ownsRow_keeps h.kown hk fun g hg hm => h.sep g (by simpa using hm) hg
  · intro g hg hk2
    rcases hat with e | ⟨g', e, hn⟩
    · rw [e] at hg; exact h.sep g hg hk2
    · rw [e] at hg
      cases hg
      have := (own_block_lt h.kown g hk2).2
      omega

/-- The results' cells, as they are laid first. -/
structure Outs (W : World) (B4 B6 : Nat) : Prop where
  b4 : Box3 W B4 (.string ⟨#[]⟩) (.int .i64 0) (.int .i64 0)
  c0 : W.cell? ⟨B6, 0, none⟩ = some (.int .i64 0)
  c1 : W.cell? ⟨B6, 1, none⟩ = some (.slice none 0 0)
  f0 : W.frozen? ⟨B6, 0, none⟩ = false
  f1 : W.frozen? ⟨B6, 1, none⟩ = false
  lt : B6 < W.heap.size
  ne : B4 ≠ B6
theorem Outs.keeps {W W' : World} {B4 B6 : Nat} {bs : List Nat} (h : Outs W B4 B6) (hk : Keeps bs W W') (h4 : B4 ∉ bs) (h6 : B6 ∉ bs) : Outs W' B4 B6 :=
  ⟨h.b4.keeps hk h4, (hk.cell (p := ⟨B6, 0, none⟩) h.lt h6).trans h.c0, (hk.cell (p := ⟨B6, 1, none⟩) h.lt h6).trans h.c1, (hk.frozen (p := ⟨B6, 0, none⟩) h.lt h6).trans h.f0, (hk.frozen (p := ⟨B6, 1, none⟩) h.lt h6).trans h.f1, Nat.lt_of_lt_of_le h.lt hk.size, h.ne⟩
def setM (W : World) (B4 B6 : Nat) (a0 a1 a2 x0 x1 : Value) : World := ((((W.setCell ⟨B4, 0, none⟩ a0).setCell ⟨B4, 1, none⟩ a1).setCell ⟨B4, 2, none⟩ a2).setCell ⟨B6, 0, none⟩ x0).setCell ⟨B6, 1, none⟩ x1
theorem setM_is {W : World} {B4 B6 : Nat} (h : Outs W B4 B6) (a0 a1 a2 x0 x1 : Value) : Keeps [B4, B6] W (setM W B4 B6 a0 a1 a2 x0 x1) ∧ (setM W B4 B6 a0 a1 a2 x0 x1).cell? ⟨B4, 0, none⟩ = some a0 ∧ (setM W B4 B6 a0 a1 a2 x0 x1).cell? ⟨B4, 1, none⟩ = some a1 ∧ (setM W B4 B6 a0 a1 a2 x0 x1).cell? ⟨B4, 2, none⟩ = some a2 ∧ (setM W B4 B6 a0 a1 a2 x0 x1).cell? ⟨B6, 0, none⟩ = some x0 ∧ (setM W B4 B6 a0 a1 a2 x0 x1).cell? ⟨B6, 1, none⟩ = some x1 := by
  obtain ⟨hb, hk⟩ := h.b4.set3 a0 a1 a2
  have hne := h.ne
  have h6 : B6 ∉ [B4] := by simp; omega
  have e0 := (hk.cell (p := ⟨B6, 0, none⟩) h.lt h6).trans h.c0
  have e1 := (hk.cell (p := ⟨B6, 1, none⟩) h.lt h6).trans h.c1
  unfold setM
  generalize ((W.setCell ⟨B4, 0, none⟩ a0).setCell ⟨B4, 1, none⟩ a1).setCell ⟨B4, 2, none⟩ a2 = V at hb hk e0 e1 ⊢
  have k2 : Keeps [B6] V ((V.setCell ⟨B6, 0, none⟩ x0).setCell ⟨B6, 1, none⟩ x1) := (keeps_setCell V B6 0 x0).trans (keeps_setCell _ B6 1 x1)
  have hb2 := hb.keeps k2 (by simp; omega)
  refine ⟨(hk.mono (by simp)).trans (k2.mono (by simp)), hb2.c0, hb2.c1, hb2.c2, ?_, ?_⟩
  · rw [World.cell?_setCell_other _ _ _ _ (by simp)]
    exact World.cell?_setCell_same' _ _ _ (by rw [e0]; rfl)
  · exact World.cell?_setCell_same' _ _ _ (by rw [World.cell?_setCell_other _ _ _ _ (by simp), e1]; rfl)
theorem outs_new (w : World) (o : Obj) (t u : TypeId) : Outs (((w.alloc o).alloc (.cells #[.string ⟨#[]⟩, .int .i64 0, .int .i64 0] t)).alloc (.cells #[.int .i64 0, .slice none 0 0] u)) (w.heap.size + 1) (w.heap.size + 1 + 1) := by
  obtain ⟨_, h2, h3, hz, _⟩ := alloc3h w o (.cells #[.string ⟨#[]⟩, .int .i64 0, .int .i64 0] t) (.cells #[.int .i64 0, .slice none 0 0] u)
  exact ⟨⟨by omega, cell_of_heap h2 0, cell_of_heap h2 1, cell_of_heap h2 2, frozen_of_heap h2 0, frozen_of_heap h2 1, frozen_of_heap h2 2⟩, cell_of_heap h3 0, cell_of_heap h3 1, frozen_of_heap h3 0, frozen_of_heap h3 1, by omega, by omega⟩

/-- What the document's Take leaves, and answers. -/
def MTakeIs (r : MR × List Int × Nat × List Int) (w : World) (e : Ending) (w' : World) : Prop :=
  ∃ la lc ka kc, e = .returned (.tuple #[r.1.val, .slice la r.2.1.length lc, .agg #[.int .i64 ((r.2.2.1 : Nat) : Int), .slice ka r.2.2.2.length kc]]) ∧ IntsAt w' la r.2.1 ∧ IntsAt w' ka r.2.2.2 ∧ Below w.heap.size w w'

theorem MR.take_val (m : MR) : (m.take 2).2 < 4 ∧ (m.take 5).2 < 32 := by
  constructor
  · unfold MR.take
    split
    · simp
    · split
      · simp
      · split
        · simp
        · rename_i h _
          have := num_lt (m.bits.take (2 : Int).toNat)
          refine Nat.lt_of_lt_of_le this (Nat.le_trans (Nat.pow_le_pow_right (by decide) (List.length_take_le _ _)) (by decide))
  · unfold MR.take
    split
    · simp
    · split
      · simp
      · split
        · simp
        · have := num_lt (m.bits.take (5 : Int).toNat)
          refine Nat.lt_of_lt_of_le this (Nat.le_trans (Nat.pow_le_pow_right (by decide) (List.length_take_le _ _)) (by decide))

set_option maxHeartbeats 800000 in
theorem mSlide_no (m : MR) (n : Int) (w : World) (hn : n < 1 ∨ 1024 < n) :
    Calls Try.prog 24 #[m.val, .int .i64 n] w (MTakeIs (m.give 1, [], 0, []) w) := by
  have t : decide (n < 1) = true ∨ (decide (n < 1) = false ∧ decide (1024 < n) = true) := by
    by_cases h : n < 1
    · exact Or.inl (decide_eq_true h)
    · exact Or.inr ⟨decide_eq_false h, decide_eq_true (by omega)⟩
  have HG := fun W => Lib.hid (mGive m 1 W)
  have HV : Hid (m.val = .agg #[.string (str m.bits), .int .i64 m.all, .int .i64 m.fail]) := Lib.hid rfl
  rw [HV.out] at HG ⊢
  obtain ⟨gm, hgm⟩ : ∃ gm, gm = m.give 1 := ⟨_, rfl⟩
  rw [← hgm] at HG ⊢
  generalize str m.bits = st at HG ⊢
  generalize m.all = al at HG ⊢
  generalize m.fail = fa at HG ⊢
  clear hgm HV
  go_enter Try.func24, Try.ntmps24
  rcases t with t | ⟨t, t'⟩
  all_goals
    go_wp2_with fail
    refine (HG _).out.mono ?_
    rintro e w1 ⟨rfl, hb1⟩
    have ho := (outs_new w (.cells #[.string st, .int .i64 al, .int .i64 fa] 50) 50 29).keeps (keeps_of_below hb1 []) (by simp) (by simp)
    have HB1 : Hid (Below w.heap.size w w1) := Lib.hid (by
      have h3 := (alloc3h w (.cells #[.string st, .int .i64 al, .int .i64 fa] 50) (.cells #[.string ⟨#[]⟩, .int .i64 0, .int .i64 0] 50) (.cells #[.int .i64 0, .slice none 0 0] 29)).2.2.2.2
      exact h3.trans (hb1.mono h3.size))
    obtain ⟨⟨_, e0, e1, e2, g0, g1, g2⟩, e3, e4, g3, g4, _, _⟩ := id ho
    obtain ⟨hk, y0, y1, y2, y3, y4⟩ := setM_is ho (.string (str gm.bits)) (.int .i64 gm.all) (.int .i64 gm.fail) (.int .i64 0) (.slice none 0 0)
    have HF : Hid (MTakeIs (gm, [], 0, []) w (.returned (.tuple #[gm.val, .slice none 0 0, .agg #[.int .i64 0, .slice none 0 0]])) (setM w1 (w.heap.size + 1) (w.heap.size + 1 + 1) (.string (str gm.bits)) (.int .i64 gm.all) (.int .i64 gm.fail) (.int .i64 0) (.slice none 0 0))) :=
      Lib.hid ⟨none, 0, none, 0, rfl, (fun j hj => by simp at hj), (fun j hj => by simp at hj), HB1.out.trans (hk.below HB1.out.size (by intro x hx; simp at hx; omega))⟩
    unfold setM at y0 y1 y2 y3 y4 HF
    unfold MR.val
    unfold MR.val at HF
    clear hb1 ho hk
    generalize str gm.bits = gs at *
    generalize gm.all = ga at *
    generalize gm.fail = gf at *
    go_wp2_with fail
    refine bodyPost_ret (v := .tuple #[.agg #[.string gs, .int .i64 ga, .int .i64 gf], .slice none 0 0, .agg #[.int .i64 0, .slice none 0 0]]) ?_ rfl ?_
    · simp [results, Try.results24, go_sem, y0, y1, y2, y3, y4]
    · exact HF.out

theorem Box3.at {W : World} {b : Nat} {v0 v1 v2 : Value} {t : TypeId} (h : W.heap[b]? = some (.cells #[v0, v1, v2] t)) : Box3 W b v0 v1 v2 :=
  ⟨(Array.getElem?_eq_some_iff.1 h).1, cell_of_heap h 0, cell_of_heap h 1, cell_of_heap h 2, frozen_of_heap h 0, frozen_of_heap h 1, frozen_of_heap h 2⟩

theorem new_one (W : World) (k : Int) {b : Nat} (hb : W.heap.size = b) : ∀ j u, [Value.int .i64 k][j]? = some u → (W.alloc (.cells #[.int .i64 k] 3)).cell? ((⟨b, 0, none⟩ : Addr).add j) = some u := by
  intro j u hj
  have hn := World.alloc_heap_new W (.cells #[.int .i64 k] 3)
  rw [hb] at hn
  match j, hj with
  | 0, hj => simp at hj; subst hj; rw [Addr.add_lit]; exact cell_of_heap hn 0

/-- The start of the loop. -/
theorem trel_start {w W5 : World} {RB B4 B6 p : Nat} {m : MR} (hr : Box3 W5 RB (.string (str m.bits)) (.int .i64 m.all) (.int .i64 m.fail)) (ho : Outs W5 B4 B6) (hb : Below w.heap.size w W5) :
    TRel (W5.alloc (.cells #[.int .i64 (p : Int), .slice none 0 0] 29)) RB W5.heap.size p m (.slice none 0 0) (.slice none 0 0) [] [] (W5.alloc (.cells #[.int .i64 (p : Int), .slice none 0 0] 29)) ∧
    Outs (W5.alloc (.cells #[.int .i64 (p : Int), .slice none 0 0] 29)) B4 B6 ∧ Below w.heap.size w (W5.alloc (.cells #[.int .i64 (p : Int), .slice none 0 0] 29)) := by
  have hbx := box_below W5 (.cells #[.int .i64 (p : Int), .slice none 0 0] 29)
  have hn := World.alloc_heap_new W5 (.cells #[.int .i64 (p : Int), .slice none 0 0] 29)
  have hlt := hr.lt
  refine ⟨⟨Keeps.refl _ _, hr.keeps (keeps_of_below hbx []) (by simp), cell_of_heap hn 0, cell_of_heap hn 1, frozen_of_heap hn 1, World.ownsRow_nil _ _ _ _, World.ownsRow_nil _ _ _ _, (fun g hg => by cases hg), by simp; omega, by simp, by omega⟩, ho.keeps (keeps_of_below hbx []) (by simp) (by simp), hb.trans (hbx.mono hb.size)⟩

set_option maxHeartbeats 3200000 in
theorem mSlide_yes (m : MR) (n : Nat) (w : World) (hb : m.bits.length ≤ 1000000000) (hn1 : 1 ≤ n) (hn2 : n ≤ 1024) :
    Calls Try.prog 24 #[m.val, .int .i64 n] w (MTakeIs ((m.take 2).1.slideB n (m.take 2).2) w) := by
  have t1 : decide ((n : Int) < 1) = false := decide_eq_false (by omega)
  have t2 : decide ((1024 : Int) < (n : Int)) = false := decide_eq_false (by omega)
  have HT := fun W => Lib.hid (mTake m 2 W hb)
  have hlen1 := Nat.le_trans (take_len m 2) hb
  have hp4 := (MR.take_val m).1
  generalize (m.take 2).1 = m1 at HT hlen1 ⊢
  generalize (m.take 2).2 = p at HT hp4 ⊢
  have HP := fun W => Lib.hid (refPower p W (by omega))
  have HG := fun W => Lib.hid (mGive m1 2 W)
  obtain ⟨cnt, hcnt⟩ : ∃ cnt, cnt = 2 ^ p := ⟨_, rfl⟩
  have hc1 : 1 ≤ cnt := by rw [hcnt]; exact Nat.two_pow_pos p
  have hc8 : cnt ≤ 8 := by rw [hcnt]; exact Nat.le_trans (Nat.pow_le_pow_right (by decide) (show p ≤ 3 by omega)) (by decide)
  obtain ⟨size, hsize⟩ : ∃ size, size = n / cnt := ⟨_, rfl⟩
  have hdv : (n : Int) / (cnt : Int) = (size : Int) := by rw [hsize]; omega
  have hsz : size ≤ 1024 := by rw [hsize]; exact Nat.le_trans (Nat.div_le_self _ _) hn2
  have HSB : Hid (m1.slideB n p = if (MR.body size cnt (m1.form n p)).1.fail ≠ 0 then ((MR.body size cnt (m1.form n p)).1, [], 0, []) else ((MR.body size cnt (m1.form n p)).1, (MR.body size cnt (m1.form n p)).2.1, p, (MR.body size cnt (m1.form n p)).2.2)) := Lib.hid (by unfold MR.slideB; rw [← hcnt, ← hsize])
  rw [← hcnt] at HP
  have hmod : n % cnt < cnt := Nat.mod_lt _ hc1
  have HFM : Hid (m1.form n p = if n % cnt ≠ 0 then m1.give 2 else m1) := Lib.hid (by unfold MR.form; rw [← hcnt])
  have HV : Hid (m.val = .agg #[.string (str m.bits), .int .i64 m.all, .int .i64 m.fail]) := Lib.hid rfl
  rw [HV.out] at HT ⊢
  generalize str m.bits = st at HT ⊢
  generalize m.all = al at HT ⊢
  generalize m.fail = fa at HT ⊢
  obtain ⟨i0, hi, hz0, hz1, hz2⟩ := info_parts info_int
  clear HV hcnt hsize hb
  go_enter Try.func24, Try.ntmps24
  go_wp2_with fail
  refine (HT _).out.mono ?_
  rintro e w4 ⟨rfl, hb4⟩
  obtain ⟨h1, h2, h3, hz, hbl⟩ := alloc3h w (.cells #[.string st, .int .i64 al, .int .i64 fa] 50) (.cells #[.string ⟨#[]⟩, .int .i64 0, .int .i64 0] 50) (.cells #[.int .i64 0, .slice none 0 0] 29)
  have hr4 := (Box3.at h1).keeps (keeps_of_below hb4 []) (by simp)
  have ho4 := (outs_new w (.cells #[.string st, .int .i64 al, .int .i64 fa] 50) 50 29).keeps (keeps_of_below hb4 []) (by simp) (by simp)
  have hbw4 : Below w.heap.size w w4 := hbl.trans (hb4.mono hbl.size)
  obtain ⟨hr5, hk5⟩ := hr4.set3 (.string (str m1.bits)) (.int .i64 m1.all) (.int .i64 m1.fail)
  have ho5 := ho4.keeps hk5 (by simp) (by simp; omega)
  have hbw5 : Below w.heap.size w _ := hbw4.trans (hk5.below hbw4.size (by simp))
  have c0 := hr4.c0
  have c1 := hr4.c1
  have c2 := hr4.c2
  have f0 := hr4.f0
  have f1 := hr4.f1
  have f2 := hr4.f2
  unfold MR.val
  clear h1 h2 h3 hbl hb4 hr4 ho4 hk5 hbw4
  go_wp2_with fail
  generalize ((w4.setCell ⟨w.heap.size, 0, none⟩ (.string (str m1.bits))).setCell ⟨w.heap.size, 1, none⟩ (.int .i64 m1.all)).setCell ⟨w.heap.size, 2, none⟩ (.int .i64 m1.fail) = W5 at hr5 ho5 hbw5 ⊢
  clear c0 c1 c2 f0 f1 f2 hz
  have hRlt := hr5.lt
  unfold MR.val at HG
  have HPL : Hid (∃ (m2 : MR) (W6 : World), Hid (m1.form n p = m2) ∧ m2.bits.length ≤ 1000000000 ∧ True) := Lib.hid ⟨m1.form n p, W5, Lib.hid rfl, by rw [HFM.out]; split; exact (by unfold MR.give; split <;> exact hlen1); exact hlen1, trivial⟩
  by_cases hd : n % cnt = 0
  · have tm : ((n : Int) % (cnt : Int) != 0) = false := by rw [bne_eq_false_iff_eq]; omega
    go_wp2_with (go_at_call 45; refine (HP _).out.mono ?_; rintro e wz ⟨rfl, rfl⟩)
    obtain ⟨hR0, hO0, hBW⟩ := trel_start (p := p) hr5 ho5 hbw5
    have HFE : Hid (m1.form n p = m1) := Lib.hid (by rw [HFM.out, if_neg (by omega)])
    rw [HFE.out] at HSB
    have hXlt := ho5.lt
    clear hr5 ho5 hbw5 HPL HFM HG HT
    obtain ⟨XB, hXB⟩ : ∃ XB, XB = W5.heap.size := ⟨_, rfl⟩
    rw [← hXB] at hR0 hXlt ⊢
    generalize W5.alloc (.cells #[.int .i64 (p : Int), .slice none 0 0] 29) = W0 at hR0 hO0 hBW ⊢
    clear hXB
    have HR0 := Lib.hid hR0
    have HO0 := Lib.hid hO0
    have HBW := Lib.hid hBW
    have hlt0 := hR0.lt
    clear hR0 hO0 hBW
    go_loopg [9, 10] cnt (fun gk lv iv wr => ∃ (i : Nat) (mi : MR) (kv : Value) (ls ks : List Int), i ≤ cnt ∧ gk + i = cnt ∧ iv = .int .i64 i ∧ Hid (TRel W0 w.heap.size XB p mi lv kv ls ks wr) ∧ Hid (MR.body size cnt m1 = ((MR.body size (cnt - i) mi).1, ls ++ (MR.body size (cnt - i) mi).2.1, ks ++ (MR.body size (cnt - i) mi).2.2)) ∧ Hid (ls.length ≤ i * size ∧ ks.length = i ∧ mi.bits.length ≤ 1000000000))
    case atStart => exact ⟨0, m1, _, [], [], by omega, by omega, rfl, HR0, Lib.hid (by simp), Lib.hid ⟨by simp, rfl, hlen1⟩⟩
    case round =>
      obtain ⟨i, mi, kv, ls, ks, hic, hgk, rfl, HT, HB, HLs⟩ := hrel
      have HGK := Lib.hid hgk
      obtain ⟨hls, hks, hmb⟩ := HLs.out
      have hkl : ks.length ≤ 8 := by omega
      have hll : ls.length ≤ 8192 := Nat.le_trans hls (Nat.le_trans (Nat.mul_le_mul (show i ≤ 8 by omega) hsz) (by decide))
      have HKS := Lib.hid hks
      have HLL := Lib.hid hls
      have c0 := HT.out.r.c0
      have c1 := HT.out.r.c1
      have c2 := HT.out.r.c2
      have f0 := HT.out.r.f0
      have f1 := HT.out.r.f1
      have f2 := HT.out.r.f2
      have x1 := HT.out.x1
      have xf := HT.out.xf
      clear hgk hks hls HLs
      by_cases hlt : i < cnt
      · by_cases hf : mi.fail = 0
        · have t5 : (mi.fail == 0) = true := by rw [hf]; rfl
          have HT5 := fun W => Lib.hid (mTake mi 5 W hmb)
          have hk32 := (MR.take_val mi).2
          have hlen5 := Nat.le_trans (take_len mi 5) hmb
          have HBN : Hid (MR.body size (cnt - i) mi = ((MR.body size (cnt - (i + 1)) (mi.partM size).1).1, (mi.partM size).2 ++ (MR.body size (cnt - (i + 1)) (mi.partM size).1).2.1, (((mi.take 5).2 : Nat) : Int) :: (MR.body size (cnt - (i + 1)) (mi.partM size).1).2.2)) := Lib.hid (by
            rw [show cnt - i = (cnt - (i + 1)) + 1 by omega, MR.body, if_neg (by simpa using hf)])
          have HPM : Hid (mi.partM size = MR.many ((mi.take 5).2 : Nat) size (mi.take 5).1) := Lib.hid rfl
          generalize (mi.take 5).1 = m5 at HT5 hlen5 HPM
          generalize (mi.take 5).2 = k at HT5 hk32 HBN HPM
          unfold MR.val at HT5
          clear hf
          go_wp2_with (go_at_call 45; refine (HP _).out.mono ?_; rintro e wz ⟨rfl, rfl⟩)
          refine (HT5 _).out.mono ?_
          rintro e w5 ⟨rfl, hb5⟩
          unfold MR.val
          have hT6 := HT.out.read hb5 (.cells #[.string (str m5.bits), .int .i64 m5.all, .int .i64 m5.fail] 50) m5
          have hr6 := (HT.out.r.keeps (keeps_of_below hb5 []) (by simp)).keeps (keeps_of_below (box_below w5 (.cells #[.string (str m5.bits), .int .i64 m5.all, .int .i64 m5.fail] 50)) []) (by simp)
          have d0 := hr6.c0
          have d1 := hr6.c1
          have d2 := hr6.c2
          have g0 := hr6.f0
          have g1 := hr6.f1
          have g2 := hr6.f2
          have hx5 := hT6.x1
          have hnew := new_one (((((w5.alloc (.cells #[.string (str m5.bits), .int .i64 m5.all, .int .i64 m5.fail] 50)).setCell ⟨w.heap.size, 0, none⟩ (.string (str m5.bits))).setCell ⟨w.heap.size, 1, none⟩ (.int .i64 m5.all)).setCell ⟨w.heap.size, 2, none⟩ (.int .i64 m5.fail))) (k : Int) (b := w5.heap.size + 1) (by simp)
          have hT6k := hT6.kown
          have hszW := Nat.le_trans HT.out.kp.size hb5.size
          go_wp2_with (at_builtin; refine wpList_append_own2 _ rfl _ _ 22 rfl W0.heap.size 3 i0 (.int .i64 0) 1 8 Try.underlying22 hi hz0 hz1 hz2 rfl (by decide) _ _ _ rfl (hT6k.alloc _) ⟨w5.heap.size + 1, 0, none⟩ 1 1 [.int .i64 (k : Int)] rfl rfl hnew ?c2 ?c3 ?c4 ?c5 ?_)
          case c2 => intro u hu; simp at hu; subst hu; rfl
          case c3 => unfold maxLen; omega
          case c4 => omega
          case c5 => simp; omega
          intro kv' w7 hown7 hgrow7 hat7
          obtain ⟨ka7, kc7, rfl⟩ := own_slice hown7
          have hk7 : Keeps kv.ownBlock.toList (((((w5.alloc (.cells #[.string (str m5.bits), .int .i64 m5.all, .int .i64 m5.fail] 50)).setCell ⟨w.heap.size, 0, none⟩ (.string (str m5.bits))).setCell ⟨w.heap.size, 1, none⟩ (.int .i64 m5.all)).setCell ⟨w.heap.size, 2, none⟩ (.int .i64 m5.fail))) w7 := (keeps_of_below (box_below _ _) _).trans (keeps_grownBy hgrow7)
          have hT7 := hT6.pushK (k := (k : Int)) hk7 hown7 (hat7.imp id (fun ⟨g, e, h⟩ => ⟨g, e, Nat.le_trans (by simp) h⟩))
          have hxn : XB ∉ kv.ownBlock.toList := fun hm => by have := (own_block_lt hT6k XB (by simpa using hm)).1; omega
          have q1 := (hk7.cell (p := ⟨XB, 1, none⟩) (by simp; omega) hxn).trans hT6.x1
          have q2 := (hk7.frozen (p := ⟨XB, 1, none⟩) (by simp; omega) hxn).trans hT6.xf
          clear hnew hT6k hk7 hown7 hgrow7 hat7 hT6 hr6 d0 d1 d2 g0 g1 g2 hb5 hx5 hxn
          go_wp2_with fail
          generalize w7.setCell ⟨XB, 1, none⟩ (.slice ka7 (ks.length + 1) kc7) = W8 at hT7 ⊢
          have HT7 := Lib.hid hT7
          have HBw : Hid (TRel W0 w.heap.size XB p mi u9 kv ls ks wr) := HT
          clear hT7 c0 c1 c2 f0 f1 f2 x1 xf q1 q2 hszW HT5 t5 HT
          go_loopg [9, 13] size (fun gi lv iv w9 => ∃ (j : Nat) (mj : MR) (vs : List Int), j ≤ size ∧ gi + j = size ∧ iv = .int .i64 j ∧ Hid (TRel W0 w.heap.size XB p mj lv (.slice ka7 (ks.length + 1) kc7) (ls ++ vs) (ks ++ [(k : Int)]) w9) ∧ Hid (MR.many k size m5 = ((MR.many k (size - j) mj).1, vs ++ (MR.many k (size - j) mj).2)) ∧ Hid (vs.length ≤ j ∧ mj.bits.length ≤ 1000000000))
          case atStart => exact ⟨0, m5, [], by omega, by omega, rfl, by rw [List.append_nil]; exact HT7, Lib.hid (by simp), Lib.hid ⟨by simp, hlen5⟩⟩
          case round =>
            obtain ⟨j, mj, vs, hjs, hgi, rfl, HT, HMN, HVs⟩ := hrel
            have HGI := Lib.hid hgi
            obtain ⟨hvs, hmbj⟩ := HVs.out
            have c0 := HT.out.r.c0
            have c1 := HT.out.r.c1
            have c2 := HT.out.r.c2
            have f0 := HT.out.r.f0
            have f1 := HT.out.r.f1
            have f2 := HT.out.r.f2
            clear hgi HVs HT7
            have HEXIT : Hid (MR.many k (size - j) mj = (mj, []) → ∃ (mi' : MR) (kv' : Value) (ls' ks' : List Int), Hid (TRel W0 w.heap.size XB p mi' u9 kv' ls' ks' wr) ∧ Hid (MR.body size cnt m1 = ((MR.body size (cnt - (i + 1)) mi').1, ls' ++ (MR.body size (cnt - (i + 1)) mi').2.1, ks' ++ (MR.body size (cnt - (i + 1)) mi').2.2)) ∧ Hid (ls'.length ≤ (i + 1) * size ∧ ks'.length = i + 1 ∧ mi'.bits.length ≤ 1000000000)) := Lib.hid (by
              intro he
              refine ⟨mj, _, _, _, HT, Lib.hid ?_, Lib.hid ⟨?_, by simp [HKS.out], hmbj⟩⟩
              · have hpm : mi.partM size = (mj, vs) := by rw [HPM.out, HMN.out, he]; simp
                rw [HB.out, HBN.out, hpm]
                simp
              · have := HLL.out
                rw [List.length_append, Nat.add_mul]; omega)
            by_cases hjl : j < size
            · by_cases hfj : mj.fail = 0
              · have t6 : (mj.fail == 0) = true := by rw [hfj]; rfl
                have HRC := fun W => Lib.hid (mRice mj k W hmbj)
                have hlenr := Nat.le_trans (rice_lenS mj k) hmbj
                have HMN2 : Hid (MR.many k (size - j) mj = ((MR.many k (size - (j + 1)) (mj.rice k).1).1, (mj.rice k).2 :: (MR.many k (size - (j + 1)) (mj.rice k).1).2)) := Lib.hid (by
                  rw [show size - j = (size - (j + 1)) + 1 by omega, MR.many, if_neg (by simpa using hfj)])
                generalize (mj.rice k).1 = mr at HRC hlenr HMN2
                generalize (mj.rice k).2 = v at HRC HMN2
                unfold MR.val at HRC
                clear hfj HEXIT
                go_wp2_with (go_at_call 45; refine (HP _).out.mono ?_; rintro e wz ⟨rfl, rfl⟩)
                refine (HRC _).out.mono ?_
                rintro e w5 ⟨rfl, hb5⟩
                unfold MR.val
                have hT6 := HT.out.read hb5 (.cells #[.string (str mr.bits), .int .i64 mr.all, .int .i64 mr.fail] 50) mr
                have hr6 := (HT.out.r.keeps (keeps_of_below hb5 []) (by simp)).keeps (keeps_of_below (box_below w5 (.cells #[.string (str mr.bits), .int .i64 mr.all, .int .i64 mr.fail] 50)) []) (by simp)
                have d0 := hr6.c0
                have d1 := hr6.c1
                have d2 := hr6.c2
                have g0 := hr6.f0
                have g1 := hr6.f1
                have g2 := hr6.f2
                have hnew := new_one (((((w5.alloc (.cells #[.string (str mr.bits), .int .i64 mr.all, .int .i64 mr.fail] 50)).setCell ⟨w.heap.size, 0, none⟩ (.string (str mr.bits))).setCell ⟨w.heap.size, 1, none⟩ (.int .i64 mr.all)).setCell ⟨w.heap.size, 2, none⟩ (.int .i64 mr.fail))) v (b := w5.heap.size + 1) (by simp)
                have hT6l := hT6.lown
                have hszW := Nat.le_trans HT.out.kp.size hb5.size
                have hlv : (ls ++ vs).length ≤ 20000 := by rw [List.length_append]; omega
                go_wp2_with (at_builtin; refine wpList_append_own2 _ rfl _ _ 22 rfl W0.heap.size 3 i0 (.int .i64 0) 1 8 Try.underlying22 hi hz0 hz1 hz2 rfl (by decide) _ _ _ rfl (hT6l.alloc _) ⟨w5.heap.size + 1, 0, none⟩ 1 1 [.int .i64 v] rfl rfl hnew ?c2 ?c3 ?c4 ?c5 ?_)
                case c2 => intro u hu; simp at hu; subst hu; rfl
                case c3 => unfold maxLen; omega
                case c4 => omega
                case c5 => simp; omega
                intro lv' w7 hown7 hgrow7 hat7
                rw [← List.length_append] at hown7
                have hk7 : Keeps u9.ownBlock.toList (((((w5.alloc (.cells #[.string (str mr.bits), .int .i64 mr.all, .int .i64 mr.fail] 50)).setCell ⟨w.heap.size, 0, none⟩ (.string (str mr.bits))).setCell ⟨w.heap.size, 1, none⟩ (.int .i64 mr.all)).setCell ⟨w.heap.size, 2, none⟩ (.int .i64 mr.fail))) w7 := (keeps_of_below (box_below _ _) _).trans (keeps_grownBy hgrow7)
                have hT7 := hT6.pushL (v := v) hk7 hown7 (hat7.imp id (fun ⟨g, e, h⟩ => ⟨g, e, Nat.le_trans (by simp) h⟩))
                rw [List.append_assoc] at hT7
                have HT8 := Lib.hid hT7
                clear hnew hT6l hk7 hown7 hgrow7 hat7 hT6 hr6 d0 d1 d2 g0 g1 g2 hb5 c0 c1 c2 f0 f1 f2 hT7
                go_wp2
                go_roundg (size - (j + 1))
                case rel => exact ⟨j + 1, mr, vs ++ [v], by omega, by omega, by go_num, HT8, Lib.hid (by rw [HMN.out, HMN2.out]; simp), Lib.hid ⟨by rw [List.length_append]; simp; omega, hlenr⟩⟩
                case measure => have := HGI.out; omega
              · have t6 : (mj.fail == 0) = false := beq_eq_false_iff_ne.2 hfj
                have HEX := Lib.hid (HEXIT.out (by rw [show size - j = (size - (j + 1)) + 1 by omega, MR.many, if_pos hfj]))
                clear HEXIT hfj
                go_wp2_with (go_at_call 45; refine (HP _).out.mono ?_; rintro e wz ⟨rfl, rfl⟩)
                obtain ⟨mi', kv', ls', ks', H1, H2, H3⟩ := HEX.out
                go_roundg (cnt - (i + 1))
                case rel => exact ⟨i + 1, mi', kv', ls', ks', by omega, by omega, by go_num, H1, H2, H3⟩
                case measure => have := HGK.out; omega
            · obtain rfl : j = size := by omega
              have HEX := Lib.hid (HEXIT.out (by rw [Nat.sub_self]; rfl))
              clear HEXIT
              go_wp2_with (go_at_call 45; refine (HP _).out.mono ?_; rintro e wz ⟨rfl, rfl⟩)
              obtain ⟨mi', kv', ls', ks', H1, H2, H3⟩ := HEX.out
              go_roundg (cnt - (i + 1))
              case rel => exact ⟨i + 1, mi', kv', ls', ks', by omega, by omega, by go_num, H1, H2, H3⟩
              case measure => have := HGK.out; omega
        · have HSD : Hid (m1.slideB n p = (mi, [], 0, [])) := Lib.hid (by
            have hb : MR.body size (cnt - i) mi = (mi, [], []) := MR.body_spent hf size _
            rw [HSB.out, HB.out, hb, if_pos hf])
          have ho := HO0.out.keeps HT.out.kp (by simp; omega) (by simp; omega)
          obtain ⟨⟨_, e0, e1, e2, g0, g1, g2⟩, e3, e4, g3, g4, hB6, _⟩ := id ho
          obtain ⟨hk, y0, y1, y2, y3, y4⟩ := setM_is ho (.string (str mi.bits)) (.int .i64 mi.all) (.int .i64 mi.fail) (.int .i64 0) (.slice none 0 0)
          have hBr : Below w.heap.size w wr := HBW.out.trans (HT.out.kp.below HBW.out.size (by intro x hx; simp at hx; omega))
          have HF : Hid (MTakeIs (m1.slideB n p) w (.returned (.tuple #[mi.val, .slice none 0 0, .agg #[.int .i64 0, .slice none 0 0]])) (setM wr (w.heap.size + 1) (w.heap.size + 1 + 1) (.string (str mi.bits)) (.int .i64 mi.all) (.int .i64 mi.fail) (.int .i64 0) (.slice none 0 0))) := Lib.hid (by
            rw [HSD.out]
            exact ⟨none, 0, none, 0, rfl, (fun j hj => by simp at hj), (fun j hj => by simp at hj), hBr.trans (hk.below hBr.size (by intro x hx; simp at hx; omega))⟩)
          unfold setM at y0 y1 y2 y3 y4 HF
          unfold MR.val at HF
          have t5 : (mi.fail == 0) = false := beq_eq_false_iff_ne.2 hf
          have t7 : (mi.fail != 0) = true := bne_iff_ne.2 hf
          clear hf ho hk hBr HSD HB
          generalize str mi.bits = gs at *
          generalize mi.all = ga at *
          generalize mi.fail = gf at *
          go_wp2_with (go_at_call 45; refine (HP _).out.mono ?_; rintro e wz ⟨rfl, rfl⟩)
          refine bodyPost_ret (v := .tuple #[.agg #[.string gs, .int .i64 ga, .int .i64 gf], .slice none 0 0, .agg #[.int .i64 0, .slice none 0 0]]) ?_ rfl ?_
          · simp [results, Try.results24, go_sem, y0, y1, y2, y3, y4]
          · exact HF.out
      · obtain rfl : i = cnt := by omega
        by_cases hf : mi.fail = 0
        · have HSD : Hid (m1.slideB n p = (mi, ls, p, ks)) := Lib.hid (by
            have hb : MR.body size (i - i) mi = (mi, [], []) := by rw [Nat.sub_self]; rfl
            rw [HSB.out, HB.out, hb, if_neg (by simpa using hf)]
            simp)
          obtain ⟨la, lc, hlv⟩ := own_slice HT.out.lown
          obtain ⟨ka, kc, hkv⟩ := own_slice HT.out.kown
          subst hlv
          subst hkv
          have ho := HO0.out.keeps HT.out.kp (by simp; omega) (by simp; omega)
          obtain ⟨⟨_, e0, e1, e2, g0, g1, g2⟩, e3, e4, g3, g4, hB6, _⟩ := id ho
          obtain ⟨hk, y0, y1, y2, y3, y4⟩ := setM_is ho (.string (str mi.bits)) (.int .i64 mi.all) (.int .i64 mi.fail) (.int .i64 (p : Int)) (.slice ka ks.length kc)
          have hBr : Below w.heap.size w wr := HBW.out.trans (HT.out.kp.below HBW.out.size (by intro x hx; simp at hx; omega))
          have HF : Hid (MTakeIs (m1.slideB n p) w (.returned (.tuple #[mi.val, .slice la ls.length lc, .agg #[.int .i64 (p : Int), .slice ka ks.length kc]])) (setM wr (w.heap.size + 1) (w.heap.size + 1 + 1) (.string (str mi.bits)) (.int .i64 mi.all) (.int .i64 mi.fail) (.int .i64 (p : Int)) (.slice ka ks.length kc)).drew) := Lib.hid (by
            rw [HSD.out]
            have hkd := hk.trans (keeps_drew_b _ _)
            refine ⟨la, lc, ka, kc, rfl, (ints_own_any HT.out.lown).keeps hkd ?_, (ints_own_any HT.out.kown).keeps hkd ?_, hBr.trans (hkd.below hBr.size (by intro x hx; simp at hx; omega))⟩
            · intro g off hh
              subst hh
              have := (own_block_lt HT.out.lown g rfl).1
              simp; omega
            · intro g off hh
              subst hh
              have := (own_block_lt HT.out.kown g rfl).1
              simp; omega)
          have x0 := HT.out.x0
          unfold setM at y0 y1 y2 y3 y4 HF
          unfold MR.val at HF
          have t7 : (mi.fail != 0) = false := by rw [hf]; rfl
          clear hf ho hk hBr HSD HB HBW
          generalize str mi.bits = gs at *
          generalize mi.all = ga at *
          generalize mi.fail = gf at *
          generalize ls.length = lsl at *
          generalize ks.length = ksl at *
          go_wp2_with (go_at_call 45; refine (HP _).out.mono ?_; rintro e wz ⟨rfl, rfl⟩)
          go_region
          go_wp2
          refine bodyPost_ret (v := .tuple #[.agg #[.string gs, .int .i64 ga, .int .i64 gf], .slice la lsl lc, .agg #[.int .i64 (p : Int), .slice ka ksl kc]]) ?_ rfl ?_
          · simp [results, Try.results24, go_sem, y0, y1, y2, y3, y4]
          · exact HF.out
        · have HSD : Hid (m1.slideB n p = (mi, [], 0, [])) := Lib.hid (by
            have hb : MR.body size (i - i) mi = (mi, [], []) := MR.body_spent hf size _
            rw [HSB.out, HB.out, hb, if_pos hf])
          have ho := HO0.out.keeps HT.out.kp (by simp; omega) (by simp; omega)
          obtain ⟨⟨_, e0, e1, e2, g0, g1, g2⟩, e3, e4, g3, g4, hB6, _⟩ := id ho
          obtain ⟨hk, y0, y1, y2, y3, y4⟩ := setM_is ho (.string (str mi.bits)) (.int .i64 mi.all) (.int .i64 mi.fail) (.int .i64 0) (.slice none 0 0)
          have hBr : Below w.heap.size w wr := HBW.out.trans (HT.out.kp.below HBW.out.size (by intro x hx; simp at hx; omega))
          have HF : Hid (MTakeIs (m1.slideB n p) w (.returned (.tuple #[mi.val, .slice none 0 0, .agg #[.int .i64 0, .slice none 0 0]])) (setM wr (w.heap.size + 1) (w.heap.size + 1 + 1) (.string (str mi.bits)) (.int .i64 mi.all) (.int .i64 mi.fail) (.int .i64 0) (.slice none 0 0))) := Lib.hid (by
            rw [HSD.out]
            exact ⟨none, 0, none, 0, rfl, (fun j hj => by simp at hj), (fun j hj => by simp at hj), hBr.trans (hk.below hBr.size (by intro x hx; simp at hx; omega))⟩)
          unfold setM at y0 y1 y2 y3 y4 HF
          unfold MR.val at HF
          have t5 : (mi.fail == 0) = false := beq_eq_false_iff_ne.2 hf
          have t7 : (mi.fail != 0) = true := bne_iff_ne.2 hf
          clear hf ho hk hBr HSD HB
          generalize str mi.bits = gs at *
          generalize mi.all = ga at *
          generalize mi.fail = gf at *
          go_wp2_with (go_at_call 45; refine (HP _).out.mono ?_; rintro e wz ⟨rfl, rfl⟩)
          refine bodyPost_ret (v := .tuple #[.agg #[.string gs, .int .i64 ga, .int .i64 gf], .slice none 0 0, .agg #[.int .i64 0, .slice none 0 0]]) ?_ rfl ?_
          · simp [results, Try.results24, go_sem, y0, y1, y2, y3, y4]
          · exact HF.out
  · have tm : ((n : Int) % (cnt : Int) != 0) = true := by rw [bne_iff_ne]; omega
    have c0 := hr5.c0
    have c1 := hr5.c1
    have c2 := hr5.c2
    have f0 := hr5.f0
    have f1 := hr5.f1
    have f2 := hr5.f2
    go_wp2_with (go_at_call 45; refine (HP _).out.mono ?_; rintro e wz ⟨rfl, rfl⟩)
    have HFE : Hid (m1.form n p = m1.give 2) := Lib.hid (by rw [HFM.out, if_pos hd])
    rw [HFE.out] at HSB
    have hgf : (m1.give 2).fail ≠ 0 := give_fail _ 2 (by decide)
    generalize m1.give 2 = mi at HG HSB hgf
    refine (HG _).out.mono ?_
    rintro e w6 ⟨rfl, hb6⟩
    have hr6 := hr5.keeps (keeps_of_below hb6 []) (by simp)
    have ho6 := ho5.keeps (keeps_of_below hb6 []) (by simp) (by simp)
    have hbw6 := hbw5.trans (hb6.mono hbw5.size)
    obtain ⟨hr7, hk7⟩ := hr6.set3 (.string (str mi.bits)) (.int .i64 mi.all) (.int .i64 mi.fail)
    have ho7 := ho6.keeps hk7 (by simp) (by simp; omega)
    have hbw7 := hbw6.trans (hk7.below hbw6.size (by simp))
    obtain ⟨hR0, hO0, hBW⟩ := trel_start (p := p) hr7 ho7 hbw7
    have c0 := hr6.c0
    have c1 := hr6.c1
    have c2 := hr6.c2
    have f0 := hr6.f0
    have f1 := hr6.f1
    have f2 := hr6.f2
    have hXlt := ho7.lt
    clear hr5 ho5 hbw5 HPL HFM HG HT hr6 ho6 hbw6 hr7 ho7 hbw7 hk7 hb6
    go_wp2_with fail
    rw [show (((w6.setCell ⟨w.heap.size, 0, none⟩ (.string (str mi.bits))).setCell ⟨w.heap.size, 1, none⟩ (.int .i64 mi.all)).setCell ⟨w.heap.size, 2, none⟩ (.int .i64 mi.fail)).heap.size = w6.heap.size by simp] at hR0 hXlt
    generalize (((w6.setCell ⟨w.heap.size, 0, none⟩ (.string (str mi.bits))).setCell ⟨w.heap.size, 1, none⟩ (.int .i64 mi.all)).setCell ⟨w.heap.size, 2, none⟩ (.int .i64 mi.fail)).alloc (.cells #[.int .i64 (p : Int), .slice none 0 0] 29) = W0 at hR0 hO0 hBW ⊢
    have HSD : Hid (m1.slideB n p = (mi, [], 0, [])) := Lib.hid (by rw [HSB.out, MR.body_spent hgf, if_pos hgf])
    obtain ⟨⟨_, e0, e1, e2, g0, g1, g2⟩, e3, e4, g3, g4, hB6, _⟩ := id hO0
    obtain ⟨hk, y0, y1, y2, y3, y4⟩ := setM_is hO0 (.string (str mi.bits)) (.int .i64 mi.all) (.int .i64 mi.fail) (.int .i64 0) (.slice none 0 0)
    have HF : Hid (MTakeIs (m1.slideB n p) w (.returned (.tuple #[mi.val, .slice none 0 0, .agg #[.int .i64 0, .slice none 0 0]])) (setM W0 (w.heap.size + 1) (w.heap.size + 1 + 1) (.string (str mi.bits)) (.int .i64 mi.all) (.int .i64 mi.fail) (.int .i64 0) (.slice none 0 0))) := Lib.hid (by
      rw [HSD.out]
      exact ⟨none, 0, none, 0, rfl, (fun j hj => by simp at hj), (fun j hj => by simp at hj), hBW.trans (hk.below hBW.size (by intro x hx; simp at hx; omega))⟩)
    unfold setM at y0 y1 y2 y3 y4 HF
    unfold MR.val at HF
    have t5 : (mi.fail == 0) = false := beq_eq_false_iff_ne.2 hgf
    have t7 : (mi.fail != 0) = true := bne_iff_ne.2 hgf
    have d0 := hR0.r.c0
    have d1 := hR0.r.c1
    have d2 := hR0.r.c2
    clear hgf hO0 hk hBW HSD HSB hR0 c0 c1 c2 f0 f1 f2
    generalize str mi.bits = gs at *
    generalize mi.all = ga at *
    generalize mi.fail = gf at *
    go_loopg [10] 1 (fun gk iv wr => ∃ i : Nat, i < cnt ∧ iv = .int .i64 i ∧ wr = W0)
    case atStart => exact ⟨0, by omega, rfl, rfl⟩
    case round =>
      obtain ⟨i, hlt, rfl, rfl⟩ := hrel
      clear hXlt hd tm hmod
      go_wp2_with (go_at_call 45; refine (HP _).out.mono ?_; rintro e wz ⟨rfl, rfl⟩)
      refine bodyPost_ret (v := .tuple #[.agg #[.string gs, .int .i64 ga, .int .i64 gf], .slice none 0 0, .agg #[.int .i64 0, .slice none 0 0]]) ?_ rfl ?_
      · simp [results, Try.results24, go_sem, y0, y1, y2, y3, y4]
      · exact HF.out

/-- Take, of the document. -/
theorem mSlide (m : MR) (n : Int) (w : World) (hb : m.bits.length ≤ 1000000000) : Calls Try.prog 24 #[m.val, .int .i64 n] w (MTakeIs (m.slide n) w) := by
  unfold MR.slide
  by_cases hn : n < 1 ∨ 1024 < n
  · rw [if_pos hn]; exact mSlide_no m n w hn
  · rw [if_neg hn]
    obtain ⟨k, rfl⟩ := Int.eq_ofNat_of_zero_le (show 0 ≤ n by omega)
    rw [Int.toNat_natCast]
    exact mSlide_yes m k w hb (by omega) (by omega)
end Go.Proofs.Ytnpngahpadchpaa

namespace Go.Proofs.Ytnpngahpadchpaa
open Go.RowKit Go.Proofs Go.Proofs.PipeM Go.Proofs.PipeA
set_option maxRecDepth 100000

set_option maxHeartbeats 800000 in
theorem takes_much (bo : Option Addr) (cap : Nat) (zs : List Nat) (n : Int) (w : World) (hl : zs.length ≤ 9223372036854775807) (h : 120 < zs.length) :
    Calls Try.prog 4 #[.slice bo zs.length cap, .int .i64 n] w fun e w' => e = .returned (.bool true) ∧ Below w.heap.size w w' := by
  have HA := fun W => Lib.hid (awake3 W)
  have t1 : decide ((120 : Int) < (zs.length : Int)) = true := decide_eq_true (by omega)
  go_enter Try.func4, Try.ntmps4
  go_wp2_with fail
  refine (HA _).out.mono ?_
  rintro e w1 ⟨rfl, hb1⟩
  have HB1 := Lib.hid hb1
  clear hb1
  go_wp2_with fail
  refine (HA _).out.mono ?_
  rintro e w2 ⟨rfl, hb2⟩
  have HB2 := Lib.hid (HB1.out.trans (hb2.mono HB1.out.size))
  clear hb2
  go_wp2
  go_ret
  exact ⟨rfl, HB2.out⟩

theorem body_lens (size : Nat) : ∀ (c : Nat) (s : RS), (RS.body size c s).2.1.length ≤ c * size ∧ (RS.body size c s).2.2.length ≤ c
  | 0, _ => by simp [RS.body]
  | c + 1, s => by
    have ih := body_lens size c (s.partS size).1
    rw [RS.body]
    split
    · simp
    · simp only [List.length_append, partS_length, List.length_cons, Nat.add_mul]
      omega
theorem slide_lens (s : RS) (n : Int) : (s.slide n).2.1.length ≤ 1024 ∧ (s.slide n).2.2.2.length ≤ 8 := by
  unfold RS.slide
  split
  · simp
  · split
    · simp
    · have hv : s.takeV 2 < 2 ^ 2 := takeV_ltn s 2 (by omega)
      unfold RS.slideB
      split
      · simp
      · have hb := body_lens (n.toNat / 2 ^ s.takeV 2) (2 ^ s.takeV 2) (s.takeS 2)
        have h1 : 2 ^ s.takeV 2 * (n.toNat / 2 ^ s.takeV 2) ≤ n.toNat := Nat.mul_div_le _ _
        have h2 : 2 ^ s.takeV 2 ≤ 8 := Nat.le_trans (Nat.pow_le_pow_right (by decide) (show s.takeV 2 ≤ 3 by omega)) (by decide)
        exact ⟨by simp only; omega, by simp only; omega⟩

/-- A way on, by its end alone. -/
def OnlyT (R : Act → World → Prop) : Exit → Act → World → Prop
  | .normal, a, w => R a w
  | _, _, _ => False
theorem regionP {id : Nat} {P : Program} {ops : Array Oper} {Q : Exit → Act → World → Prop} {a : Act} {w : World} (hm : P.follows .mixedOrders = true)
    (h : wpAny P .any ops Q ops.size (Array.replicate ops.size false) a w.drew) : (Code.region id ops true).wp P Q a w := wp_region_any hm h

set_option maxHeartbeats 6400000 in
theorem takes_few (bo : Option Addr) (cap : Nat) (zs : List Nat) (n : Int) (w : World) (hz : ∀ z ∈ zs, z < 256) (hd : BytesAt w bo zs) (h : zs.length ≤ 120) :
    Calls Try.prog 4 #[.slice bo zs.length cap, .int .i64 n] w fun e w' => e = .returned (.bool true) ∧ Below w.heap.size w w' := by
  have HA := fun W => Lib.hid (awake3 W)
  have t1 : decide ((120 : Int) < (zs.length : Int)) = false := decide_eq_false (by omega)
  obtain ⟨bo2, hbo2, hbo3⟩ : ∃ bo2 : Option Addr, (0 < zs.length → bo = bo2) ∧ ∀ g off, bo2 = some ⟨g, off, none⟩ → g < w.heap.size := by
    rcases Nat.eq_zero_or_pos zs.length with h0 | h0
    · exact ⟨none, fun hh => by omega, fun g off hh => by cases hh⟩
    · obtain ⟨g', off', e, hlt, _⟩ := hd 0 h0
      exact ⟨bo, fun _ => rfl, fun g off hh => by rw [hh] at e; cases e; exact hlt⟩
  have HOP := fun W (hb : Below w.heap.size w W) => Lib.hid (aOpen bo bo2 cap zs W hbo2 (hd.below hb) hz (by omega))
  have HMO := fun W (hb : Below w.heap.size w W) => Lib.hid (mOpen bo cap zs W (by omega) hz (hd.below hb))
  have hsim := Sim.slide (s := ⟨bitsOf zs, 0⟩) (m := MR.mk (bitsOf zs) ((8 * zs.length : Nat) : Int) 0) ⟨rfl, fun _ => rfl, fun hc => absurd rfl hc⟩ n
  have HMT := fun W => Lib.hid (mSlide (MR.mk (bitsOf zs) ((8 * zs.length : Nat) : Int) 0) n W (by simp [bitsOf_length]; omega))
  have HST := fun W RB (hr : RdA W RB bo2 ⟨bitsOf zs, 0⟩) (hh : ∀ g off, bo2 = some ⟨g, off, none⟩ → g < W.heap.size) => Lib.hid (cSTake RB bo2 ⟨bitsOf zs, 0⟩ n W hr hh)
  have hlens := slide_lens ⟨bitsOf zs, 0⟩ n
  obtain ⟨hs1, hs2⟩ := hsim
  generalize (RS.slide ⟨bitsOf zs, 0⟩ n) = sr at HST hs1 hs2 hlens
  generalize (MR.slide (MR.mk (bitsOf zs) ((8 * zs.length : Nat) : Int) 0) n) = mr at HMT hs1 hs2
  obtain ⟨s', l, p, ks⟩ := sr
  obtain ⟨m', l2, p2, ks2⟩ := mr
  simp only at hs1 hs2
  obtain ⟨rfl, rfl, rfl⟩ : l = l2 ∧ p = p2 ∧ ks = ks2 := by simpa using hs2
  have HSM := Lib.hid hs1
  have hll : l.length ≤ 1000000 := by have := hlens.1; simp only at this; omega
  have hkl : ks.length ≤ 1000000 := by have := hlens.2; simp only at this; omega
  clear hlens
  clear hs1 hs2 hd hz hbo2
  generalize hmv : (MR.mk (bitsOf zs) ((8 * zs.length : Nat) : Int) 0).val = mv at HMO HMT
  go_enter Try.func4, Try.ntmps4
  go_wp2_with fail
  refine (HA _).out.mono ?_
  rintro e w1 ⟨rfl, hb1⟩
  have HB1 := Lib.hid hb1
  clear hb1
  go_wp2_with fail
  refine (HOP _ HB1.out).out.mono ?_
  rintro e w2 ⟨rfl, hr2, hb2⟩
  have hRl := hr2.lt
  have hs1 := HB1.out.size
  have hs2 := hb2.size
  have HB2 : Hid (Below w.heap.size w w2) := HB1.out.trans (hb2.mono HB1.out.size)
  have HS2 := HST w2 w1.heap.size hr2 (fun g off hh => by have := hbo3 g off hh; omega)
  generalize w1.heap.size = RB at *
  clear hr2 hb2 HST HOP
  go_wp2_with fail
  refine HS2.out.mono ?_
  unfold TakeIs
  dsimp only
  rintro e w3 ⟨la, lc, ka, kc, rfl, hr3, hJl, hJk, hla, hka, hlc, hkc, hk3⟩
  have hs3 := hk3.size
  have HB3 : Hid (Below w.heap.size w w3) := HB2.out.trans (hk3.below HB2.out.size (by intro x hx; simp at hx; omega))
  obtain ⟨w4, hw4⟩ : ∃ w4, w4 = w3.alloc (.cells #[.int .i64 (p : Int), .slice ka ks.length kc] 24) := ⟨_, rfl⟩
  have hb4 := box_below w3 (.cells #[.int .i64 (p : Int), .slice ka ks.length kc] 24)
  have hn4 := World.alloc_heap_new w3 (.cells #[.int .i64 (p : Int), .slice ka ks.length kc] 24)
  rw [← hw4] at hb4 hn4
  have hs4 : w3.heap.size < w4.heap.size := (Array.getElem?_eq_some_iff.1 hn4).1
  have HB4 : Hid (Below w.heap.size w w4) := HB3.out.trans (hb4.mono HB3.out.size)
  have HW4 := Lib.hid hw4
  clear hw4 HS2
  go_wp2_with fail
  rw [← HW4.out]
  refine (HMO _ HB4.out).out.mono ?_
  rintro e w5 ⟨rfl, hb5⟩
  go_wp2_with fail
  refine (HMT _).out.mono ?_
  unfold MTakeIs
  dsimp only
  rintro e w6 ⟨ma, mc, na, nc, rfl, hJm, hJn, hb6⟩
  have hb46 : Below w4.heap.size w4 w6 := hb5.trans (hb6.mono hb5.size)
  have hs6 := hb46.size
  have HB6 : Hid (Below w.heap.size w w6) := HB4.out.trans (hb46.mono HB4.out.size)
  unfold MR.val
  obtain ⟨k1, k2, hz7, hb7⟩ := alloc2h w6 (.cells #[.string (str m'.bits), .int .i64 m'.all, .int .i64 m'.fail] 50) (.cells #[.int .i64 (p : Int), .slice na ks.length nc] 29)
  have hb47 : Below w4.heap.size w4 _ := hb46.trans (hb7.mono hs6)
  obtain ⟨w7, hw7⟩ : ∃ w7, w7 = (w6.alloc (.cells #[.string (str m'.bits), .int .i64 m'.all, .int .i64 m'.fail] 50)).alloc (.cells #[.int .i64 (p : Int), .slice na ks.length nc] 29) := ⟨_, rfl⟩
  rw [← hw7] at k1 k2 hz7 hb7 hb47
  have hs7 := hb7.size
  have HB7 : Hid (Below w.heap.size w w7) := HB6.out.trans (hb7.mono HB6.out.size)
  have b34 : Below w3.heap.size w3 w7 := hb4.trans (hb47.mono (by omega))
  have HR7 := Lib.hid ((hr3.keeps (keeps_of_below b34 []) (by simp) (by simp)))
  have HJL := Lib.hid (hJl.below b34)
  have HJK := Lib.hid (hJk.below b34)
  have HJM := Lib.hid (hJm.below hb7)
  have HJN := Lib.hid (hJn.below hb7)
  have p0 : w7.cell? ⟨w3.heap.size, 0, none⟩ = some (.int .i64 (p : Int)) := (hb47.cell (p := ⟨w3.heap.size, 0, none⟩) hs4).trans (cell_of_heap hn4 0)
  have p1 : w7.cell? ⟨w3.heap.size, 1, none⟩ = some (.slice ka ks.length kc) := (hb47.cell (p := ⟨w3.heap.size, 1, none⟩) hs4).trans (cell_of_heap hn4 1)
  have q0 : w7.cell? ⟨w6.heap.size, 0, none⟩ = some (.string (str m'.bits)) := cell_of_heap k1 0
  have q2 : w7.cell? ⟨w6.heap.size, 2, none⟩ = some (.int .i64 m'.fail) := cell_of_heap k1 2
  have r0 : w7.cell? ⟨w6.heap.size + 1, 0, none⟩ = some (.int .i64 (p : Int)) := cell_of_heap k2 0
  have r1 : w7.cell? ⟨w6.heap.size + 1, 1, none⟩ = some (.slice na ks.length nc) := cell_of_heap k2 1
  have HW7 := Lib.hid hw7
  clear hw7 k1 k2 hb7 hb47 hb46 b34 hr3 hJl hJk hJm hJn hla hka hk3 hb5 hb6 hb4 hn4 HMO HMT
  go_wp2_with fail
  rw [← HW7.out]
  generalize w3.heap.size = PB at *
  generalize w6.heap.size = MB at *
  have HFL := Lib.hid (aFail RB bo2 s' w7.drew (HR7.out.keeps (keeps_drew w7) (by simp) (by simp)))
  rw [HSM.out.err] at HFL
  have HSA := fun W (hk : Keeps [] w7 W) => Lib.hid (refSame la ma lc mc l l W (by omega) (HJL.out.keeps hk (by simp)) (HJM.out.keeps hk (by simp)))
  rw [decide_eq_true (rfl : l = l)] at HSA
  have HSP := fun W (hk : Keeps [] w7 W) => Lib.hid (refParts ka na kc nc (p : Int) (p : Int) ks ks W (by omega) (HJK.out.keeps hk (by simp)) (HJN.out.keeps hk (by simp)))
  rw [decide_eq_true (⟨rfl, rfl⟩ : (p : Int) = p ∧ ks = ks)] at HSP
  have HLE := fun W (hk : Keeps [] w7 W) => Lib.hid (aLeft RB bo2 s' W (HR7.out.keeps hk (by simp) (by simp)))
  have t2 : (m'.fail == m'.fail) = true := by simp
  have hPl : PB < w7.heap.size := by omega
  have hMl : MB + 1 < w7.heap.size := by omega
  have HPC : Hid (∀ W, Keeps [] w7 W → W.cell? ⟨PB, 0, none⟩ = some (.int .i64 (p : Int)) ∧ W.cell? ⟨PB, 1, none⟩ = some (.slice ka ks.length kc) ∧ W.cell? ⟨MB, 0, none⟩ = some (.string (str m'.bits)) ∧ W.cell? ⟨MB, 2, none⟩ = some (.int .i64 m'.fail) ∧ W.cell? ⟨MB + 1, 0, none⟩ = some (.int .i64 (p : Int)) ∧ W.cell? ⟨MB + 1, 1, none⟩ = some (.slice na ks.length nc)) := Lib.hid fun W hk =>
    ⟨(hk.cell (p := ⟨PB, 0, none⟩) hPl (by simp)).trans p0, (hk.cell (p := ⟨PB, 1, none⟩) hPl (by simp)).trans p1, (hk.cell (p := ⟨MB, 0, none⟩) (by show MB < _; omega) (by simp)).trans q0, (hk.cell (p := ⟨MB, 2, none⟩) (by show MB < _; omega) (by simp)).trans q2, (hk.cell (p := ⟨MB + 1, 0, none⟩) hMl (by simp)).trans r0, (hk.cell (p := ⟨MB + 1, 1, none⟩) hMl (by simp)).trans r1⟩
  by_cases hf : m'.fail = 0
  · have t3 : (m'.fail != 0) = false := by rw [hf]; rfl
    have hsz : (str m'.bits).size = s'.bits.length := by rw [str_size, HSM.out.bits hf]
    have hsl : s'.bits.length ≤ 800000000 := HR7.out.len
    generalize str m'.bits = st at *
    have t4 : ((s'.bits.length : Int) == (st.size : Int)) = true := by rw [hsz]; simp
    have hsl2 : st.size ≤ 800000000 := by omega
    clear hsz hf p0 p1 q0 q2 r0 r1
    obtain ⟨p0, p1, q0, q2, r0, r1⟩ := HPC.out w7 (Keeps.refl _ _)
    go_wp2_with fail
    go_region_with (first
      | (go_at_call 26; refine HFL.out.mono ?_; rintro e w8 ⟨rfl, rfl⟩)
      | (go_at_call 22; refine (HSA _ (keeps_drew w7)).out.mono ?_; rintro e w9 ⟨rfl, n1, rfl⟩)
      | (go_at_call 23; refine (HSP _ (keeps_drewN w7 (1 + n1) [])).out.mono ?_; rintro e w10 ⟨rfl, hb10⟩; have kk10 : Keeps [] w7 w10 := (keeps_drewN w7 (1 + n1) []).trans (keeps_of_below hb10 []); obtain ⟨u0, u1, v0, v2, x0, x1⟩ := HPC.out w10 kk10)
      | (go_at_call 27; refine (HLE _ kk10).out.mono ?_; rintro e w11 ⟨rfl, n2, rfl⟩))
    all_goals
      go_wp2
      go_ret
      refine ⟨?_, HB7.out.trans ((kk10.trans (keeps_drewN w10 n2 [])).below HB7.out.size (by simp))⟩
      first | rfl | simp [go_sem]
  · have t3 : (m'.fail != 0) = true := bne_iff_ne.2 hf
    generalize str m'.bits = st at *
    clear hf p0 p1 q0 q2 r0 r1
    obtain ⟨p0, p1, q0, q2, r0, r1⟩ := HPC.out w7 (Keeps.refl _ _)
    have hmx : Try.prog.follows .mixedOrders = true := by kernel_rfl
    go_wp2_with fail
    refine Code.wp_mono (Q := OnlyT fun a W => (∃ t, a = { tmps := t, defers := [] } ∧ t.getD 4 undef = .bool true) ∧ Keeps [] w7 W) ?mono ?reg
    case reg =>
      refine regionP hmx ?_
      refine wpAny_take (i := 0) (v := ?_) rfl (by kernel_rfl) (by kernel_rfl) (by kernel_rfl) (fun _ _ _ h => h) (Or.inl ⟨by rfl, ?_⟩) ?_
      rotate_left
      · intro w9; go_simp; try with_reducible rfl
      refine wpAny_take (i := 2) (v := ?_) rfl (by kernel_rfl) (by kernel_rfl) (by kernel_rfl) (fun _ _ _ h => h) (Or.inl ⟨by rfl, ?_⟩) ?_
      rotate_left
      · intro w9; go_simp; try with_reducible rfl
      refine wpAny_ready (rs := [1, 3]) (by kernel_rfl) (by simp) ?_
      refine AllReady.cons rfl (fun K hK => ?_) ?_
      · go_simp
        refine HFL.out.mono ?_
        rintro e w8 ⟨rfl, rfl⟩
        refine hK _ _ ?_
        clear hK K
        refine wpAny_ready (rs := [3]) (by kernel_rfl) (by simp) ?_
        refine AllReady.cons rfl (fun K hK => ?_) ?_
        · go_simp
          refine hK _ _ ?_
          clear hK K
          refine wpAny_take (i := 4) (v := ?_) rfl (by kernel_rfl) (by kernel_rfl) (by kernel_rfl) (fun _ _ _ h => h) (Or.inl ⟨by rfl, ?_⟩) ?_
          rotate_left
          · intro w9; go_simp; try with_reducible rfl
          refine wpAny_take (i := 5) (v := ?_) rfl (by kernel_rfl) (by kernel_rfl) (by kernel_rfl) (fun _ _ _ h => h) (Or.inl ⟨by rfl, ?_⟩) ?_
          rotate_left
          · intro w9; go_simp; try with_reducible rfl
          refine wpAny_take (i := 6) (v := ?_) rfl (by kernel_rfl) (by kernel_rfl) (by kernel_rfl) (fun _ _ _ h => h) (Or.inl ⟨by rfl, ?_⟩) ?_
          rotate_left
          · intro w9; go_simp; try with_reducible rfl
          refine wpAny_take (i := 7) (v := ?_) rfl (by kernel_rfl) (by kernel_rfl) (by kernel_rfl) (fun _ _ _ h => h) (Or.inl ⟨by rfl, ?_⟩) ?_
          rotate_left
          · intro w9; go_simp; try with_reducible rfl
          refine wpAny_ready (rs := [8]) (by kernel_rfl) (by simp) ?_
          refine AllReady.cons rfl (fun K hK => ?_) ?_
          · go_simp
            refine (HSA _ (keeps_drew w7)).out.mono ?_
            rintro e w9 ⟨rfl, n1, rfl⟩
            refine hK _ _ ?_
            clear hK K
            refine wpAny_take (i := 9) (v := ?_) rfl (by kernel_rfl) (by kernel_rfl) (by kernel_rfl) (fun _ _ _ h => h) (Or.inl ⟨by rfl, ?_⟩) ?_
            rotate_left
            · intro w9; go_simp; try with_reducible rfl
            refine wpAny_take (i := 10) (v := ?_) rfl (by kernel_rfl) (by kernel_rfl) (by kernel_rfl) (fun _ _ _ h => h) (Or.inl ⟨by rfl, ?_⟩) ?_
            rotate_left
            · intro w9; go_simp; try with_reducible rfl
            refine wpAny_ready (rs := [11, 12]) (by kernel_rfl) (by simp) ?_
            refine AllReady.cons rfl (fun K hK => ?_) ?_
            · go_simp
              refine hK _ _ ?_
              clear hK K
              refine wpAny_ready (rs := [12]) (by kernel_rfl) (by simp) ?_
              refine AllReady.cons rfl (fun K hK => ?_) ?_
              · go_simp
                refine hK _ _ ?_
                clear hK K
                refine wpAny_ready (rs := [13]) (by kernel_rfl) (by simp) ?_
                refine AllReady.cons rfl (fun K hK => ?_) ?_
                · go_simp
                  refine (HSP _ (keeps_drewN w7 (1 + n1) [])).out.mono ?_
                  rintro e w10 ⟨rfl, hb10⟩
                  have kk10 : Keeps [] w7 w10 := (keeps_drewN w7 (1 + n1) []).trans (keeps_of_below hb10 [])
                  obtain ⟨u0, u1, v0, v2, x0, x1⟩ := HPC.out w10 kk10
                  have HKK := Lib.hid kk10
                  clear hb10 kk10
                  refine hK _ _ ?_
                  clear hK K
                  refine wpAny_take (i := 14) (v := ?_) rfl (by kernel_rfl) (by kernel_rfl) (by kernel_rfl) (fun _ _ _ h => h) (Or.inl ⟨by rfl, ?_⟩) ?_
                  rotate_left
                  · intro w9; go_simp; try with_reducible rfl
                  refine wpAny_take (i := 15) (v := ?_) rfl (by kernel_rfl) (by kernel_rfl) (by kernel_rfl) (fun _ _ _ h => h) (Or.inl ⟨by rfl, ?_⟩) ?_
                  rotate_left
                  · intro w9; go_simp; try with_reducible rfl
                  refine wpAny_take (i := 16) (v := ?_) rfl (by kernel_rfl) (by kernel_rfl) (by kernel_rfl) (fun _ _ _ h => h) (Or.inl ⟨by rfl, ?_⟩) ?_
                  rotate_left
                  · intro w9; go_simp; try with_reducible rfl
                  refine wpAny_ready (rs := [17]) (by kernel_rfl) (by simp) ?_
                  refine AllReady.cons rfl (fun K hK => ?_) ?_
                  · go_simp
                    refine hK _ _ ?_
                    clear hK K
                    refine wpAny_take (i := 18) (v := ?_) rfl (by kernel_rfl) (by kernel_rfl) (by kernel_rfl) (fun _ _ _ h => h) (Or.inl ⟨by rfl, ?_⟩) ?_
                    rotate_left
                    · intro w9; go_simp; try with_reducible rfl
                    refine wpAny_take (i := 19) (v := ?_) rfl (by kernel_rfl) (by kernel_rfl) (by kernel_rfl) (fun _ _ _ h => h) (Or.inl ⟨by rfl, ?_⟩) ?_
                    rotate_left
                    · intro w9; go_simp; try with_reducible rfl
                    refine wpAny_take (i := 20) (v := undef) rfl (by kernel_rfl) (by kernel_rfl) (by kernel_rfl) (fun _ _ _ h => h) (Or.inr ⟨by rfl, rfl⟩) ?_
                    refine wpAny_take (i := 22) (v := undef) rfl (by kernel_rfl) (by kernel_rfl) (by kernel_rfl) (fun _ _ _ h => h) (Or.inr ⟨by rfl, rfl⟩) ?_
                    refine wpAny_ready (rs := [21, 23]) (by kernel_rfl) (by simp) ?_
                    refine AllReady.cons rfl (fun K hK => ?_) ?_
                    · go_simp
                      refine hK _ _ ?_
                      clear hK K
                      refine wpAny_ready (rs := [23]) (by kernel_rfl) (by simp) ?_
                      refine AllReady.cons rfl (fun K hK => ?_) ?_
                      · go_simp
                        refine hK _ _ ?_
                        clear hK K
                        refine wpAny_take (i := 24) (v := undef) rfl (by kernel_rfl) (by kernel_rfl) (by kernel_rfl) (fun _ _ _ h => h) (Or.inr ⟨by rfl, rfl⟩) ?_
                        refine wpAny_take (i := 25) (v := undef) rfl (by kernel_rfl) (by kernel_rfl) (by kernel_rfl) (fun _ _ _ h => h) (Or.inr ⟨by rfl, rfl⟩) ?_
                        refine wpAny_take (i := 26) (v := ?_) rfl (by kernel_rfl) (by kernel_rfl) (by kernel_rfl) (fun _ _ _ h => h) (Or.inl ⟨by rfl, ?_⟩) ?_
                        rotate_left
                        · intro w9; go_simp; try with_reducible rfl
                        refine wpAny_take (i := 27) (v := ?_) rfl (by kernel_rfl) (by kernel_rfl) (by kernel_rfl) (fun _ _ _ h => h) (Or.inl ⟨by rfl, ?_⟩) ?_
                        rotate_left
                        · intro w9; go_simp; try with_reducible rfl
                        refine wpAny_take (i := 28) (v := ?_) rfl (by kernel_rfl) (by kernel_rfl) (by kernel_rfl) (fun _ _ _ h => h) (Or.inl ⟨by rfl, ?_⟩) ?_
                        rotate_left
                        · intro w9; go_simp; try with_reducible rfl
                        refine wpAny_done (by kernel_rfl) ?_ _
                        exact ⟨⟨_, rfl, by simp [go_sem]⟩, HKK.out⟩
                      exact AllReady.nil
                    refine AllReady.cons rfl (fun K hK => ?_) ?_
                    · go_simp
                      refine hK _ _ ?_
                      clear hK K
                      refine wpAny_take (i := 24) (v := undef) rfl (by kernel_rfl) (by kernel_rfl) (by kernel_rfl) (fun _ _ _ h => h) (Or.inr ⟨by rfl, rfl⟩) ?_
                      refine wpAny_ready (rs := [21]) (by kernel_rfl) (by simp) ?_
                      refine AllReady.cons rfl (fun K hK => ?_) ?_
                      · go_simp
                        refine hK _ _ ?_
                        clear hK K
                        refine wpAny_take (i := 25) (v := undef) rfl (by kernel_rfl) (by kernel_rfl) (by kernel_rfl) (fun _ _ _ h => h) (Or.inr ⟨by rfl, rfl⟩) ?_
                        refine wpAny_take (i := 26) (v := ?_) rfl (by kernel_rfl) (by kernel_rfl) (by kernel_rfl) (fun _ _ _ h => h) (Or.inl ⟨by rfl, ?_⟩) ?_
                        rotate_left
                        · intro w9; go_simp; try with_reducible rfl
                        refine wpAny_take (i := 27) (v := ?_) rfl (by kernel_rfl) (by kernel_rfl) (by kernel_rfl) (fun _ _ _ h => h) (Or.inl ⟨by rfl, ?_⟩) ?_
                        rotate_left
                        · intro w9; go_simp; try with_reducible rfl
                        refine wpAny_take (i := 28) (v := ?_) rfl (by kernel_rfl) (by kernel_rfl) (by kernel_rfl) (fun _ _ _ h => h) (Or.inl ⟨by rfl, ?_⟩) ?_
                        rotate_left
                        · intro w9; go_simp; try with_reducible rfl
                        refine wpAny_done (by kernel_rfl) ?_ _
                        exact ⟨⟨_, rfl, by simp [go_sem]⟩, HKK.out⟩
                      exact AllReady.nil
                    exact AllReady.nil
                  exact AllReady.nil
                exact AllReady.nil
              exact AllReady.nil
            refine AllReady.cons rfl (fun K hK => ?_) ?_
            · go_simp
              refine hK _ _ ?_
              clear hK K
              refine wpAny_ready (rs := [11]) (by kernel_rfl) (by simp) ?_
              refine AllReady.cons rfl (fun K hK => ?_) ?_
              · go_simp
                refine hK _ _ ?_
                clear hK K
                refine wpAny_ready (rs := [13]) (by kernel_rfl) (by simp) ?_
                refine AllReady.cons rfl (fun K hK => ?_) ?_
                · go_simp
                  refine (HSP _ (keeps_drewN w7 (1 + n1) [])).out.mono ?_
                  rintro e w10 ⟨rfl, hb10⟩
                  have kk10 : Keeps [] w7 w10 := (keeps_drewN w7 (1 + n1) []).trans (keeps_of_below hb10 [])
                  obtain ⟨u0, u1, v0, v2, x0, x1⟩ := HPC.out w10 kk10
                  have HKK := Lib.hid kk10
                  clear hb10 kk10
                  refine hK _ _ ?_
                  clear hK K
                  refine wpAny_take (i := 14) (v := ?_) rfl (by kernel_rfl) (by kernel_rfl) (by kernel_rfl) (fun _ _ _ h => h) (Or.inl ⟨by rfl, ?_⟩) ?_
                  rotate_left
                  · intro w9; go_simp; try with_reducible rfl
                  refine wpAny_take (i := 15) (v := ?_) rfl (by kernel_rfl) (by kernel_rfl) (by kernel_rfl) (fun _ _ _ h => h) (Or.inl ⟨by rfl, ?_⟩) ?_
                  rotate_left
                  · intro w9; go_simp; try with_reducible rfl
                  refine wpAny_take (i := 16) (v := ?_) rfl (by kernel_rfl) (by kernel_rfl) (by kernel_rfl) (fun _ _ _ h => h) (Or.inl ⟨by rfl, ?_⟩) ?_
                  rotate_left
                  · intro w9; go_simp; try with_reducible rfl
                  refine wpAny_ready (rs := [17]) (by kernel_rfl) (by simp) ?_
                  refine AllReady.cons rfl (fun K hK => ?_) ?_
                  · go_simp
                    refine hK _ _ ?_
                    clear hK K
                    refine wpAny_take (i := 18) (v := ?_) rfl (by kernel_rfl) (by kernel_rfl) (by kernel_rfl) (fun _ _ _ h => h) (Or.inl ⟨by rfl, ?_⟩) ?_
                    rotate_left
                    · intro w9; go_simp; try with_reducible rfl
                    refine wpAny_take (i := 19) (v := ?_) rfl (by kernel_rfl) (by kernel_rfl) (by kernel_rfl) (fun _ _ _ h => h) (Or.inl ⟨by rfl, ?_⟩) ?_
                    rotate_left
                    · intro w9; go_simp; try with_reducible rfl
                    refine wpAny_take (i := 20) (v := undef) rfl (by kernel_rfl) (by kernel_rfl) (by kernel_rfl) (fun _ _ _ h => h) (Or.inr ⟨by rfl, rfl⟩) ?_
                    refine wpAny_take (i := 22) (v := undef) rfl (by kernel_rfl) (by kernel_rfl) (by kernel_rfl) (fun _ _ _ h => h) (Or.inr ⟨by rfl, rfl⟩) ?_
                    refine wpAny_ready (rs := [21, 23]) (by kernel_rfl) (by simp) ?_
                    refine AllReady.cons rfl (fun K hK => ?_) ?_
                    · go_simp
                      refine hK _ _ ?_
                      clear hK K
                      refine wpAny_ready (rs := [23]) (by kernel_rfl) (by simp) ?_
                      refine AllReady.cons rfl (fun K hK => ?_) ?_
                      · go_simp
                        refine hK _ _ ?_
                        clear hK K
                        refine wpAny_take (i := 24) (v := undef) rfl (by kernel_rfl) (by kernel_rfl) (by kernel_rfl) (fun _ _ _ h => h) (Or.inr ⟨by rfl, rfl⟩) ?_
                        refine wpAny_take (i := 25) (v := undef) rfl (by kernel_rfl) (by kernel_rfl) (by kernel_rfl) (fun _ _ _ h => h) (Or.inr ⟨by rfl, rfl⟩) ?_
                        refine wpAny_take (i := 26) (v := ?_) rfl (by kernel_rfl) (by kernel_rfl) (by kernel_rfl) (fun _ _ _ h => h) (Or.inl ⟨by rfl, ?_⟩) ?_
                        rotate_left
                        · intro w9; go_simp; try with_reducible rfl
                        refine wpAny_take (i := 27) (v := ?_) rfl (by kernel_rfl) (by kernel_rfl) (by kernel_rfl) (fun _ _ _ h => h) (Or.inl ⟨by rfl, ?_⟩) ?_
                        rotate_left
                        · intro w9; go_simp; try with_reducible rfl
                        refine wpAny_take (i := 28) (v := ?_) rfl (by kernel_rfl) (by kernel_rfl) (by kernel_rfl) (fun _ _ _ h => h) (Or.inl ⟨by rfl, ?_⟩) ?_
                        rotate_left
                        · intro w9; go_simp; try with_reducible rfl
                        refine wpAny_done (by kernel_rfl) ?_ _
                        exact ⟨⟨_, rfl, by simp [go_sem]⟩, HKK.out⟩
                      exact AllReady.nil
                    refine AllReady.cons rfl (fun K hK => ?_) ?_
                    · go_simp
                      refine hK _ _ ?_
                      clear hK K
                      refine wpAny_take (i := 24) (v := undef) rfl (by kernel_rfl) (by kernel_rfl) (by kernel_rfl) (fun _ _ _ h => h) (Or.inr ⟨by rfl, rfl⟩) ?_
                      refine wpAny_ready (rs := [21]) (by kernel_rfl) (by simp) ?_
                      refine AllReady.cons rfl (fun K hK => ?_) ?_
                      · go_simp
                        refine hK _ _ ?_
                        clear hK K
                        refine wpAny_take (i := 25) (v := undef) rfl (by kernel_rfl) (by kernel_rfl) (by kernel_rfl) (fun _ _ _ h => h) (Or.inr ⟨by rfl, rfl⟩) ?_
                        refine wpAny_take (i := 26) (v := ?_) rfl (by kernel_rfl) (by kernel_rfl) (by kernel_rfl) (fun _ _ _ h => h) (Or.inl ⟨by rfl, ?_⟩) ?_
                        rotate_left
                        · intro w9; go_simp; try with_reducible rfl
                        refine wpAny_take (i := 27) (v := ?_) rfl (by kernel_rfl) (by kernel_rfl) (by kernel_rfl) (fun _ _ _ h => h) (Or.inl ⟨by rfl, ?_⟩) ?_
                        rotate_left
                        · intro w9; go_simp; try with_reducible rfl
                        refine wpAny_take (i := 28) (v := ?_) rfl (by kernel_rfl) (by kernel_rfl) (by kernel_rfl) (fun _ _ _ h => h) (Or.inl ⟨by rfl, ?_⟩) ?_
                        rotate_left
                        · intro w9; go_simp; try with_reducible rfl
                        refine wpAny_done (by kernel_rfl) ?_ _
                        exact ⟨⟨_, rfl, by simp [go_sem]⟩, HKK.out⟩
                      exact AllReady.nil
                    exact AllReady.nil
                  exact AllReady.nil
                exact AllReady.nil
              exact AllReady.nil
            exact AllReady.nil
          exact AllReady.nil
        exact AllReady.nil
      refine AllReady.cons rfl (fun K hK => ?_) ?_
      · go_simp
        refine hK _ _ ?_
        clear hK K
        refine wpAny_ready (rs := [1]) (by kernel_rfl) (by simp) ?_
        refine AllReady.cons rfl (fun K hK => ?_) ?_
        · go_simp
          refine HFL.out.mono ?_
          rintro e w8 ⟨rfl, rfl⟩
          refine hK _ _ ?_
          clear hK K
          refine wpAny_take (i := 4) (v := ?_) rfl (by kernel_rfl) (by kernel_rfl) (by kernel_rfl) (fun _ _ _ h => h) (Or.inl ⟨by rfl, ?_⟩) ?_
          rotate_left
          · intro w9; go_simp; try with_reducible rfl
          refine wpAny_take (i := 5) (v := ?_) rfl (by kernel_rfl) (by kernel_rfl) (by kernel_rfl) (fun _ _ _ h => h) (Or.inl ⟨by rfl, ?_⟩) ?_
          rotate_left
          · intro w9; go_simp; try with_reducible rfl
          refine wpAny_take (i := 6) (v := ?_) rfl (by kernel_rfl) (by kernel_rfl) (by kernel_rfl) (fun _ _ _ h => h) (Or.inl ⟨by rfl, ?_⟩) ?_
          rotate_left
          · intro w9; go_simp; try with_reducible rfl
          refine wpAny_take (i := 7) (v := ?_) rfl (by kernel_rfl) (by kernel_rfl) (by kernel_rfl) (fun _ _ _ h => h) (Or.inl ⟨by rfl, ?_⟩) ?_
          rotate_left
          · intro w9; go_simp; try with_reducible rfl
          refine wpAny_ready (rs := [8]) (by kernel_rfl) (by simp) ?_
          refine AllReady.cons rfl (fun K hK => ?_) ?_
          · go_simp
            refine (HSA _ (keeps_drew w7)).out.mono ?_
            rintro e w9 ⟨rfl, n1, rfl⟩
            refine hK _ _ ?_
            clear hK K
            refine wpAny_take (i := 9) (v := ?_) rfl (by kernel_rfl) (by kernel_rfl) (by kernel_rfl) (fun _ _ _ h => h) (Or.inl ⟨by rfl, ?_⟩) ?_
            rotate_left
            · intro w9; go_simp; try with_reducible rfl
            refine wpAny_take (i := 10) (v := ?_) rfl (by kernel_rfl) (by kernel_rfl) (by kernel_rfl) (fun _ _ _ h => h) (Or.inl ⟨by rfl, ?_⟩) ?_
            rotate_left
            · intro w9; go_simp; try with_reducible rfl
            refine wpAny_ready (rs := [11, 12]) (by kernel_rfl) (by simp) ?_
            refine AllReady.cons rfl (fun K hK => ?_) ?_
            · go_simp
              refine hK _ _ ?_
              clear hK K
              refine wpAny_ready (rs := [12]) (by kernel_rfl) (by simp) ?_
              refine AllReady.cons rfl (fun K hK => ?_) ?_
              · go_simp
                refine hK _ _ ?_
                clear hK K
                refine wpAny_ready (rs := [13]) (by kernel_rfl) (by simp) ?_
                refine AllReady.cons rfl (fun K hK => ?_) ?_
                · go_simp
                  refine (HSP _ (keeps_drewN w7 (1 + n1) [])).out.mono ?_
                  rintro e w10 ⟨rfl, hb10⟩
                  have kk10 : Keeps [] w7 w10 := (keeps_drewN w7 (1 + n1) []).trans (keeps_of_below hb10 [])
                  obtain ⟨u0, u1, v0, v2, x0, x1⟩ := HPC.out w10 kk10
                  have HKK := Lib.hid kk10
                  clear hb10 kk10
                  refine hK _ _ ?_
                  clear hK K
                  refine wpAny_take (i := 14) (v := ?_) rfl (by kernel_rfl) (by kernel_rfl) (by kernel_rfl) (fun _ _ _ h => h) (Or.inl ⟨by rfl, ?_⟩) ?_
                  rotate_left
                  · intro w9; go_simp; try with_reducible rfl
                  refine wpAny_take (i := 15) (v := ?_) rfl (by kernel_rfl) (by kernel_rfl) (by kernel_rfl) (fun _ _ _ h => h) (Or.inl ⟨by rfl, ?_⟩) ?_
                  rotate_left
                  · intro w9; go_simp; try with_reducible rfl
                  refine wpAny_take (i := 16) (v := ?_) rfl (by kernel_rfl) (by kernel_rfl) (by kernel_rfl) (fun _ _ _ h => h) (Or.inl ⟨by rfl, ?_⟩) ?_
                  rotate_left
                  · intro w9; go_simp; try with_reducible rfl
                  refine wpAny_ready (rs := [17]) (by kernel_rfl) (by simp) ?_
                  refine AllReady.cons rfl (fun K hK => ?_) ?_
                  · go_simp
                    refine hK _ _ ?_
                    clear hK K
                    refine wpAny_take (i := 18) (v := ?_) rfl (by kernel_rfl) (by kernel_rfl) (by kernel_rfl) (fun _ _ _ h => h) (Or.inl ⟨by rfl, ?_⟩) ?_
                    rotate_left
                    · intro w9; go_simp; try with_reducible rfl
                    refine wpAny_take (i := 19) (v := ?_) rfl (by kernel_rfl) (by kernel_rfl) (by kernel_rfl) (fun _ _ _ h => h) (Or.inl ⟨by rfl, ?_⟩) ?_
                    rotate_left
                    · intro w9; go_simp; try with_reducible rfl
                    refine wpAny_take (i := 20) (v := undef) rfl (by kernel_rfl) (by kernel_rfl) (by kernel_rfl) (fun _ _ _ h => h) (Or.inr ⟨by rfl, rfl⟩) ?_
                    refine wpAny_take (i := 22) (v := undef) rfl (by kernel_rfl) (by kernel_rfl) (by kernel_rfl) (fun _ _ _ h => h) (Or.inr ⟨by rfl, rfl⟩) ?_
                    refine wpAny_ready (rs := [21, 23]) (by kernel_rfl) (by simp) ?_
                    refine AllReady.cons rfl (fun K hK => ?_) ?_
                    · go_simp
                      refine hK _ _ ?_
                      clear hK K
                      refine wpAny_ready (rs := [23]) (by kernel_rfl) (by simp) ?_
                      refine AllReady.cons rfl (fun K hK => ?_) ?_
                      · go_simp
                        refine hK _ _ ?_
                        clear hK K
                        refine wpAny_take (i := 24) (v := undef) rfl (by kernel_rfl) (by kernel_rfl) (by kernel_rfl) (fun _ _ _ h => h) (Or.inr ⟨by rfl, rfl⟩) ?_
                        refine wpAny_take (i := 25) (v := undef) rfl (by kernel_rfl) (by kernel_rfl) (by kernel_rfl) (fun _ _ _ h => h) (Or.inr ⟨by rfl, rfl⟩) ?_
                        refine wpAny_take (i := 26) (v := ?_) rfl (by kernel_rfl) (by kernel_rfl) (by kernel_rfl) (fun _ _ _ h => h) (Or.inl ⟨by rfl, ?_⟩) ?_
                        rotate_left
                        · intro w9; go_simp; try with_reducible rfl
                        refine wpAny_take (i := 27) (v := ?_) rfl (by kernel_rfl) (by kernel_rfl) (by kernel_rfl) (fun _ _ _ h => h) (Or.inl ⟨by rfl, ?_⟩) ?_
                        rotate_left
                        · intro w9; go_simp; try with_reducible rfl
                        refine wpAny_take (i := 28) (v := ?_) rfl (by kernel_rfl) (by kernel_rfl) (by kernel_rfl) (fun _ _ _ h => h) (Or.inl ⟨by rfl, ?_⟩) ?_
                        rotate_left
                        · intro w9; go_simp; try with_reducible rfl
                        refine wpAny_done (by kernel_rfl) ?_ _
                        exact ⟨⟨_, rfl, by simp [go_sem]⟩, HKK.out⟩
                      exact AllReady.nil
                    refine AllReady.cons rfl (fun K hK => ?_) ?_
                    · go_simp
                      refine hK _ _ ?_
                      clear hK K
                      refine wpAny_take (i := 24) (v := undef) rfl (by kernel_rfl) (by kernel_rfl) (by kernel_rfl) (fun _ _ _ h => h) (Or.inr ⟨by rfl, rfl⟩) ?_
                      refine wpAny_ready (rs := [21]) (by kernel_rfl) (by simp) ?_
                      refine AllReady.cons rfl (fun K hK => ?_) ?_
                      · go_simp
                        refine hK _ _ ?_
                        clear hK K
                        refine wpAny_take (i := 25) (v := undef) rfl (by kernel_rfl) (by kernel_rfl) (by kernel_rfl) (fun _ _ _ h => h) (Or.inr ⟨by rfl, rfl⟩) ?_
                        refine wpAny_take (i := 26) (v := ?_) rfl (by kernel_rfl) (by kernel_rfl) (by kernel_rfl) (fun _ _ _ h => h) (Or.inl ⟨by rfl, ?_⟩) ?_
                        rotate_left
                        · intro w9; go_simp; try with_reducible rfl
                        refine wpAny_take (i := 27) (v := ?_) rfl (by kernel_rfl) (by kernel_rfl) (by kernel_rfl) (fun _ _ _ h => h) (Or.inl ⟨by rfl, ?_⟩) ?_
                        rotate_left
                        · intro w9; go_simp; try with_reducible rfl
                        refine wpAny_take (i := 28) (v := ?_) rfl (by kernel_rfl) (by kernel_rfl) (by kernel_rfl) (fun _ _ _ h => h) (Or.inl ⟨by rfl, ?_⟩) ?_
                        rotate_left
                        · intro w9; go_simp; try with_reducible rfl
                        refine wpAny_done (by kernel_rfl) ?_ _
                        exact ⟨⟨_, rfl, by simp [go_sem]⟩, HKK.out⟩
                      exact AllReady.nil
                    exact AllReady.nil
                  exact AllReady.nil
                exact AllReady.nil
              exact AllReady.nil
            refine AllReady.cons rfl (fun K hK => ?_) ?_
            · go_simp
              refine hK _ _ ?_
              clear hK K
              refine wpAny_ready (rs := [11]) (by kernel_rfl) (by simp) ?_
              refine AllReady.cons rfl (fun K hK => ?_) ?_
              · go_simp
                refine hK _ _ ?_
                clear hK K
                refine wpAny_ready (rs := [13]) (by kernel_rfl) (by simp) ?_
                refine AllReady.cons rfl (fun K hK => ?_) ?_
                · go_simp
                  refine (HSP _ (keeps_drewN w7 (1 + n1) [])).out.mono ?_
                  rintro e w10 ⟨rfl, hb10⟩
                  have kk10 : Keeps [] w7 w10 := (keeps_drewN w7 (1 + n1) []).trans (keeps_of_below hb10 [])
                  obtain ⟨u0, u1, v0, v2, x0, x1⟩ := HPC.out w10 kk10
                  have HKK := Lib.hid kk10
                  clear hb10 kk10
                  refine hK _ _ ?_
                  clear hK K
                  refine wpAny_take (i := 14) (v := ?_) rfl (by kernel_rfl) (by kernel_rfl) (by kernel_rfl) (fun _ _ _ h => h) (Or.inl ⟨by rfl, ?_⟩) ?_
                  rotate_left
                  · intro w9; go_simp; try with_reducible rfl
                  refine wpAny_take (i := 15) (v := ?_) rfl (by kernel_rfl) (by kernel_rfl) (by kernel_rfl) (fun _ _ _ h => h) (Or.inl ⟨by rfl, ?_⟩) ?_
                  rotate_left
                  · intro w9; go_simp; try with_reducible rfl
                  refine wpAny_take (i := 16) (v := ?_) rfl (by kernel_rfl) (by kernel_rfl) (by kernel_rfl) (fun _ _ _ h => h) (Or.inl ⟨by rfl, ?_⟩) ?_
                  rotate_left
                  · intro w9; go_simp; try with_reducible rfl
                  refine wpAny_ready (rs := [17]) (by kernel_rfl) (by simp) ?_
                  refine AllReady.cons rfl (fun K hK => ?_) ?_
                  · go_simp
                    refine hK _ _ ?_
                    clear hK K
                    refine wpAny_take (i := 18) (v := ?_) rfl (by kernel_rfl) (by kernel_rfl) (by kernel_rfl) (fun _ _ _ h => h) (Or.inl ⟨by rfl, ?_⟩) ?_
                    rotate_left
                    · intro w9; go_simp; try with_reducible rfl
                    refine wpAny_take (i := 19) (v := ?_) rfl (by kernel_rfl) (by kernel_rfl) (by kernel_rfl) (fun _ _ _ h => h) (Or.inl ⟨by rfl, ?_⟩) ?_
                    rotate_left
                    · intro w9; go_simp; try with_reducible rfl
                    refine wpAny_take (i := 20) (v := undef) rfl (by kernel_rfl) (by kernel_rfl) (by kernel_rfl) (fun _ _ _ h => h) (Or.inr ⟨by rfl, rfl⟩) ?_
                    refine wpAny_take (i := 22) (v := undef) rfl (by kernel_rfl) (by kernel_rfl) (by kernel_rfl) (fun _ _ _ h => h) (Or.inr ⟨by rfl, rfl⟩) ?_
                    refine wpAny_ready (rs := [21, 23]) (by kernel_rfl) (by simp) ?_
                    refine AllReady.cons rfl (fun K hK => ?_) ?_
                    · go_simp
                      refine hK _ _ ?_
                      clear hK K
                      refine wpAny_ready (rs := [23]) (by kernel_rfl) (by simp) ?_
                      refine AllReady.cons rfl (fun K hK => ?_) ?_
                      · go_simp
                        refine hK _ _ ?_
                        clear hK K
                        refine wpAny_take (i := 24) (v := undef) rfl (by kernel_rfl) (by kernel_rfl) (by kernel_rfl) (fun _ _ _ h => h) (Or.inr ⟨by rfl, rfl⟩) ?_
                        refine wpAny_take (i := 25) (v := undef) rfl (by kernel_rfl) (by kernel_rfl) (by kernel_rfl) (fun _ _ _ h => h) (Or.inr ⟨by rfl, rfl⟩) ?_
                        refine wpAny_take (i := 26) (v := ?_) rfl (by kernel_rfl) (by kernel_rfl) (by kernel_rfl) (fun _ _ _ h => h) (Or.inl ⟨by rfl, ?_⟩) ?_
                        rotate_left
                        · intro w9; go_simp; try with_reducible rfl
                        refine wpAny_take (i := 27) (v := ?_) rfl (by kernel_rfl) (by kernel_rfl) (by kernel_rfl) (fun _ _ _ h => h) (Or.inl ⟨by rfl, ?_⟩) ?_
                        rotate_left
                        · intro w9; go_simp; try with_reducible rfl
                        refine wpAny_take (i := 28) (v := ?_) rfl (by kernel_rfl) (by kernel_rfl) (by kernel_rfl) (fun _ _ _ h => h) (Or.inl ⟨by rfl, ?_⟩) ?_
                        rotate_left
                        · intro w9; go_simp; try with_reducible rfl
                        refine wpAny_done (by kernel_rfl) ?_ _
                        exact ⟨⟨_, rfl, by simp [go_sem]⟩, HKK.out⟩
                      exact AllReady.nil
                    refine AllReady.cons rfl (fun K hK => ?_) ?_
                    · go_simp
                      refine hK _ _ ?_
                      clear hK K
                      refine wpAny_take (i := 24) (v := undef) rfl (by kernel_rfl) (by kernel_rfl) (by kernel_rfl) (fun _ _ _ h => h) (Or.inr ⟨by rfl, rfl⟩) ?_
                      refine wpAny_ready (rs := [21]) (by kernel_rfl) (by simp) ?_
                      refine AllReady.cons rfl (fun K hK => ?_) ?_
                      · go_simp
                        refine hK _ _ ?_
                        clear hK K
                        refine wpAny_take (i := 25) (v := undef) rfl (by kernel_rfl) (by kernel_rfl) (by kernel_rfl) (fun _ _ _ h => h) (Or.inr ⟨by rfl, rfl⟩) ?_
                        refine wpAny_take (i := 26) (v := ?_) rfl (by kernel_rfl) (by kernel_rfl) (by kernel_rfl) (fun _ _ _ h => h) (Or.inl ⟨by rfl, ?_⟩) ?_
                        rotate_left
                        · intro w9; go_simp; try with_reducible rfl
                        refine wpAny_take (i := 27) (v := ?_) rfl (by kernel_rfl) (by kernel_rfl) (by kernel_rfl) (fun _ _ _ h => h) (Or.inl ⟨by rfl, ?_⟩) ?_
                        rotate_left
                        · intro w9; go_simp; try with_reducible rfl
                        refine wpAny_take (i := 28) (v := ?_) rfl (by kernel_rfl) (by kernel_rfl) (by kernel_rfl) (fun _ _ _ h => h) (Or.inl ⟨by rfl, ?_⟩) ?_
                        rotate_left
                        · intro w9; go_simp; try with_reducible rfl
                        refine wpAny_done (by kernel_rfl) ?_ _
                        exact ⟨⟨_, rfl, by simp [go_sem]⟩, HKK.out⟩
                      exact AllReady.nil
                    exact AllReady.nil
                  exact AllReady.nil
                exact AllReady.nil
              exact AllReady.nil
            exact AllReady.nil
          exact AllReady.nil
        exact AllReady.nil
      exact AllReady.nil
    case mono =>
      intro e a W hQ
      cases e with
      | normal =>
        obtain ⟨⟨t, rfl, ht⟩, hk⟩ := hQ
        have HBE : Hid (Below w.heap.size w W) := HB7.out.trans (hk.below HB7.out.size (by simp))
        clear hk
        go_wp2
        go_ret
        exact ⟨by rw [ht], HBE.out⟩
      | _ => exact hQ.elim

theorem slideTakes (bo : Option Addr) (cap : Nat) (zs : List Nat) (n : Int) (w : World) (hz : ∀ z ∈ zs, z < 256) (hd : BytesAt w bo zs) (hl : zs.length ≤ 9223372036854775807) :
    Calls Try.prog 4 #[.slice bo zs.length cap, .int .i64 n] w fun e w' => e = .returned (.bool true) ∧ Below w.heap.size w w' := by
  by_cases h : zs.length ≤ 120
  · exact takes_few bo cap zs n w hz hd h
  · exact takes_much bo cap zs n w hl (by omega)
end Go.Proofs.Ytnpngahpadchpaa

namespace Go.Proofs.Ytnpngahpadchpaa.slideTakes
open Go.ChangeShapes Go.WideShapes Go.ChangeAt Go.RowKit Go.Proofs.PipeM
set_option linter.unusedVariables false

theorem own : ownKnob Try.prog.godebug = none := by kernel_rfl
theorem laidOut : laidOutB Try.prog = true := by kernel_rfl

theorem walk (a0 : Option Addr) (len0 cap0 : Nat) (z0 : List Int) (a1 : Int) (w : World) (w0 : IsRow .u8 w a0 len0 cap0 z0) (w1 : (Lit.int .i64 a1).wf = true) :
    Calls Try.prog 4 #[.slice a0 len0 cap0, .int .i64 a1] w fun e w' => e = .returned (.bool true) ∧ Below w.heap.size w w' := by
  have hm0 : len0 ≤ 9223372036854775807 := by
    rcases w0 with ⟨_, h, _, _⟩ | ⟨x, hx, h1, h, _⟩
    · omega
    · unfold maxLen at h; omega
  obtain ⟨zs, rfl, hz, hd⟩ := bytes_of_row w0
  exact slideTakes a0 cap0 zs a1 w hz hd hm0

set_option maxRecDepth 100000 in
theorem lifted (os : Os) (started : os.Started) (H : Type) (enc : TypeId × Value → H) :
    ReturnsInHanded {} Try.checked os 4 .any (Rows.slideTakesSpec.pre6 enc Try.prog Try.f4 Rows.slideTakesRow.domain false) (Rows.slideTakesSpec.post enc Try.prog Try.f4 false true false false) := by
  refine returnsInHanded_of_change (C := Try.checked) own started (by kernel_rfl) Try.func4
    (ChangeSpec.witness6 (enc := enc) (C := Try.checked) false ⟨#[], #[.slice none 0 0, .int .i64 0], []⟩ 8 (by kernel_rfl) (by kernel_rfl) (by kernel_rfl) (by kernel_rfl)) ?_
  intro W base args ds gs before hval0 hW hcnd _
  have hval : ∀ (j : Nat) t v, Try.f4.params[j]? = some t → args[j]? = some v → Value.okWide Try.prog W .any base t v := hval0
  have hW' := hW
  obtain ⟨p, q, hA0, hV, rfl, hfz, hnd⟩ := hW
  have hA : DataW.TrodAll enc Try.prog W 0 (fun _ => true) true Try.f4.params.toList args.toList ds p := hA0
  rw [Try.params4] at hA hval
  obtain ⟨v0, vs0, d0, ds0, p0, q0, hargs, rfl, rfl, h0, r0⟩ := trodAll_cons hA
  obtain ⟨v1, vs1, d1, ds1, p1, q1, rfl, rfl, rfl, h1, r1⟩ := trodAll_cons r0
  obtain ⟨rfl, rfl, rfl⟩ := trodAll_nil r1
  obtain rfl : args = #[v0, v1] := by cases args; simp_all
  obtain ⟨rfl, rfl⟩ := trodVars_none hV
  obtain ⟨a0, len0, cap0, rfl⟩ := okWide_slice Try.underlying30 (hval 0 30 v0 rfl rfl)
  have k0 := h0
  have lt0 : ∀ x ∈ p0, x.block < W.heap.size := by obtain ⟨m, hm⟩ := k0; exact DataW.trod_lt m _ _ _ hm
  obtain ⟨z0, w0⟩ : ∃ zs, IsRow .u8 W a0 len0 cap0 zs := by
    obtain ⟨fuel, hf⟩ := h0
    rcases open_ints Try.underlying30 Try.underlying5 (by kernel_rfl) hf with ⟨hcs, _⟩ | ⟨x, l, c, zs, hcs, _, hl, hm, hz, _, hcell, hwz⟩
    · simp [Value.cells] at hcs
      obtain ⟨rfl, rfl, rfl⟩ := hcs
      exact ⟨[], .inl ⟨rfl, rfl, rfl, rfl⟩⟩
    · simp [Value.cells] at hcs
      obtain ⟨rfl, rfl, rfl⟩ := hcs
      exact ⟨zs, .inr ⟨_, rfl, hl, hm, by simpa using hz, hcell, hwz⟩⟩
  obtain ⟨a1, rfl, rfl, rfl, w1⟩ := open_int Try.underlying3 (hval 1 3 v1 rfl rfl) h1
  clear hA0 hval0
  refine (walk a0 len0 cap0 z0 a1 W w0 w1).mono fun e W' ⟨he, bel⟩ => ?_
  subst he
  exact ⟨_, rfl, _, _, _, [], _, [], hW', trodAll_mk1 (shut_bool Try.underlying4 _), (trodAll_cons_mk (Below.trod laidOut (by kernel_rfl) (of_decide_eq_true (by kernel_rfl)) k0 bel lt0) (trodAll_cons_mk (shut_int Try.underlying3 w1) trodAll_mk0)), rfl, bel.frame _, fun h => by cases h⟩

theorem over : Rows.slideTakesRow.holds Try.pinned (OpenSpec.ofChange Rows.slideTakesSpec) :=
  OpenClaim.holds_of_wide 4 Try.f4 rfl rfl rfl rfl rfl rfl rfl ⟨rfl, rfl, rfl, rfl, rfl⟩ rfl rfl rfl rfl rfl (by kernel_rfl) Try.func4 (by kernel_rfl)
    (of_decide_eq_true (by kernel_rfl)) (by unfold Func.isWrapper; first | (rw [if_pos (by decide +kernel)]; kernel_rfl) | (rw [if_neg (by decide +kernel)]; exact ⟨rfl, rfl⟩))
    (fun os started H enc _ => lifted os started H enc)

theorem proved : Rows.SlideTakesSaid := over
end Go.Proofs.Ytnpngahpadchpaa.slideTakes
