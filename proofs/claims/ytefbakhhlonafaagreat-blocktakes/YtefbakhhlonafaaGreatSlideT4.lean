import Derived.Test.YtefbakhhlonafaaGreatSlideT
import Derived.Test.YtefbakhhlonafaaGreatBlkC2

section
namespace Go.Proofs.YtefbakhhlonafaaGreat
open Go.RowKit Go.Proofs Go.Proofs.PipeM Go.Proofs.PipeA

theorem MR.take_spent {m : MR} (h : m.fail ≠ 0) (n : Int) : m.take n = (m, 0) := by
  unfold MR.take
  rw [MR.give_spent h, MR.give_spent h]
  split
  · rfl
  · split
    · rfl
    · first | rfl | rw [if_pos h]
theorem MR.rice_spent {m : MR} (h : m.fail ≠ 0) (k : Int) : m.rice k = (m, 0) := by
  unfold MR.rice
  rw [MR.give_spent h]
  have hr : m.run 24 = (m, 0) := by unfold MR.run; rw [if_pos h]
  rw [hr]
  split
  · rfl
  · rw [if_pos (show (0 : Nat) < 24 by decide), MR.take_spent h]
    unfold MR.riceA
    rw [if_pos h]

/-- The document's. -/
def MR.many (k : Int) : Nat → MR → MR × List Int
  | 0, m => (m, [])
  | n + 1, m => if m.fail ≠ 0 then (m, []) else ((MR.many k n (m.rice k).1).1, (m.rice k).2 :: (MR.many k n (m.rice k).1).2)
def MR.partM (size : Nat) (m : MR) : MR × List Int := MR.many ((m.take 5).2 : Nat) size (m.take 5).1
def MR.body (size : Nat) : Nat → MR → MR × List Int × List Int
  | 0, m => (m, [], [])
  | c + 1, m => if m.fail ≠ 0 then (m, [], []) else ((MR.body size c (m.partM size).1).1, (m.partM size).2 ++ (MR.body size c (m.partM size).1).2.1, (((m.take 5).2 : Nat) : Int) :: (MR.body size c (m.partM size).1).2.2)
def MR.form (m : MR) (n p : Nat) : MR := if n % 2 ^ p ≠ 0 then m.give 2 else m
def MR.slideB (m : MR) (n p : Nat) : MR × List Int × Nat × List Int :=
  if (MR.body (n / 2 ^ p) (2 ^ p) (m.form n p)).1.fail ≠ 0 then ((MR.body (n / 2 ^ p) (2 ^ p) (m.form n p)).1, [], 0, []) else ((MR.body (n / 2 ^ p) (2 ^ p) (m.form n p)).1, (MR.body (n / 2 ^ p) (2 ^ p) (m.form n p)).2.1, p, (MR.body (n / 2 ^ p) (2 ^ p) (m.form n p)).2.2)
def MR.slide (m : MR) (n : Int) : MR × List Int × Nat × List Int :=
  if n < 1 ∨ 1024 < n then (m.give 1, [], 0, []) else (m.take 2).1.slideB n.toNat (m.take 2).2

theorem Sim.spentMany {s : RS} {m : MR} (h : Sim s m) (hf : m.fail ≠ 0) (k : Int) : ∀ n, Sim (RS.many k n s).1 m := by
  intro n
  induction n generalizing s with
  | zero => exact h
  | succ n ih =>
    rw [RS.many]
    have h1 := (h.rice k).1
    rw [MR.rice_spent hf] at h1
    exact ih h1
theorem Sim.many {s : RS} {m : MR} (h : Sim s m) (k : Int) : ∀ n, Sim (RS.many k n s).1 (MR.many k n m).1 ∧ ((MR.many k n m).1.fail = 0 → (RS.many k n s).2 = (MR.many k n m).2) := by
  intro n
  induction n generalizing s m with
  | zero => exact ⟨h, fun _ => rfl⟩
  | succ n ih =>
    rw [MR.many]
    by_cases hf : m.fail = 0
    · rw [if_neg (by simpa using hf), RS.many]
      obtain ⟨h1, h2⟩ := h.rice k
      obtain ⟨h3, h4⟩ := ih h1
      exact ⟨h3, fun e => by rw [h4 e, h2]⟩
    · rw [if_pos hf]
      exact ⟨h.spentMany hf k (n + 1), fun e => absurd e hf⟩
theorem Sim.part {s : RS} {m : MR} (h : Sim s m) (size : Nat) : Sim (s.partS size).1 (m.partM size).1 ∧ ((m.partM size).1.fail = 0 → (s.partS size).2 = (m.partM size).2) := by
  obtain ⟨h1, h2⟩ := h.take 5
  unfold RS.partS MR.partM
  rw [← h2]
  exact h1.many _ size
theorem MR.body_spent {m : MR} (h : m.fail ≠ 0) (size : Nat) : ∀ c, MR.body size c m = (m, [], [])
  | 0 => rfl
  | c + 1 => by rw [MR.body, if_pos h]
theorem Sim.body {s : RS} {m : MR} (h : Sim s m) (hf : m.fail = 0) (size : Nat) : ∀ c, Sim (RS.body size c s).1 (MR.body size c m).1 ∧ ((MR.body size c m).1.fail = 0 → (RS.body size c s).2 = (MR.body size c m).2) := by
  intro c
  induction c generalizing s m with
  | zero => exact ⟨h, fun _ => rfl⟩
  | succ c ih =>
    obtain ⟨h1, h2⟩ := h.part size
    rw [MR.body, if_neg (by simpa using hf), RS.body]
    by_cases hq : (m.partM size).1.fail = 0
    · rw [if_neg (by rw [h1.err]; simpa using hq)]
      obtain ⟨h3, h4⟩ := ih h1 hq
      exact ⟨h3, fun e => by rw [h4 e, h2 hq, (h.take 5).2]⟩
    · rw [if_pos (by rw [h1.err]; exact hq), MR.body_spent hq]
      exact ⟨h1, fun e => absurd e hq⟩

theorem spent_body {s : RS} {m : MR} (h : Sim s m) (hf : m.fail ≠ 0) (size : Nat) : ∀ c, Sim (RS.body size c s).1 m
  | 0 => h
  | c + 1 => by
    have ht := (h.take 5).1
    rw [MR.take_spent hf] at ht
    have hp : Sim (s.partS size).1 m := ht.spentMany hf _ size
    rw [RS.body, if_pos (by rw [hp.err]; exact hf)]
    exact hp

/-- The program's reader takes a list as the document's does. -/
theorem Sim.slide {s : RS} {m : MR} (h : Sim s m) (n : Int) : Sim (s.slide n).1 (m.slide n).1 ∧ (s.slide n).2 = (m.slide n).2 := by
  unfold RS.slide MR.slide
  by_cases hn : n < 1 ∨ 1024 < n
  · rw [if_pos hn, if_pos hn]; exact ⟨h.give 1, rfl⟩
  · rw [if_neg hn, if_neg hn]
    obtain ⟨h1, h2⟩ := h.take 2
    rw [h2]
    by_cases hd : n.toNat % 2 ^ (m.take 2).2 = 0
    · have hform : (m.take 2).1.form n.toNat (m.take 2).2 = (m.take 2).1 := by unfold MR.form; rw [if_neg (by simpa using hd)]
      unfold MR.slideB RS.slideB
      rw [hform, if_neg (by simpa using hd)]
      by_cases hf : (m.take 2).1.fail = 0
      · obtain ⟨h3, h4⟩ := h1.body hf (n.toNat / 2 ^ (m.take 2).2) (2 ^ (m.take 2).2)
        rw [h3.err]
        split
        · exact ⟨h3, rfl⟩
        · rename_i hz
          have e := h4 (by simpa using hz)
          exact ⟨h3, by rw [e]⟩
      · have hsp := spent_body h1 hf (n.toNat / 2 ^ (m.take 2).2) (2 ^ (m.take 2).2)
        rw [MR.body_spent hf, if_pos hf, if_pos (by rw [hsp.err]; exact hf)]
        exact ⟨hsp, rfl⟩
    · have hg : ((m.take 2).1.give 2).fail ≠ 0 := give_fail _ 2 (by decide)
      have hform : (m.take 2).1.form n.toNat (m.take 2).2 = (m.take 2).1.give 2 := by unfold MR.form; rw [if_pos hd]
      unfold MR.slideB
      rw [hform, if_pos hd, MR.body_spent hg, if_pos hg]
      exact ⟨h1.give 2, rfl⟩
end Go.Proofs.YtefbakhhlonafaaGreat
end

section
namespace Go.Proofs.YtefbakhhlonafaaGreat
open Go.RowKit Go.Shelf Go.Proofs Go.Proofs.PipeM Go.Proofs.PipeA
set_option maxRecDepth 100000

/-- Where the taking of parts stands: the reader, whether no part has failed, the parameters, the numbers. -/
structure TS where
  s : RS
  ok : Bool
  keys : Nat → Int
  list : Nat → Int

/-- The numbers behind j numbers of part x; the parameters behind that of part x. -/
def putL (size x j : Nat) (c : List Int) (f : Nat → Int) (i : Nat) : Int := if x * size ≤ i ∧ i < x * size + j then c.getD (i - x * size) 0 else f i
def putK (x : Nat) (k : Int) (f : Nat → Int) (i : Nat) : Int := if i = x then k else f i

/-- One part more. -/
def TS.step (size : Nat) (t : TS) (x : Nat) : TS :=
  ⟨(t.s.partS size).1, t.ok && decide ((t.s.partS size).1.err = 0), putK x ((t.s.takeV 5 : Nat) : Int) t.keys, putL size x size (t.s.partS size).2 t.list⟩
def TS.run (size : Nat) (t : TS) (l : List Nat) : TS := l.foldl (TS.step size) t

theorem run_snoc (size : Nat) (t : TS) (l : List Nat) (x : Nat) : t.run size (l ++ [x]) = (t.run size l).step size x := by simp [TS.run]
theorem run_cons (size : Nat) (t : TS) (l : List Nat) (x : Nat) : t.run size (x :: l) = (t.step size x).run size l := rfl

theorem run_ok {size : Nat} : ∀ {l : List Nat} {t : TS}, (t.run size l).ok = true → t.ok = true
  | [], _, h => h
  | x :: l, t, h => by
    have := run_ok (l := l) (t := t.step size x) h
    simp [TS.step] at this
    exact this.1

theorem run_kept {size : Nat} : ∀ (m j : Nat) (t : TS) (i : Nat), i < j * size → (t.run size (List.range' j m)).list i = t.list i
  | 0, _, _, _, _ => rfl
  | m + 1, j, t, i, h => by
    rw [List.range'_succ, run_cons, run_kept m (j + 1) _ i (by rw [Nat.add_mul]; omega)]
    show putL _ _ _ _ _ _ = _
    unfold putL
    rw [if_neg (by omega)]
theorem run_keptK {size : Nat} : ∀ (m j : Nat) (t : TS) (i : Nat), i < j → (t.run size (List.range' j m)).keys i = t.keys i
  | 0, _, _, _, _ => rfl
  | m + 1, j, t, i, h => by
    rw [List.range'_succ, run_cons, run_keptK m (j + 1) _ i (by omega)]
    show putK _ _ _ _ = _
    unfold putK
    rw [if_neg (by omega)]

theorem partS_length (size : Nat) (s : RS) : (s.partS size).2.length = size := many_length _ _ _

/-- What stands behind so many parts is what the taking of them answers. -/
theorem body_run (size : Nat) : ∀ (m j : Nat) (t : TS), (t.run size (List.range' j m)).ok = true →
    RS.body size m t.s = ((t.run size (List.range' j m)).s, (List.range (m * size)).map (fun i => (t.run size (List.range' j m)).list (j * size + i)), (List.range m).map (fun i => (t.run size (List.range' j m)).keys (j + i)))
  | 0, _, _, _ => by simp [RS.body, TS.run]
  | m + 1, j, t, h => by
    rw [List.range'_succ, run_cons] at h ⊢
    have hok := run_ok h
    have he : (t.s.partS size).1.err = 0 := by simp [TS.step] at hok; exact hok.2
    have ih := body_run size m (j + 1) (t.step size j) h
    have e1 : (t.step size j).s = (t.s.partS size).1 := rfl
    rw [e1] at ih
    rw [RS.body, if_neg (by simp [he]), ih]
    simp only [Prod.mk.injEq, true_and]
    constructor
    · apply List.ext_getElem
      · simp [partS_length, Nat.add_mul]; omega
      · intro i h1 h2
        simp only [List.length_append, partS_length, List.length_map, List.length_range] at h1
        simp only [List.getElem_map, List.getElem_range]
        rw [List.getElem_append]
        split
        · rename_i hlt
          rw [partS_length] at hlt
          rw [run_kept m (j + 1) _ _ (by rw [Nat.add_mul]; omega)]
          show _ = putL _ _ _ _ _ _
          unfold putL
          rw [if_pos (by omega), show j * size + i - j * size = i by omega]
          simp [List.getD, partS_length, hlt]
        · rename_i hge
          rw [partS_length] at hge
          simp only [List.getElem_map, List.getElem_range, partS_length]
          congr 1
          rw [Nat.add_mul]; omega
    · apply List.ext_getElem
      · simp
      · intro i h1 h2
        simp only [List.getElem_map, List.getElem_range]
        cases i with
        | zero =>
          rw [run_keptK m (j + 1) _ _ (by omega)]
          show _ = putK _ _ _ _
          simp [putK]
        | succ i =>
          simp only [List.getElem_cons_succ, List.getElem_map, List.getElem_range]
          congr 1
          omega

/-- Where a part fails, nothing more is taken. -/
theorem body_stop (size r : Nat) : ∀ (q j : Nat) (t : TS), (t.run size (List.range' j q)).ok = true → ((t.run size (List.range' j q)).step size (j + q)).s.err ≠ 0 →
    (RS.body size (q + 1 + r) t.s).1 = ((t.run size (List.range' j q)).step size (j + q)).s
  | 0, j, t, _, h => by
    have h' : (RS.partS size t.s).1.err ≠ 0 := h
    rw [show 0 + 1 + r = r + 1 by omega, RS.body, if_pos h']; rfl
  | q + 1, j, t, hk, h => by
    rw [List.range'_succ, run_cons] at hk h ⊢
    have hok := run_ok hk
    have he : (t.s.partS size).1.err = 0 := by simp [TS.step] at hok; exact hok.2
    rw [show q + 1 + 1 + r = (q + 1 + r) + 1 by omega, RS.body, if_neg (by simp [he])]
    rw [show j + (q + 1) = j + 1 + q by omega] at h ⊢
    exact body_stop size r q (j + 1) (t.step size j) hk h

/-- Behind one number more of a part. -/
theorem putL_next {size x j : Nat} {k : Int} {s : RS} {f : Nat → Int} {N : Nat} : ∀ i, i < N →
    putL size x (j + 1) (RS.many k (j + 1) s).2 f i = if i = x * size + j then ((RS.many k j s).1.rice k).2 else putL size x j (RS.many k j s).2 f i := by
  intro i _
  have hl := many_length k j s
  unfold putL
  rw [many_snoc]
  by_cases h1 : i = x * size + j
  · rw [if_pos (by omega), if_pos h1, h1, show x * size + j - x * size = j by omega]
    simp [List.getD, hl]
  · rw [if_neg h1]
    by_cases h2 : x * size ≤ i ∧ i < x * size + j
    · rw [if_pos (by omega), if_pos h2, List.getD_eq_getElem?_getD, List.getD_eq_getElem?_getD, List.getElem?_append_left (by rw [hl]; omega)]
    · rw [if_neg (by omega), if_neg h2]

/-- A reader abides what grows behind. -/
theorem own_rda {β : Type} {B b : Nat} {ao : Option Addr} (hb : b < B) (ha : ∀ g off, ao = some ⟨g, off, none⟩ → g < B) (f : β → RS) : OwnFrom B (fun s W => RdA W b ao (f s)) := by
  intro s X Y row hs hg hr
  have hk := grown_keeps hg
  refine hs.keeps hk ?_ ?_
  · intro hm
    cases row with
    | none => simp at hm
    | some r => obtain ⟨h1, _⟩ := hr r rfl; simp at hm; omega
  · intro g off hao hm
    cases row with
    | none => simp at hm
    | some r => obtain ⟨h1, _⟩ := hr r rfl; simp at hm; have := ha g off hao; omega
theorem own_and {β : Type} {B : Nat} {p : β → Prop} {J : β → World → Prop} (h : OwnFrom B J) : OwnFrom B (fun s W => p s ∧ J s W) :=
  fun s X Y row hs hg hr => ⟨hs.1, h s X Y row hs.2 hg hr⟩
end Go.Proofs.YtefbakhhlonafaaGreat
end

section
namespace Go.Proofs.YtefbakhhlonafaaGreat
open Go.RowKit Go.Shelf Go.Proofs Go.Proofs.PipeM Go.Proofs.PipeA
set_option maxRecDepth 100000

/-- What slide.Take leaves, and answers. -/
def TakeIs (w : World) (b : Nat) (ao : Option Addr) (r : RS × List Int × Nat × List Int) (e : Ending) (w' : World) : Prop :=
  ∃ la lc ka kc, e = .returned (.tuple #[.slice la r.2.1.length lc, .agg #[.int .i64 ((r.2.2.1 : Nat) : Int), .slice ka r.2.2.2.length kc]]) ∧ RdA w' b ao r.1 ∧ IntsAt w' la r.2.1 ∧ IntsAt w' ka r.2.2.2 ∧
    (∀ g off, la = some ⟨g, off, none⟩ → w.heap.size ≤ g) ∧ (∀ g off, ka = some ⟨g, off, none⟩ → w.heap.size ≤ g) ∧ r.2.1.length ≤ lc ∧ r.2.2.2.length ≤ kc ∧ Keeps [b] w w'

theorem takeIs_none {w w' : World} {b : Nat} {ao : Option Addr} {s : RS} (h : RdA w' b ao s) (hk : Keeps [b] w w') :
    TakeIs w b ao (s, [], 0, []) (.returned (.tuple #[.slice none 0 0, .agg #[.int .i64 0, .slice none 0 0]])) w' :=
  ⟨none, 0, none, 0, rfl, h, (fun j hj => by simp at hj), (fun j hj => by simp at hj), (fun _ _ h => by cases h), (fun _ _ h => by cases h), Nat.le_refl _, Nat.le_refl _, hk⟩

theorem Keeps.mono {bs bs' : List Nat} {w w' : World} (h : Keeps bs w w') (hs : ∀ x ∈ bs, x ∈ bs') : Keeps bs' w w' :=
  ⟨h.os, h.tape, h.output, h.size, fun k hk hn => h.block k hk (fun hm => hn (hs k hm))⟩

theorem alloc3h (w : World) (o1 o2 o3 : Obj) : (((w.alloc o1).alloc o2).alloc o3).heap[w.heap.size]? = some o1 ∧ (((w.alloc o1).alloc o2).alloc o3).heap[w.heap.size + 1]? = some o2 ∧ (((w.alloc o1).alloc o2).alloc o3).heap[w.heap.size + 1 + 1]? = some o3 ∧ (((w.alloc o1).alloc o2).alloc o3).heap.size = w.heap.size + 3 ∧ Below w.heap.size w (((w.alloc o1).alloc o2).alloc o3) := by
  have h1 := World.alloc_heap_new w o1
  have h2 := World.alloc_heap_new (w.alloc o1) o2
  have h3 := World.alloc_heap_new ((w.alloc o1).alloc o2) o3
  have z1 : (w.alloc o1).heap.size = w.heap.size + 1 := by simp
  have z2 : ((w.alloc o1).alloc o2).heap.size = w.heap.size + 1 + 1 := by simp
  rw [z1] at h2
  rw [z2] at h3
  refine ⟨?_, ?_, h3, by simp, (((Below.refl _ w).alloc (Nat.le_refl _) _).alloc (by simp) _).alloc (by simp; omega) _⟩
  · exact (Below.heap_alloc _ _ _ (by simp; omega)).trans ((Below.heap_alloc _ _ _ (by simp)).trans h1)
  · exact (Below.heap_alloc _ _ _ (by simp)).trans h2

/-- The results' cells, set to nothing. -/
def nilled (W : World) (B1 B2 : Nat) : World := ((W.setCell ⟨B1, 0, none⟩ (.slice none 0 0)).setCell ⟨B2, 0, none⟩ (.int .i64 0)).setCell ⟨B2, 1, none⟩ (.slice none 0 0)
theorem nilled_is {W : World} {B1 B2 : Nat} {x0 x1 x2 : Value} (hne : B1 ≠ B2) (h0 : W.cell? ⟨B1, 0, none⟩ = some x0) (h1 : W.cell? ⟨B2, 0, none⟩ = some x1) (h2 : W.cell? ⟨B2, 1, none⟩ = some x2) :
    Keeps [B1, B2] W (nilled W B1 B2) ∧ (nilled W B1 B2).cell? ⟨B1, 0, none⟩ = some (.slice none 0 0) ∧ (nilled W B1 B2).cell? ⟨B2, 0, none⟩ = some (.int .i64 0) ∧ (nilled W B1 B2).cell? ⟨B2, 1, none⟩ = some (.slice none 0 0) := by
  unfold nilled
  refine ⟨?_, ?_, ?_, ?_⟩
  · exact (((keeps_setCell W B1 0 _).mono (by simp)).trans ((keeps_setCell _ B2 0 _).mono (by simp))).trans ((keeps_setCell _ B2 1 _).mono (by simp))
  · rw [World.cell?_setCell_other _ _ _ _ (by simp), World.cell?_setCell_other _ _ _ _ (by intro e; cases e; exact hne rfl)]
    exact World.cell?_setCell_same' _ _ _ (by rw [h0]; rfl)
  · rw [World.cell?_setCell_other _ _ _ _ (by simp)]
    exact World.cell?_setCell_same' _ _ _ (by rw [World.cell?_setCell_other _ _ _ _ (by intro e; cases e; exact hne rfl), h1]; rfl)
  · exact World.cell?_setCell_same' _ _ _ (by rw [World.cell?_setCell_other _ _ _ _ (by simp), World.cell?_setCell_other _ _ _ _ (by simp), h2]; rfl)

set_option maxHeartbeats 800000 in
theorem cSTake_len (b : Nat) (ao : Option Addr) (s : RS) (n : Int) (w : World) (h : RdA w b ao s) (ha : ∀ g off, ao = some ⟨g, off, none⟩ → g < w.heap.size) (hn : lenOk n = false) :
    Calls Tryz.prog 90 #[.pointer (some ⟨b, 0, none⟩), .int .i64 n] w (TakeIs w b ao (s.give 1, [], 0, [])) := by
  have HI := fun W => Lib.hid (cIsLen n W)
  rw [hn] at HI
  have H := Lib.hid h
  have hb := h.lt
  clear h hn
  go_enter Tryz.func90, Tryz.ntmps90
  go_wp2_with (go_at_call 110; refine (HI _).out.mono ?_; rintro e w1 ⟨rfl, rfl⟩)
  obtain ⟨h1, h2, h3, hz, hbl⟩ := alloc3h w (.cells #[.pointer (some ⟨b, 0, none⟩)] 40) (.cells #[.slice none 0 0] 22) (.cells #[.int .i64 0, .slice none 0 0] 101)
  generalize ((w.alloc (.cells #[.pointer (some ⟨b, 0, none⟩)] 40)).alloc (.cells #[.slice none 0 0] 22)).alloc (.cells #[.int .i64 0, .slice none 0 0] 101) = w3 at h1 h2 h3 hz hbl ⊢
  have HG := Lib.hid (aGive b ao s 1 w3 (H.out.keeps (keeps_of_below hbl []) (by simp) (by simp)))
  refine HG.out.mono ?_
  rintro e w4 ⟨rfl, hr4, hk4⟩
  have c0 := (hk4.cell (p := ⟨w.heap.size + 1, 0, none⟩) (by show w.heap.size + 1 < _; omega) (by simp; omega)).trans (cell_of_heap h2 0)
  have c1 := (hk4.cell (p := ⟨w.heap.size + 1 + 1, 0, none⟩) (by show w.heap.size + 1 + 1 < _; omega) (by simp; omega)).trans (cell_of_heap h3 0)
  have c2 := (hk4.cell (p := ⟨w.heap.size + 1 + 1, 1, none⟩) (by show w.heap.size + 1 + 1 < _; omega) (by simp; omega)).trans (cell_of_heap h3 1)
  have f0 := (hk4.frozen (p := ⟨w.heap.size + 1, 0, none⟩) (by show w.heap.size + 1 < _; omega) (by simp; omega)).trans (frozen_of_heap h2 0)
  have f1 := (hk4.frozen (p := ⟨w.heap.size + 1 + 1, 0, none⟩) (by show w.heap.size + 1 + 1 < _; omega) (by simp; omega)).trans (frozen_of_heap h3 0)
  have f2 := (hk4.frozen (p := ⟨w.heap.size + 1 + 1, 1, none⟩) (by show w.heap.size + 1 + 1 < _; omega) (by simp; omega)).trans (frozen_of_heap h3 1)
  simp at c0 c1 c2
  obtain ⟨kn, y0, y1, y2⟩ := nilled_is (by omega) c0 c1 c2
  have HF : Hid (TakeIs w b ao (s.give 1, [], 0, []) (.returned (.tuple #[.slice none 0 0, .agg #[.int .i64 0, .slice none 0 0]])) (nilled w4 (w.heap.size + 1) (w.heap.size + 1 + 1))) := by
    refine takeIs_none (hr4.keeps kn (by simp; omega) ?_) ?_
    · intro g off hh; have := ha g off hh; simp; omega
    · exact ((keeps_of_below hbl [b]).trans hk4).trans_new kn (by intro x hx; simp at hx; right; omega)
  unfold nilled at y0 y1 y2 HF
  clear hr4 hk4 kn hbl h1 h2 h3
  go_wp2_with fail
  refine bodyPost_ret (v := .tuple #[.slice none 0 0, .agg #[.int .i64 0, .slice none 0 0]]) ?res rfl ?_
  · simp [results, Tryz.results90, go_sem, y0, y1, y2]
  · exact HF.out

set_option maxHeartbeats 800000 in
theorem cSTake_pow (b : Nat) (ao : Option Addr) (s : RS) (n : Nat) (w : World) (h : RdA w b ao s) (ha : ∀ g off, ao = some ⟨g, off, none⟩ → g < w.heap.size) (hn : lenOk n = true) (hn2 : n ≤ 1024) (hp : powOk n ((s.takeV 2 : Nat) : Int) = false) :
    Calls Tryz.prog 90 #[.pointer (some ⟨b, 0, none⟩), .int .i64 n] w (TakeIs w b ao ((s.takeS 2).give 2, [], 0, [])) := by
  have HI := fun W => Lib.hid (cIsLen n W)
  rw [hn] at HI
  have HP := fun W => Lib.hid (cIsPow n ((s.takeV 2 : Nat) : Int) W (by omega))
  rw [hp] at HP
  have H := Lib.hid h
  have hb := h.lt
  have hv : s.takeV 2 < 2 ^ 2 := takeV_ltn s 2 (by omega)
  clear h hn hp
  go_enter Tryz.func90, Tryz.ntmps90
  go_wp2_with (go_at_call 110; refine (HI _).out.mono ?_; rintro e w1 ⟨rfl, rfl⟩)
  obtain ⟨h1, h2, h3, hz, hbl⟩ := alloc3h w (.cells #[.pointer (some ⟨b, 0, none⟩)] 40) (.cells #[.slice none 0 0] 22) (.cells #[.int .i64 0, .slice none 0 0] 101)
  generalize ((w.alloc (.cells #[.pointer (some ⟨b, 0, none⟩)] 40)).alloc (.cells #[.slice none 0 0] 22)).alloc (.cells #[.int .i64 0, .slice none 0 0] 101) = w3 at h1 h2 h3 hz hbl ⊢
  have HT := Lib.hid (aTake b ao s 2 w3 (H.out.keeps (keeps_of_below hbl []) (by simp) (by simp)))
  refine HT.out.mono ?_
  rintro e wt ⟨rfl, hrt, hkt⟩
  have b0 : wt.cell? ⟨w.heap.size, 0, none⟩ = some (.pointer (some ⟨b, 0, none⟩)) := (hkt.cell (p := ⟨w.heap.size, 0, none⟩) (by show w.heap.size < _; omega) (by simp; omega)).trans (cell_of_heap h1 0)
  have HG := Lib.hid (aGive b ao (s.takeS 2) 2 wt hrt)
  have hwr : IntKind.i64.wrap ((s.takeV 2 : Nat) : Int) = ((s.takeV 2 : Nat) : Int) := IntWalk.i64_in _ ⟨by omega, by omega⟩
  generalize s.takeV 2 = v at HP hv hwr ⊢
  go_wp2_with (go_at_call 111; refine (HP _).out.mono ?_; rintro e w9 ⟨rfl, rfl⟩)
  refine HG.out.mono ?_
  rintro e w4 ⟨rfl, hr4, hk4'⟩
  have hk4 := hkt.trans hk4'
  have c0 := (hk4.cell (p := ⟨w.heap.size + 1, 0, none⟩) (by show w.heap.size + 1 < _; omega) (by simp; omega)).trans (cell_of_heap h2 0)
  have c1 := (hk4.cell (p := ⟨w.heap.size + 1 + 1, 0, none⟩) (by show w.heap.size + 1 + 1 < _; omega) (by simp; omega)).trans (cell_of_heap h3 0)
  have c2 := (hk4.cell (p := ⟨w.heap.size + 1 + 1, 1, none⟩) (by show w.heap.size + 1 + 1 < _; omega) (by simp; omega)).trans (cell_of_heap h3 1)
  have f0 := (hk4.frozen (p := ⟨w.heap.size + 1, 0, none⟩) (by show w.heap.size + 1 < _; omega) (by simp; omega)).trans (frozen_of_heap h2 0)
  have f1 := (hk4.frozen (p := ⟨w.heap.size + 1 + 1, 0, none⟩) (by show w.heap.size + 1 + 1 < _; omega) (by simp; omega)).trans (frozen_of_heap h3 0)
  have f2 := (hk4.frozen (p := ⟨w.heap.size + 1 + 1, 1, none⟩) (by show w.heap.size + 1 + 1 < _; omega) (by simp; omega)).trans (frozen_of_heap h3 1)
  simp at c0 c1 c2
  obtain ⟨kn, y0, y1, y2⟩ := nilled_is (by omega) c0 c1 c2
  have HF : Hid (TakeIs w b ao ((s.takeS 2).give 2, [], 0, []) (.returned (.tuple #[.slice none 0 0, .agg #[.int .i64 0, .slice none 0 0]])) (nilled w4 (w.heap.size + 1) (w.heap.size + 1 + 1))) := by
    refine takeIs_none (hr4.keeps kn (by simp; omega) ?_) ?_
    · intro g off hh; have := ha g off hh; simp; omega
    · exact ((keeps_of_below hbl [b]).trans hk4).trans_new kn (by intro x hx; simp at hx; right; omega)
  unfold nilled at y0 y1 y2 HF
  clear hr4 hk4 kn hbl h1 h2 h3 hkt hk4' hrt
  go_wp2_with fail
  refine bodyPost_ret (v := .tuple #[.slice none 0 0, .agg #[.int .i64 0, .slice none 0 0]]) ?res rfl ?_
  · simp [results, Tryz.results90, go_sem, y0, y1, y2]
  · exact HF.out
end Go.Proofs.YtefbakhhlonafaaGreat
end
