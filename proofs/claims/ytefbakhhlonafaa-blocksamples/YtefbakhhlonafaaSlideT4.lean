import Derived.Test.YtefbakhhlonafaaSlideT2
import Derived.Test.YtefbakhhlonafaaSlideC7

section
namespace Go.Proofs.Ytefbakhhlonafaa
open Go.RowKit Go.Shelf Go.Proofs Go.Proofs.PipeM Go.Proofs.PipeA
set_option maxRecDepth 100000

/-- Where the taking of parts stands: the reader, whether no part has failed, the parameters, the numbers. -/
structure TS where
  s : RS
  ok : Bool
  keys : Nat → Int
  list : Nat → Int

/-- The numbers behind j numbers of part x; the parameters behind that of part x. -/
def putL (size x j : Nat) (c : List Int) (f : Nat → Int) (i : Nat) : Int := if x * size ≤ i ∧ i < x * size + j then c.getD (i - x * size) 0 else f i
def putK (x : Nat) (k : Int) (f : Nat → Int) (i : Nat) : Int := if i = x then k else f i

/-- One part more. -/
def TS.step (size : Nat) (t : TS) (x : Nat) : TS :=
  ⟨(t.s.partS size).1, t.ok && decide ((t.s.partS size).1.err = 0), putK x ((t.s.takeV 5 : Nat) : Int) t.keys, putL size x size (t.s.partS size).2 t.list⟩
def TS.run (size : Nat) (t : TS) (l : List Nat) : TS := l.foldl (TS.step size) t

theorem run_snoc (size : Nat) (t : TS) (l : List Nat) (x : Nat) : t.run size (l ++ [x]) = (t.run size l).step size x := by simp [TS.run]
theorem run_cons (size : Nat) (t : TS) (l : List Nat) (x : Nat) : t.run size (x :: l) = (t.step size x).run size l := rfl

theorem run_ok {size : Nat} : ∀ {l : List Nat} {t : TS}, (t.run size l).ok = true → t.ok = true
  | [], _, h => h
  | x :: l, t, h => by
    have := run_ok (l := l) (t := t.step size x) h
    simp [TS.step] at this
    exact this.1

theorem run_kept {size : Nat} : ∀ (m j : Nat) (t : TS) (i : Nat), i < j * size → (t.run size (List.range' j m)).list i = t.list i
  | 0, _, _, _, _ => rfl
  | m + 1, j, t, i, h => by
    rw [List.range'_succ, run_cons, run_kept m (j + 1) _ i (by rw [Nat.add_mul]; omega)]
    show putL _ _ _ _ _ _ = _
    unfold putL
    rw [if_neg (by omega)]
theorem run_keptK {size : Nat} : ∀ (m j : Nat) (t : TS) (i : Nat), i < j → (t.run size (List.range' j m)).keys i = t.keys i
  | 0, _, _, _, _ => rfl
  | m + 1, j, t, i, h => by
    rw [List.range'_succ, run_cons, run_keptK m (j + 1) _ i (by omega)]
    show putK _ _ _ _ = _
    unfold putK
    rw [if_neg (by omega)]

theorem partS_length (size : Nat) (s : RS) : (s.partS size).2.length = size := many_length _ _ _

/-- What stands behind so many parts is what the taking of them answers. -/
theorem body_run (size : Nat) : ∀ (m j : Nat) (t : TS), (t.run size (List.range' j m)).ok = true →
    RS.body size m t.s = ((t.run size (List.range' j m)).s, (List.range (m * size)).map (fun i => (t.run size (List.range' j m)).list (j * size + i)), (List.range m).map (fun i => (t.run size (List.range' j m)).keys (j + i)))
  | 0, _, _, _ => by simp [RS.body, TS.run]
  | m + 1, j, t, h => by
    rw [List.range'_succ, run_cons] at h ⊢
    have hok := run_ok h
    have he : (t.s.partS size).1.err = 0 := by simp [TS.step] at hok; exact hok.2
    have ih := body_run size m (j + 1) (t.step size j) h
    have e1 : (t.step size j).s = (t.s.partS size).1 := rfl
    rw [e1] at ih
    rw [RS.body, if_neg (by simp [he]), ih]
    simp only [Prod.mk.injEq, true_and]
    constructor
    · apply List.ext_getElem
      · simp [partS_length, Nat.add_mul]; omega
      · intro i h1 h2
        simp only [List.length_append, partS_length, List.length_map, List.length_range] at h1
        simp only [List.getElem_map, List.getElem_range]
        rw [List.getElem_append]
        split
        · rename_i hlt
          rw [partS_length] at hlt
          rw [run_kept m (j + 1) _ _ (by rw [Nat.add_mul]; omega)]
          show _ = putL _ _ _ _ _ _
          unfold putL
          rw [if_pos (by omega), show j * size + i - j * size = i by omega]
          simp [List.getD, partS_length, hlt]
        · rename_i hge
          rw [partS_length] at hge
          simp only [List.getElem_map, List.getElem_range, partS_length]
          congr 1
          rw [Nat.add_mul]; omega
    · apply List.ext_getElem
      · simp
      · intro i h1 h2
        simp only [List.getElem_map, List.getElem_range]
        cases i with
        | zero =>
          rw [run_keptK m (j + 1) _ _ (by omega)]
          show _ = putK _ _ _ _
          simp [putK]
        | succ i =>
          simp only [List.getElem_cons_succ, List.getElem_map, List.getElem_range]
          congr 1
          omega

/-- Where a part fails, nothing more is taken. -/
theorem body_stop (size r : Nat) : ∀ (q j : Nat) (t : TS), (t.run size (List.range' j q)).ok = true → ((t.run size (List.range' j q)).step size (j + q)).s.err ≠ 0 →
    (RS.body size (q + 1 + r) t.s).1 = ((t.run size (List.range' j q)).step size (j + q)).s
  | 0, j, t, _, h => by
    have h' : (RS.partS size t.s).1.err ≠ 0 := h
    rw [show 0 + 1 + r = r + 1 by omega, RS.body, if_pos h']; rfl
  | q + 1, j, t, hk, h => by
    rw [List.range'_succ, run_cons] at hk h ⊢
    have hok := run_ok hk
    have he : (t.s.partS size).1.err = 0 := by simp [TS.step] at hok; exact hok.2
    rw [show q + 1 + 1 + r = (q + 1 + r) + 1 by omega, RS.body, if_neg (by simp [he])]
    rw [show j + (q + 1) = j + 1 + q by omega] at h ⊢
    exact body_stop size r q (j + 1) (t.step size j) hk h

/-- Behind one number more of a part. -/
theorem putL_next {size x j : Nat} {k : Int} {s : RS} {f : Nat → Int} {N : Nat} : ∀ i, i < N →
    putL size x (j + 1) (RS.many k (j + 1) s).2 f i = if i = x * size + j then ((RS.many k j s).1.rice k).2 else putL size x j (RS.many k j s).2 f i := by
  intro i _
  have hl := many_length k j s
  unfold putL
  rw [many_snoc]
  by_cases h1 : i = x * size + j
  · rw [if_pos (by omega), if_pos h1, h1, show x * size + j - x * size = j by omega]
    simp [List.getD, hl]
  · rw [if_neg h1]
    by_cases h2 : x * size ≤ i ∧ i < x * size + j
    · rw [if_pos (by omega), if_pos h2, List.getD_eq_getElem?_getD, List.getD_eq_getElem?_getD, List.getElem?_append_left (by rw [hl]; omega)]
    · rw [if_neg (by omega), if_neg h2]

/-- A reader abides what grows behind. -/
theorem own_rda {β : Type} {B b : Nat} {ao : Option Addr} (hb : b < B) (ha : ∀ g off, ao = some ⟨g, off, none⟩ → g < B) (f : β → RS) : OwnFrom B (fun s W => RdA W b ao (f s)) := by
  intro s X Y row hs hg hr
  have hk := grown_keeps hg
  refine hs.keeps hk ?_ ?_
  · intro hm
    cases row with
    | none => simp at hm
    | some r => obtain ⟨h1, _⟩ := hr r rfl; simp at hm; omega
  · intro g off hao hm
    cases row with
    | none => simp at hm
    | some r => obtain ⟨h1, _⟩ := hr r rfl; simp at hm; have := ha g off hao; omega
theorem own_and {β : Type} {B : Nat} {p : β → Prop} {J : β → World → Prop} (h : OwnFrom B J) : OwnFrom B (fun s W => p s ∧ J s W) :=
  fun s X Y row hs hg hr => ⟨hs.1, h s X Y row hs.2 hg hr⟩
end Go.Proofs.Ytefbakhhlonafaa
end

section
namespace Go.Proofs.Ytefbakhhlonafaa
open Go.RowKit Go.Shelf Go.Proofs Go.Proofs.PipeM Go.Proofs.PipeA
set_option maxRecDepth 100000

/-- What slide.Take leaves, and answers. -/
def TakeIs (w : World) (b : Nat) (ao : Option Addr) (r : RS × List Int × Nat × List Int) (e : Ending) (w' : World) : Prop :=
  ∃ la lc ka kc, e = .returned (.tuple #[.slice la r.2.1.length lc, .agg #[.int .i64 ((r.2.2.1 : Nat) : Int), .slice ka r.2.2.2.length kc]]) ∧ RdA w' b ao r.1 ∧ IntsAt w' la r.2.1 ∧ IntsAt w' ka r.2.2.2 ∧
    (∀ g off, la = some ⟨g, off, none⟩ → w.heap.size ≤ g) ∧ (∀ g off, ka = some ⟨g, off, none⟩ → w.heap.size ≤ g) ∧ r.2.1.length ≤ lc ∧ r.2.2.2.length ≤ kc ∧ Keeps [b] w w'

theorem takeIs_none {w w' : World} {b : Nat} {ao : Option Addr} {s : RS} (h : RdA w' b ao s) (hk : Keeps [b] w w') :
    TakeIs w b ao (s, [], 0, []) (.returned (.tuple #[.slice none 0 0, .agg #[.int .i64 0, .slice none 0 0]])) w' :=
  ⟨none, 0, none, 0, rfl, h, (fun j hj => by simp at hj), (fun j hj => by simp at hj), (fun _ _ h => by cases h), (fun _ _ h => by cases h), Nat.le_refl _, Nat.le_refl _, hk⟩

theorem Keeps.mono {bs bs' : List Nat} {w w' : World} (h : Keeps bs w w') (hs : ∀ x ∈ bs, x ∈ bs') : Keeps bs' w w' :=
  ⟨h.os, h.tape, h.output, h.size, fun k hk hn => h.block k hk (fun hm => hn (hs k hm))⟩

theorem alloc3h (w : World) (o1 o2 o3 : Obj) : (((w.alloc o1).alloc o2).alloc o3).heap[w.heap.size]? = some o1 ∧ (((w.alloc o1).alloc o2).alloc o3).heap[w.heap.size + 1]? = some o2 ∧ (((w.alloc o1).alloc o2).alloc o3).heap[w.heap.size + 1 + 1]? = some o3 ∧ (((w.alloc o1).alloc o2).alloc o3).heap.size = w.heap.size + 3 ∧ Below w.heap.size w (((w.alloc o1).alloc o2).alloc o3) := by
  have h1 := World.alloc_heap_new w o1
  have h2 := World.alloc_heap_new (w.alloc o1) o2
  have h3 := World.alloc_heap_new ((w.alloc o1).alloc o2) o3
  have z1 : (w.alloc o1).heap.size = w.heap.size + 1 := by simp
  have z2 : ((w.alloc o1).alloc o2).heap.size = w.heap.size + 1 + 1 := by simp
  rw [z1] at h2
  rw [z2] at h3
  refine ⟨?_, ?_, h3, by simp, (((Below.refl _ w).alloc (Nat.le_refl _) _).alloc (by simp) _).alloc (by simp; omega) _⟩
  · exact (Below.heap_alloc _ _ _ (by simp; omega)).trans ((Below.heap_alloc _ _ _ (by simp)).trans h1)
  · exact (Below.heap_alloc _ _ _ (by simp)).trans h2

/-- The results' cells, set to nothing. -/
def nilled (W : World) (B1 B2 : Nat) : World := ((W.setCell ⟨B1, 0, none⟩ (.slice none 0 0)).setCell ⟨B2, 0, none⟩ (.int .i64 0)).setCell ⟨B2, 1, none⟩ (.slice none 0 0)
theorem nilled_is {W : World} {B1 B2 : Nat} {x0 x1 x2 : Value} (hne : B1 ≠ B2) (h0 : W.cell? ⟨B1, 0, none⟩ = some x0) (h1 : W.cell? ⟨B2, 0, none⟩ = some x1) (h2 : W.cell? ⟨B2, 1, none⟩ = some x2) :
    Keeps [B1, B2] W (nilled W B1 B2) ∧ (nilled W B1 B2).cell? ⟨B1, 0, none⟩ = some (.slice none 0 0) ∧ (nilled W B1 B2).cell? ⟨B2, 0, none⟩ = some (.int .i64 0) ∧ (nilled W B1 B2).cell? ⟨B2, 1, none⟩ = some (.slice none 0 0) := by
  unfold nilled
  refine ⟨?_, ?_, ?_, ?_⟩
  · exact (((keeps_setCell W B1 0 _).mono (by simp)).trans ((keeps_setCell _ B2 0 _).mono (by simp))).trans ((keeps_setCell _ B2 1 _).mono (by simp))
  · rw [World.cell?_setCell_other _ _ _ _ (by simp), World.cell?_setCell_other _ _ _ _ (by intro e; cases e; exact hne rfl)]
    exact World.cell?_setCell_same' _ _ _ (by rw [h0]; rfl)
  · rw [World.cell?_setCell_other _ _ _ _ (by simp)]
    exact World.cell?_setCell_same' _ _ _ (by rw [World.cell?_setCell_other _ _ _ _ (by intro e; cases e; exact hne rfl), h1]; rfl)
  · exact World.cell?_setCell_same' _ _ _ (by rw [World.cell?_setCell_other _ _ _ _ (by simp), World.cell?_setCell_other _ _ _ _ (by simp), h2]; rfl)

end Go.Proofs.Ytefbakhhlonafaa
end
