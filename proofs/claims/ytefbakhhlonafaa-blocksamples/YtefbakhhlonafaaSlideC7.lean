import Derived.Test.YtefbakhhlonafaaHeapR
import Derived.Deep.AppendLies
import Derived.Deep.RegionLaw
import Derived.Laws.MakeOwn
import Derived.Test.YtefbakhhlonafaaSlideC5

section
namespace Go.Proofs.Ytefbakhhlonafaa
open Go.RowKit Go.Proofs Go.Proofs.PipeM Go.Proofs.PipeA Go.Proofs.HeapM
set_option maxRecDepth 100000

theorem own_less {w : World} {base g cap : Nat} {e : TypeId} {l : List (Nat × Nat)} {x : Nat × Nat} (h : w.ownsRow base e 2 (.slice (some ⟨g, 0, none⟩) (l ++ [x]).length cap) (l ++ [x]).length (tcells (l ++ [x]))) :
    w.ownsRow base e 2 (.slice (some ⟨g, 0, none⟩) l.length cap) l.length (tcells l) := by
  refine ⟨tcells_length l, ?_⟩
  rcases h.2 with ⟨h', _⟩ | ⟨g', cap', cur, h', hb, hg, hn, hm, hs, ht⟩
  · simp at h'
  · simp only [Value.slice.injEq, Option.some.injEq, Addr.mk.injEq, and_true, true_and] at h'
    obtain ⟨rfl, rfl⟩ := h'
    refine Or.inr ⟨g, cap, cur, rfl, hb, hg, by simp at hn; omega, hm, hs, ?_⟩
    have : (cur.toList.take ((l ++ [x]).length * 2)).take (l.length * 2) = (tcells (l ++ [x])).take (l.length * 2) := by rw [ht]
    rw [List.take_take, tcells_app] at this
    rw [show min (l.length * 2) ((l ++ [x]).length * 2) = l.length * 2 by simp, ← tcells_length, List.take_left' rfl] at this
    rw [← tcells_length]; exact this

theorem tOrder : Order tBefore := by
  constructor
  · intro a b h
    unfold tBefore at *
    by_cases e : a.2 = b.2
    · rw [if_neg (by simpa using e)] at h
      rw [if_neg (by simpa using e.symm)]
      have := of_decide_eq_true h
      exact decide_eq_false (by omega)
    · rw [if_pos e] at h
      rw [if_pos (fun h' => e h'.symm)]
      have := of_decide_eq_true h
      exact decide_eq_false (by omega)
  · intro a b c h1 h2
    unfold tBefore at *
    by_cases e1 : b.2 = a.2
    · rw [if_neg (by simpa using e1)] at h1
      have h1' := of_decide_eq_false h1
      by_cases e2 : c.2 = b.2
      · rw [if_neg (by simpa using e2)] at h2
        have h2' := of_decide_eq_false h2
        rw [if_neg (by simpa using e2.trans e1)]
        exact decide_eq_false (by omega)
      · rw [if_pos e2] at h2
        have h2' := of_decide_eq_false h2
        rw [if_pos (by omega)]
        exact decide_eq_false (by omega)
    · rw [if_pos e1] at h1
      have h1' := of_decide_eq_false h1
      by_cases e2 : c.2 = b.2
      · rw [if_neg (by simpa using e2)] at h2
        rw [if_pos (by omega)]
        exact decide_eq_false (by omega)
      · rw [if_pos e2] at h2
        have h2' := of_decide_eq_false h2
        rw [if_pos (by omega)]
        exact decide_eq_false (by omega)

def trialV (x : Nat × Nat) : Value := .agg #[.int .i64 (x.1 : Nat), .int .i64 (x.2 : Nat)]
def trialsV (b : Nat) : Value := .pointer (some ⟨b, 0, none⟩)

end Go.Proofs.Ytefbakhhlonafaa
end

section
namespace Go.Proofs.Ytefbakhhlonafaa
open Go.RowKit Go.Proofs Go.Proofs.PipeM Go.Proofs.PipeA Go.Proofs.HeapM
set_option maxRecDepth 100000

/-- What Best answers. -/
def BestIs (l : List Int) (w : World) (e : Ending) (w' : World) : Prop :=
  ∃ k, e = .returned (.tuple #[.int .i64 (k : Nat), .int .i64 (totalN l k : Nat)]) ∧ IsBest l k ∧ Below w.heap.size w w'

def tried (l : List Int) (c : Nat) : List (Nat × Nat) := (List.range c).map fun k => (k, totalN l k)
theorem tried_succ (l : List Int) (c : Nat) : (tried l c ++ [(c, totalN l c)]) = tried l (c + 1) := by simp [tried, List.range_succ]
theorem tried_length (l : List Int) (c : Nat) : (tried l c).length = c := by simp [tried]
theorem tried_mem (l : List Int) (c : Nat) (x : Nat × Nat) : x ∈ tried l c ↔ x.1 < c ∧ x.2 = totalN l x.1 := by
  obtain ⟨a, b⟩ := x
  simp only [tried, List.mem_map, List.mem_range, Prod.mk.injEq]
  constructor
  · rintro ⟨k, h, rfl, rfl⟩; exact ⟨h, rfl⟩
  · rintro ⟨h, rfl⟩; exact ⟨a, h, rfl, rfl⟩

theorem best_of_heap (l : List Int) (tl : List (Nat × Nat)) (hp : tl.Perm (tried l 25)) (hh : IsHeap tBefore tl) : IsBest l tl[0]!.1 ∧ tl[0]!.2 = totalN l tl[0]!.1 := by
  have hlen : tl.length = 25 := by rw [hp.length_eq, tried_length]
  have hm : tl[0]! ∈ tl := by rw [get_eq tl 0 (by omega)]; exact List.getElem_mem _
  have hm2 := (tried_mem l 25 _).1 (hp.mem_iff.1 hm)
  refine ⟨⟨by omega, fun p hp24 => ?_⟩, hm2.2⟩
  have hpm : (p, totalN l p) ∈ tl := hp.mem_iff.2 ((tried_mem l 25 _).2 ⟨by simp; omega, rfl⟩)
  have hle := heap_root_mem tOrder hh _ hpm
  unfold le tBefore at hle
  rw [hm2.2] at hle
  obtain ⟨k, hk⟩ : ∃ k, k = tl[0]!.1 := ⟨_, rfl⟩
  rw [← hk] at hle ⊢
  simp only at hle
  by_cases e : totalN l p = totalN l k
  · rw [if_neg (by simpa using e)] at hle
    have := of_decide_eq_false hle
    exact ⟨by omega, fun _ => by omega⟩
  · rw [if_pos e] at hle
    have := of_decide_eq_false hle
    exact ⟨by omega, fun h => absurd h e⟩

theorem HoldsS.below {b : Nat} {w w' : World} (h : HoldsS (fun k => k < b) w w') : Below b w w' := ⟨h.os, h.tape, h.output, h.size, h.block⟩

end Go.Proofs.Ytefbakhhlonafaa
end

section
namespace Go.Proofs.Ytefbakhhlonafaa
open Go.RowKit Go.Shelf Go.Proofs Go.Proofs.PipeM Go.Proofs.PipeA
set_option maxRecDepth 100000

/-- The best parameter, as a function. -/
def bestTo (l : List Int) : Nat → Nat
  | 0 => 0
  | i + 1 => if totalN l (i + 1) < totalN l (bestTo l i) then i + 1 else bestTo l i
theorem bestTo_is (l : List Int) : ∀ i, bestTo l i ≤ i ∧ ∀ p, p ≤ i → totalN l (bestTo l i) ≤ totalN l p ∧ (totalN l p = totalN l (bestTo l i) → bestTo l i ≤ p)
  | 0 => ⟨Nat.le_refl _, fun p hp => by have : p = 0 := by omega
                                        subst this; exact ⟨Nat.le_refl _, fun _ => Nat.le_refl _⟩⟩
  | i + 1 => by
    obtain ⟨h1, h2⟩ := bestTo_is l i
    unfold bestTo
    split
    · rename_i h
      refine ⟨Nat.le_refl _, fun p hp => ?_⟩
      by_cases e : p = i + 1
      · subst e; exact ⟨Nat.le_refl _, fun _ => Nat.le_refl _⟩
      · have h3 := h2 p (by omega)
        exact ⟨by omega, fun h4 => by omega⟩
    · rename_i h
      refine ⟨by omega, fun p hp => ?_⟩
      by_cases e : p = i + 1
      · subst e; exact ⟨by omega, fun _ => by omega⟩
      · exact h2 p (by omega)
def bestN (l : List Int) : Nat := bestTo l 24
theorem bestN_is (l : List Int) : IsBest l (bestN l) := by
  obtain ⟨h1, h2⟩ := bestTo_is l 24
  exact ⟨h1, h2⟩
theorem isBest_eq {l : List Int} {k : Nat} (h : IsBest l k) : k = bestN l := h.unique (bestN_is l)
def bestKs (size : Nat) (l : List Int) (m : Nat) : List Int := (List.range m).map fun j => ((bestN (partNo size l j) : Nat) : Int)
theorem bestKs_length (size : Nat) (l : List Int) (m : Nat) : (bestKs size l m).length = m := by simp [bestKs]
theorem bestKs_get (size : Nat) (l : List Int) (m j : Nat) (h : j < (bestKs size l m).length) : (bestKs size l m)[j] = ((bestN (partNo size l j) : Nat) : Int) := by simp [bestKs]
theorem bestKs_ok (size : Nat) (l : List Int) (m : Nat) : ∀ k ∈ bestKs size l m, 0 ≤ k ∧ k ≤ 24 := by
  intro k hk
  simp only [bestKs, List.mem_map] at hk
  obtain ⟨j, _, rfl⟩ := hk
  have := (bestN_is (partNo size l j)).1
  omega

theorem info_int : (Try.prog.info? 3).map (fun i => (i.zero, i.size, i.bytes)) = some (some (.int .i64 0), 1, 8) := by kernel_rfl
theorem makeInts (m : Nat) (hm : m ≤ 100000) : ∃ cs : Array Value, (∀ j, j < m → cs[j]? = some (.int .i64 0)) ∧ ∀ W, (Instr.makeSlice 22 (.int .i64 (m : Int)) (.int .i64 (m : Int))).run Try.prog W = .ok (.slice (some ⟨W.heap.size, 0, none⟩) m m) (W.alloc (.cells cs 3)) := by
  obtain ⟨i0, hi, hz0, hz1, hz2⟩ := info_parts info_int
  refine ⟨madeCells (Value.cells (.int .i64 0)) (m * i0.size), ?_, fun W => ?_⟩
  · intro j hj
    rw [hz1]
    simp [madeCells, Value.cells, hj]
    rw [Nat.mod_one]; rfl
  · have := run_make (P := Try.prog) W 22 3 i0 (.int .i64 0) Try.underlying22 hi hz0 .i64 .i64 m m (by omega) (Int.le_refl _) (by rw [hz2]; omega) (by omega)
    simpa using this
end Go.Proofs.Ytefbakhhlonafaa
end

section
namespace Go.Proofs.Ytefbakhhlonafaa
open Go.RowKit Go.Shelf Go.Proofs Go.Proofs.PipeM Go.Proofs.PipeA
set_option maxRecDepth 100000

attribute [local go_sem] Oper.semAt_some

def BestOfIs (size : Nat) (l : List Int) (p m : Nat) (w : World) (e : Ending) (w' : World) : Prop :=
  ∃ H, e = .returned (.tuple #[.agg #[.int .i64 p, .slice (some ⟨H, 0, none⟩) m m], .int .i64 ((2 + bodyLen size (bestKs size l m) l m : Nat) : Int)]) ∧ IntsAt w' (some ⟨H, 0, none⟩) (bestKs size l m) ∧ w.heap.size ≤ H ∧ Below w.heap.size w w'

/-- What the keys are when these parts have come. -/
def keyAt (size : Nat) (l : List Int) {m : Nat} (pre : List (Fin m)) (j : Nat) : Int := if j ∈ pre.map (·.val) then ((bestN (partNo size l j) : Nat) : Int) else 0
theorem keyAt_new (size : Nat) (l : List Int) {m : Nat} (pre : List (Fin m)) (x : Fin m) : keyAt size l (pre ++ [x]) x.val = ((bestN (partNo size l x.val) : Nat) : Int) := by
  unfold keyAt; rw [if_pos (by simp)]
theorem keyAt_old (size : Nat) (l : List Int) {m : Nat} (pre : List (Fin m)) (x : Fin m) (j : Nat) (h : j ≠ x.val) : keyAt size l (pre ++ [x]) j = keyAt size l pre j := by
  unfold keyAt
  have : (j ∈ (pre ++ [x]).map (·.val)) ↔ j ∈ pre.map (·.val) := by simp [h]
  by_cases hj : j ∈ pre.map (·.val)
  · rw [if_pos hj, if_pos (this.2 hj)]
  · rw [if_neg hj, if_neg (fun h => hj (this.1 h))]
theorem keyAt_all (size : Nat) (l : List Int) {m : Nat} {xs : List (Fin m)} (h : xs.map (·.val) = List.range m) (j : Nat) (hj : j < m) : keyAt size l xs j = ((bestN (partNo size l j) : Nat) : Int) := by
  unfold keyAt; rw [h, if_pos (by simpa using hj)]

theorem alloc4 (w : World) (o1 o2 o3 o4 : Obj) : ((((w.alloc o1).alloc o2).alloc o3).alloc o4).heap[w.heap.size]? = some o1 ∧ ((((w.alloc o1).alloc o2).alloc o3).alloc o4).heap[w.heap.size + 1]? = some o2 ∧ ((((w.alloc o1).alloc o2).alloc o3).alloc o4).heap[w.heap.size + 1 + 1]? = some o3 ∧ ((((w.alloc o1).alloc o2).alloc o3).alloc o4).heap[w.heap.size + 1 + 1 + 1]? = some o4 ∧ ((((w.alloc o1).alloc o2).alloc o3).alloc o4).heap.size = w.heap.size + 4 ∧ Below w.heap.size w ((((w.alloc o1).alloc o2).alloc o3).alloc o4) := by
  have h1 := World.alloc_heap_new w o1
  have h2 := World.alloc_heap_new (w.alloc o1) o2
  have h3 := World.alloc_heap_new ((w.alloc o1).alloc o2) o3
  have h4 := World.alloc_heap_new (((w.alloc o1).alloc o2).alloc o3) o4
  have z1 : (w.alloc o1).heap.size = w.heap.size + 1 := by simp
  have z2 : ((w.alloc o1).alloc o2).heap.size = w.heap.size + 1 + 1 := by simp
  have z3 : (((w.alloc o1).alloc o2).alloc o3).heap.size = w.heap.size + 1 + 1 + 1 := by simp
  rw [z1] at h2
  rw [z2] at h3
  rw [z3] at h4
  refine ⟨?_, ?_, ?_, h4, by simp, ((((Below.refl _ w).alloc (Nat.le_refl _) _).alloc (by simp) _).alloc (by simp; omega) _).alloc (by simp; omega) _⟩
  · exact (Below.heap_alloc _ _ _ (by simp; omega)).trans ((Below.heap_alloc _ _ _ (by simp; omega)).trans ((Below.heap_alloc _ _ _ (by simp)).trans h1))
  · exact (Below.heap_alloc _ _ _ (by simp)).trans ((Below.heap_alloc _ _ _ (by simp)).trans h2)
  · exact (Below.heap_alloc _ _ _ (by simp)).trans h3
theorem cell_of_heap {W : World} {b : Nat} {cs : Array Value} {t : TypeId} (h : W.heap[b]? = some (.cells cs t)) (j : Nat) : W.cell? ⟨b, j, none⟩ = cs[j]? := by simp [World.cell?, h]
theorem frozen_of_heap {W : World} {b : Nat} {cs : Array Value} {t : TypeId} (h : W.heap[b]? = some (.cells cs t)) (j : Nat) : W.frozen? ⟨b, j, none⟩ = false := by simp [World.frozen?, h]

def bestLen (size : Nat) (l : List Int) (j : Nat) : Nat := 5 + totalN (partNo size l j) (bestN (partNo size l j))
theorem bestLen_le (size : Nat) (l : List Int) (j : Nat) (hs : size ≤ 1024) : bestLen size l j ≤ 5 + 59 * 1024 := by
  have h2 := totalN_le (partNo size l j) (bestN (partNo size l j)) (bestN_is _).1
  have h3 : (partNo size l j).length ≤ size := by unfold partNo; simp; omega
  unfold bestLen
  omega
theorem sumTo_congr {f g : Nat → Nat} : ∀ n, (∀ j, j < n → f j = g j) → sumTo f n = sumTo g n
  | 0, _ => rfl
  | n + 1, h => by
    show sumTo f n + f n = sumTo g n + g n
    rw [sumTo_congr n (fun j hj => h j (by omega)), h n (by omega)]
theorem best_sum (size : Nat) (l : List Int) (m : Nat) : sumTo (bestLen size l) m = bodyLen size (bestKs size l m) l m := by
  unfold bodyLen
  refine sumTo_congr m (fun j hj => ?_)
  unfold bestLen partLen
  rw [show (bestKs size l m).getD j 0 = ((bestN (partNo size l j) : Nat) : Int) by rw [List.getD, List.getElem?_eq_getElem (by rw [bestKs_length]; exact hj), bestKs_get]; rfl, Int.toNat_natCast]
def KeysAt (W : World) (H m : Nat) (f : Nat → Int) : Prop := ∀ j, j < m → W.cell? ⟨H, j, none⟩ = some (.int .i64 (f j)) ∧ W.frozen? ⟨H, j, none⟩ = false
theorem own_keys {β : Type} {B H m : Nat} (f : β → Nat → Int) : OwnFrom B (fun s W => KeysAt W H m (f s)) :=
  fun s X Y row hs hg hr j hj => own_cell (B := B) ⟨H, j, none⟩ (fun (s : β) => .int .i64 (f s j)) s X Y row (hs j hj) hg hr

end Go.Proofs.Ytefbakhhlonafaa
end
