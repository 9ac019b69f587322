import Derived.Test.YtnfpkjnllkkngaaGreatDoorHeap3
import Derived.Test.YtnfpkjnllkkngaaGreatDoorRiceC3
import Derived.StillTailTactics
import Derived.BigRegion

namespace Go.Proofs.YtnfpkjnllkkngaaGreatDoor
open Go.RowKit Go.Proofs Go.Proofs.PipeM Go.Proofs.PipeA Go.Proofs.HeapM
set_option maxRecDepth 100000

/-- Trials in a row: a parameter and a total each. -/
def tcells (l : List (Nat × Nat)) : List Value := l.flatMap fun x => [.int .i64 (x.1 : Nat), .int .i64 (x.2 : Nat)]
theorem tcells_length (l : List (Nat × Nat)) : (tcells l).length = l.length * 2 := by
  induction l with
  | nil => rfl
  | cons a r ih => simp only [tcells, List.flatMap_cons, List.length_append, List.length_cons, List.length_nil] at ih ⊢; omega
theorem tcells_cons (a : Nat × Nat) (r : List (Nat × Nat)) : tcells (a :: r) = .int .i64 (a.1 : Nat) :: .int .i64 (a.2 : Nat) :: tcells r := rfl
theorem tcells_get0 (l : List (Nat × Nat)) (i : Nat) (h : i < l.length) : (tcells l)[i * 2]? = some (.int .i64 (l[i]!.1 : Nat)) := by
  induction l generalizing i with
  | nil => simp at h
  | cons a r ih =>
    cases i with
    | zero => rfl
    | succ i =>
      simp only [List.length_cons, Nat.add_lt_add_iff_right] at h
      have := ih i h
      rw [tcells_cons, show (i + 1) * 2 = i * 2 + 1 + 1 by omega, List.getElem?_cons_succ, List.getElem?_cons_succ, this]
      rfl
theorem tcells_get1 (l : List (Nat × Nat)) (i : Nat) (h : i < l.length) : (tcells l)[i * 2 + 1]? = some (.int .i64 (l[i]!.2 : Nat)) := by
  induction l generalizing i with
  | nil => simp at h
  | cons a r ih =>
    cases i with
    | zero => rfl
    | succ i =>
      simp only [List.length_cons, Nat.add_lt_add_iff_right] at h
      have := ih i h
      rw [tcells_cons, show (i + 1) * 2 + 1 = i * 2 + 1 + 1 + 1 by omega, List.getElem?_cons_succ, List.getElem?_cons_succ, this]
      rfl
theorem tcells_set (l : List (Nat × Nat)) (i : Nat) (x : Nat × Nat) : ((tcells l).set (i * 2) (.int .i64 (x.1 : Nat))).set (i * 2 + 1) (.int .i64 (x.2 : Nat)) = tcells (l.set i x) := by
  induction l generalizing i with
  | nil => simp [tcells]
  | cons a r ih =>
    cases i with
    | zero => rfl
    | succ i =>
      have := ih i
      rw [tcells_cons, show (i + 1) * 2 + 1 = i * 2 + 1 + 1 + 1 by omega, show (i + 1) * 2 = i * 2 + 1 + 1 by omega, List.set_cons_succ, List.set_cons_succ, List.set_cons_succ, List.set_cons_succ, this]
      rfl
theorem tcells_app (a b : List (Nat × Nat)) : tcells (a ++ b) = tcells a ++ tcells b := by simp [tcells]

/-- The blocks of a set are as they were. -/
structure HoldsS (S : Nat → Prop) (w w' : World) : Prop where
  os : w'.os = w.os
  tape : w'.tape = w.tape
  output : w'.output = w.output
  size : w.heap.size ≤ w'.heap.size
  block : ∀ k, S k → w'.heap[k]? = w.heap[k]?
theorem HoldsS.refl (S : Nat → Prop) (w : World) : HoldsS S w w := ⟨rfl, rfl, rfl, Nat.le_refl _, fun _ _ => rfl⟩
theorem HoldsS.trans {S : Nat → Prop} {a b c : World} (h : HoldsS S a b) (k : HoldsS S b c) : HoldsS S a c :=
  ⟨k.os.trans h.os, k.tape.trans h.tape, k.output.trans h.output, Nat.le_trans h.size k.size, fun i hi => (k.block i hi).trans (h.block i hi)⟩
theorem HoldsS.of_keeps {S : Nat → Prop} {bs : List Nat} {w w' : World} (h : Keeps bs w w') (hS : ∀ k, S k → k < w.heap.size ∧ k ∉ bs) : HoldsS S w w' :=
  ⟨h.os, h.tape, h.output, h.size, fun k hk => h.block k (hS k hk).1 (hS k hk).2⟩
theorem HoldsS.cell {S : Nat → Prop} {w w' : World} (h : HoldsS S w w') {p : Addr} (hp : S p.block) : w'.cell? p = w.cell? p := World.cell?_of_block (w := w) (h.block p.block hp)
theorem HoldsS.frozen {S : Nat → Prop} {w w' : World} (h : HoldsS S w w') {p : Addr} (hp : S p.block) : w'.frozen? p = w.frozen? p := World.frozen?_of_block (w := w) (h.block p.block hp)

/-- What a call that turns a row of one's own, and block b, leaves. -/
def Turned (w : World) (b : Nat) (v : Value) (w' : World) (v' : Value) : Prop :=
  Keeps (b :: v.ownBlock.toList) w w' ∧ (v'.ownBlock = v.ownBlock ∨ ∃ g, v'.ownBlock = some g ∧ w.heap.size ≤ g)

/-- A heap of trials at block b. -/
structure TrAt (w : World) (b : Nat) (v : Value) (l : List (Nat × Nat)) : Prop where
  lt : b < w.heap.size
  c0 : w.cell? ⟨b, 0, none⟩ = some v
  c1 : w.cell? ⟨b, 1, none⟩ = some (.func (.func 94) #[] #[])
  f0 : w.frozen? ⟨b, 0, none⟩ = false
  own : w.ownsRow (b + 1) 123 2 v l.length (tcells l)
  len : l.length ≤ 100

def tBefore (a b : Nat × Nat) : Bool := if a.2 ≠ b.2 then decide (a.2 < b.2) else decide (a.1 < b.1)

theorem TrAt.row {w : World} {b : Nat} {v : Value} {l : List (Nat × Nat)} (h : TrAt w b v l) (h0 : 0 < l.length) : ∃ g cap, v = .slice (some ⟨g, 0, none⟩) l.length cap ∧ b < g ∧ g < w.heap.size ∧ l.length ≤ cap ∧ cap ≤ maxLen ∧
    (∀ i, i < l.length → w.cell? ⟨g, i * 2, none⟩ = some (.int .i64 (l[i]!.1 : Nat)) ∧ w.cell? ⟨g, i * 2 + 1, none⟩ = some (.int .i64 (l[i]!.2 : Nat))) ∧ ∀ j, w.frozen? ⟨g, j, none⟩ = false := by
  have hown := h.own
  rcases h.own.2 with ⟨_, h'⟩ | ⟨g, cap, cur, rfl, hb, hg, hn, hm, hs, ht⟩
  · omega
  · refine ⟨g, cap, rfl, by omega, ?_, hn, hm, fun i hi => ?_, fun j => hown.frozenAt j⟩
    · rcases Nat.lt_or_ge g w.heap.size with h3 | h3
      · exact h3
      · rw [Array.getElem?_eq_none h3] at hg; cases hg
    · have hl := tcells_length l
      exact ⟨by rw [hown.cellAt (i * 2) (by omega), tcells_get0 l i hi], by rw [hown.cellAt (i * 2 + 1) (by omega), tcells_get1 l i hi]⟩

set_option maxHeartbeats 400000 in
theorem tBetter (a b c d : Nat) (w : World) : Calls Tryz.prog 94 #[.agg #[.int .i64 a, .int .i64 b], .agg #[.int .i64 c, .int .i64 d]] w fun e w' => e = .returned (.bool (tBefore (a, b) (c, d))) ∧ Below w.heap.size w w' := by
  by_cases h : b = d
  · subst h
    have HT : Hid (tBefore (a, b) (c, b) = decide (a < c)) := by
      show _ = _; unfold tBefore; rw [if_neg (by simp)]
    have t1 : ((b : Int) != (b : Int)) = false := by simp
    rw [HT.out]
    go_enter Tryz.func94, Tryz.ntmps94
    go_wp2
    go_ret
    exact ⟨rfl, ((Below.refl _ _).alloc (Nat.le_refl _) _).alloc (by simp) _⟩
  · have HT : Hid (tBefore (a, b) (c, d) = decide (b < d)) := by
      show _ = _; unfold tBefore; rw [if_pos (by simpa using h)]
    have t1 : ((b : Int) != (d : Int)) = true := by simpa using by omega
    rw [HT.out]
    clear h
    go_enter Tryz.func94, Tryz.ntmps94
    go_wp2
    go_ret
    exact ⟨rfl, ((Below.refl _ _).alloc (Nat.le_refl _) _).alloc (by simp) _⟩

set_option maxHeartbeats 800000 in
theorem tLen (b : Nat) (v : Value) (l : List (Nat × Nat)) (w : World) (h : TrAt w b v l) : Calls Tryz.prog 139 #[.pointer (some ⟨b, 0, none⟩)] w fun e w' => e = .returned (.int .i64 l.length) ∧ w = w' := by
  have hc0 := h.c0
  rcases h.own.2 with ⟨rfl, h'⟩ | ⟨g, cap, cur, rfl, hb, hg, hn, hm, hs, ht⟩
  · rw [h']
    clear h h'
    go_enter Tryz.func139, Tryz.ntmps139
    go_wp2
    go_ret
    exact ⟨rfl, rfl⟩
  · clear h ht hs hg
    go_enter Tryz.func139, Tryz.ntmps139
    go_wp2
    go_ret
    exact ⟨rfl, rfl⟩

set_option maxHeartbeats 800000 in
theorem tLess (b : Nat) (v : Value) (l : List (Nat × Nat)) (i j : Nat) (w : World) (hi : i < l.length) (hj : j < l.length) (h : TrAt w b v l) :
    Calls Tryz.prog 140 #[.pointer (some ⟨b, 0, none⟩), .int .i64 i, .int .i64 j] w fun e w' => e = .returned (.bool (tBefore l[i]! l[j]!)) ∧ Below w.heap.size w w' := by
  have hc0 := h.c0
  have hc1 := h.c1
  have hlen := h.len
  obtain ⟨g, cap, rfl, hbg, hg, hlc, hcm, hcell, hfz⟩ := h.row (by omega)
  obtain ⟨ci0, ci1⟩ := hcell i hi
  obtain ⟨cj0, cj1⟩ := hcell j hj
  have HB := fun W => Lib.hid (tBetter l[i]!.1 l[i]!.2 l[j]!.1 l[j]!.2 W)
  obtain ⟨x, hx⟩ : ∃ x, x = l[i]! := ⟨_, rfl⟩
  obtain ⟨y, hy⟩ : ∃ y, y = l[j]! := ⟨_, rfl⟩
  rw [← hx] at ci0 ci1 HB ⊢
  rw [← hy] at cj0 cj1 HB ⊢
  obtain ⟨a, b'⟩ := x
  obtain ⟨c, d⟩ := y
  obtain ⟨n, hn⟩ : ∃ n, n = l.length := ⟨_, rfl⟩
  rw [← hn] at hi hj hc0 hlc hlen
  simp only at HB ci0 ci1 cj0 cj1
  unfold maxLen at hcm
  clear hcell hx hy hn h hfz
  go_enter Tryz.func140, Tryz.ntmps140
  have hii : (i : Int) < (n : Int) := by omega
  have hjj : (j : Int) < (n : Int) := by omega
  go_wp2
  go_still_tail 18, (by kernel_rfl)
  change wpList _ _ _ _ _ w.drew
  have HD : Hid (Below w.heap.size w w.drew) := (Below.refl _ _).drew
  generalize w.drew = w2 at HD ⊢
  go_wp2_with (go_at_call 94; refine (HB _).out.mono ?_; rintro e w3 ⟨rfl, hb3⟩; have HB3 := Lib.hid (HD.out.trans (hb3.mono HD.out.size)); clear hb3)
  go_ret
  exact ⟨rfl, HB3.out⟩

set_option maxHeartbeats 3200000 in
theorem tSwap_walk (b g cap n : Nat) (i j : Nat) (xi yi xj yj : Int) (w : World) (hi : (i : Int) < (n : Int)) (hj : (j : Int) < (n : Int)) (hij : i ≠ j)
    (hc0 : w.cell? ⟨b, 0, none⟩ = some (.slice (some ⟨g, 0, none⟩) n cap))
    (ci0 : w.cell? ⟨g, i * 2, none⟩ = some (.int .i64 xi)) (ci1 : w.cell? ⟨g, i * 2 + 1, none⟩ = some (.int .i64 yi))
    (cj0 : w.cell? ⟨g, j * 2, none⟩ = some (.int .i64 xj)) (cj1 : w.cell? ⟨g, j * 2 + 1, none⟩ = some (.int .i64 yj))
    (fz : ∀ k, w.frozen? ⟨g, k, none⟩ = false) :
    Calls Tryz.prog 143 #[.pointer (some ⟨b, 0, none⟩), .int .i64 i, .int .i64 j] w fun e w' => e = .returned (.tuple #[]) ∧
      w' = (((((w.setCell ⟨g, i * 2, none⟩ (.int .i64 xj)).setCell ⟨g, i * 2 + 1, none⟩ (.int .i64 yj)).setCell ⟨g, j * 2, none⟩ (.int .i64 xi)).setCell ⟨g, j * 2 + 1, none⟩ (.int .i64 yi)).drewN 1) := by
  go_enter Tryz.func143, Tryz.ntmps143
  go_wp2
  go_region
  go_end0
  exact ⟨rfl, rfl⟩

set_option maxHeartbeats 3200000 in
theorem tSwap_same (b g cap n : Nat) (i : Nat) (xi yi : Int) (w : World) (hi : (i : Int) < (n : Int))
    (hc0 : w.cell? ⟨b, 0, none⟩ = some (.slice (some ⟨g, 0, none⟩) n cap))
    (ci0 : w.cell? ⟨g, i * 2, none⟩ = some (.int .i64 xi)) (ci1 : w.cell? ⟨g, i * 2 + 1, none⟩ = some (.int .i64 yi))
    (fz : ∀ k, w.frozen? ⟨g, k, none⟩ = false) :
    Calls Tryz.prog 143 #[.pointer (some ⟨b, 0, none⟩), .int .i64 i, .int .i64 i] w fun e w' => e = .returned (.tuple #[]) ∧
      w' = (((((w.setCell ⟨g, i * 2, none⟩ (.int .i64 xi)).setCell ⟨g, i * 2 + 1, none⟩ (.int .i64 yi)).setCell ⟨g, i * 2, none⟩ (.int .i64 xi)).setCell ⟨g, i * 2 + 1, none⟩ (.int .i64 yi)).drewN 1) := by
  go_enter Tryz.func143, Tryz.ntmps143
  go_wp2
  go_region
  go_end0
  exact ⟨rfl, rfl⟩

theorem own_two {w : World} {base g n cap : Nat} {e : TypeId} {xs : List Value} (h : w.ownsRow base e 2 (.slice (some ⟨g, 0, none⟩) n cap) n xs) (j : Nat) (x y : Value) :
    ((w.setCell ⟨g, j, none⟩ x).setCell ⟨g, j + 1, none⟩ y).ownsRow base e 2 (.slice (some ⟨g, 0, none⟩) n cap) n ((xs.set j x).set (j + 1) y) :=
  ((h.stored j x).1.stored (j + 1) y).1

theorem tSwap (b : Nat) (v : Value) (l : List (Nat × Nat)) (i j : Nat) (w : World) (hi : i < l.length) (hj : j < l.length) (h : TrAt w b v l) :
    Calls Tryz.prog 143 #[.pointer (some ⟨b, 0, none⟩), .int .i64 i, .int .i64 j] w fun e w' => e = .returned (.tuple #[]) ∧ TrAt w' b v (swp l i j) ∧ Turned w b v w' v := by
  obtain ⟨g, cap, rfl, hbg, hg, hlc, hcm, hcell, hfz⟩ := h.row (by omega)
  have hcall : Calls Tryz.prog 143 #[.pointer (some ⟨b, 0, none⟩), .int .i64 i, .int .i64 j] w fun e w' => e = .returned (.tuple #[]) ∧
      w' = (((((w.setCell ⟨g, i * 2, none⟩ (.int .i64 (l[j]!.1 : Nat))).setCell ⟨g, i * 2 + 1, none⟩ (.int .i64 (l[j]!.2 : Nat))).setCell ⟨g, j * 2, none⟩ (.int .i64 (l[i]!.1 : Nat))).setCell ⟨g, j * 2 + 1, none⟩ (.int .i64 (l[i]!.2 : Nat))).drewN 1) := by
    by_cases hij : i = j
    · subst hij
      exact tSwap_same b g cap l.length i _ _ w (by omega) h.c0 (hcell i hi).1 (hcell i hi).2 hfz
    · exact tSwap_walk b g cap l.length i j _ _ _ _ w (by omega) (by omega) hij h.c0 (hcell i hi).1 (hcell i hi).2 (hcell j hj).1 (hcell j hj).2 hfz
  refine hcall.mono ?_
  rintro e w' ⟨rfl, rfl⟩
  refine ⟨rfl, ?_, ?_⟩
  · have hne : b ≠ g := by omega
    refine ⟨by simpa using h.lt, ?_, ?_, ?_, ?_, by rw [swp_length]; exact h.len⟩
    · simpa [World.cell?_setCell_other, swp_length] using h.c0
    · simpa [World.cell?_setCell_other] using h.c1
    · simp [h.f0]
    · rw [swp_length]
      have h1 := own_two (own_two h.own (i * 2) (.int .i64 (l[j]!.1 : Nat)) (.int .i64 (l[j]!.2 : Nat))) (j * 2) (.int .i64 (l[i]!.1 : Nat)) (.int .i64 (l[i]!.2 : Nat))
      rw [tcells_set, tcells_set] at h1
      exact h1
  · refine ⟨⟨rfl, rfl, rfl, by simp, fun k hk hn => ?_⟩, Or.inl rfl⟩
    simp [Value.ownBlock] at hn
    show ((((w.setCell ⟨g, i * 2, none⟩ _).setCell ⟨g, i * 2 + 1, none⟩ _).setCell ⟨g, j * 2, none⟩ _).setCell ⟨g, j * 2 + 1, none⟩ _).heap[k]? = _
    rw [Below.heap_setCell _ _ _ _ (by simp; omega), Below.heap_setCell _ _ _ _ (by simp; omega), Below.heap_setCell _ _ _ _ (by simp; omega), Below.heap_setCell _ _ _ _ (by simp; omega)]

end Go.Proofs.YtnfpkjnllkkngaaGreatDoor
