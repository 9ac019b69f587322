import Derived.Test.YtcgkalfclammfaaFilH1
namespace Go.Proofs.Ytcgkalfclammfaa
open Go.RowKit Go.Proofs Go.Proofs.PipeA Go.Proofs.HeapM
set_option maxRecDepth 100000

/-- Trials in a row: a number and a sum each. -/
def tcells (l : List (Nat × Nat)) : List Value := l.flatMap fun x => [.int .i64 (x.1 : Nat), .int .u64 0, .int .u64 (x.2 : Nat)]
theorem tcells_length (l : List (Nat × Nat)) : (tcells l).length = l.length * 3 := by
  induction l with
  | nil => rfl
  | cons a r ih => simp only [tcells, List.flatMap_cons, List.length_append, List.length_cons, List.length_nil] at ih ⊢; omega
theorem tcells_cons (a : Nat × Nat) (r : List (Nat × Nat)) : tcells (a :: r) = .int .i64 (a.1 : Nat) :: .int .u64 0 :: .int .u64 (a.2 : Nat) :: tcells r := rfl
theorem tcells_get (l : List (Nat × Nat)) (i : Nat) (h : i < l.length) : (tcells l)[i * 3]? = some (.int .i64 (l[i]!.1 : Nat)) ∧ (tcells l)[i * 3 + 1]? = some (.int .u64 0) ∧ (tcells l)[i * 3 + 2]? = some (.int .u64 (l[i]!.2 : Nat)) := by
  induction l generalizing i with
  | nil => simp at h
  | cons a r ih =>
    cases i with
    | zero => exact ⟨rfl, rfl, rfl⟩
    | succ i =>
      simp only [List.length_cons, Nat.add_lt_add_iff_right] at h
      obtain ⟨h1, h2, h3⟩ := ih i h
      rw [tcells_cons]
      refine ⟨?_, ?_, ?_⟩
      · rw [show (i + 1) * 3 = i * 3 + 1 + 1 + 1 by omega, List.getElem?_cons_succ, List.getElem?_cons_succ, List.getElem?_cons_succ, h1]; rfl
      · rw [show (i + 1) * 3 + 1 = i * 3 + 1 + 1 + 1 + 1 by omega, List.getElem?_cons_succ, List.getElem?_cons_succ, List.getElem?_cons_succ, h2]
      · rw [show (i + 1) * 3 + 2 = i * 3 + 2 + 1 + 1 + 1 by omega, List.getElem?_cons_succ, List.getElem?_cons_succ, List.getElem?_cons_succ, h3]; rfl
theorem tcells_set (l : List (Nat × Nat)) (i : Nat) (x : Nat × Nat) : (((tcells l).set (i * 3) (.int .i64 (x.1 : Nat))).set (i * 3 + 1) (.int .u64 0)).set (i * 3 + 2) (.int .u64 (x.2 : Nat)) = tcells (l.set i x) := by
  induction l generalizing i with
  | nil => simp [tcells]
  | cons a r ih =>
    cases i with
    | zero => rfl
    | succ i =>
      have := ih i
      rw [tcells_cons, show (i + 1) * 3 + 2 = i * 3 + 2 + 1 + 1 + 1 by omega, show (i + 1) * 3 + 1 = i * 3 + 1 + 1 + 1 + 1 by omega, show (i + 1) * 3 = i * 3 + 1 + 1 + 1 by omega]
      simp only [List.set_cons_succ]
      rw [this]
      rfl
theorem tcells_app (a b : List (Nat × Nat)) : tcells (a ++ b) = tcells a ++ tcells b := by simp [tcells]

/-- The blocks of a set are as they were. -/
structure HoldsS (S : Nat → Prop) (w w' : World) : Prop where
  os : w'.os = w.os
  tape : w'.tape = w.tape
  output : w'.output = w.output
  size : w.heap.size ≤ w'.heap.size
  block : ∀ k, S k → w'.heap[k]? = w.heap[k]?
theorem HoldsS.refl (S : Nat → Prop) (w : World) : HoldsS S w w := ⟨rfl, rfl, rfl, Nat.le_refl _, fun _ _ => rfl⟩
theorem HoldsS.trans {S : Nat → Prop} {a b c : World} (h : HoldsS S a b) (k : HoldsS S b c) : HoldsS S a c :=
  ⟨k.os.trans h.os, k.tape.trans h.tape, k.output.trans h.output, Nat.le_trans h.size k.size, fun i hi => (k.block i hi).trans (h.block i hi)⟩
theorem HoldsS.of_keeps {S : Nat → Prop} {bs : List Nat} {w w' : World} (h : Keeps bs w w') (hS : ∀ k, S k → k < w.heap.size ∧ k ∉ bs) : HoldsS S w w' :=
  ⟨h.os, h.tape, h.output, h.size, fun k hk => h.block k (hS k hk).1 (hS k hk).2⟩
theorem HoldsS.cell {S : Nat → Prop} {w w' : World} (h : HoldsS S w w') {p : Addr} (hp : S p.block) : w'.cell? p = w.cell? p := World.cell?_of_block (w := w) (h.block p.block hp)
theorem HoldsS.frozen {S : Nat → Prop} {w w' : World} (h : HoldsS S w w') {p : Addr} (hp : S p.block) : w'.frozen? p = w.frozen? p := World.frozen?_of_block (w := w) (h.block p.block hp)

/-- What a call that turns a row of one's own, and block b, leaves. -/
def Turned (w : World) (b : Nat) (v : Value) (w' : World) (v' : Value) : Prop :=
  Keeps (b :: v.ownBlock.toList) w w' ∧ (v'.ownBlock = v.ownBlock ∨ ∃ g, v'.ownBlock = some g ∧ w.heap.size ≤ g)

/-- A heap of trials: block b holds the slice, which owns a row from block m on. -/
structure TrAt (w : World) (m b : Nat) (v : Value) (l : List (Nat × Nat)) : Prop where
  lt : b < w.heap.size
  c0 : w.cell? ⟨b, 0, none⟩ = some v
  f0 : w.frozen? ⟨b, 0, none⟩ = false
  own : w.ownsRow m 56 3 v l.length (tcells l)
  ne : some b ≠ v.ownBlock
  mb : m ≤ b
  len : l.length ≤ 100

theorem TrAt.row {w : World} {m b : Nat} {v : Value} {l : List (Nat × Nat)} (h : TrAt w m b v l) (h0 : 0 < l.length) : ∃ g cap, v = .slice (some ⟨g, 0, none⟩) l.length cap ∧ g ≠ b ∧ m ≤ g ∧ g < w.heap.size ∧ l.length ≤ cap ∧ cap ≤ maxLen ∧
    (∀ i, i < l.length → w.cell? ⟨g, i * 3, none⟩ = some (.int .i64 (l[i]!.1 : Nat)) ∧ w.cell? ⟨g, i * 3 + 1, none⟩ = some (.int .u64 0) ∧ w.cell? ⟨g, i * 3 + 2, none⟩ = some (.int .u64 (l[i]!.2 : Nat))) ∧ ∀ j, w.frozen? ⟨g, j, none⟩ = false := by
  have hown := h.own
  have hne := h.ne
  rcases h.own.2 with ⟨_, h'⟩ | ⟨g, cap, cur, rfl, hb, hg, hn, hm, hs, ht⟩
  · omega
  · refine ⟨g, cap, rfl, fun e => hne (by simp [Value.ownBlock, e]), hb, ?_, hn, hm, fun i hi => ?_, fun j => hown.frozenAt j⟩
    · rcases Nat.lt_or_ge g w.heap.size with h3 | h3
      · exact h3
      · rw [Array.getElem?_eq_none h3] at hg; cases hg
    · have hl := tcells_length l
      obtain ⟨t1, t2, t3⟩ := tcells_get l i hi
      exact ⟨by rw [hown.cellAt (i * 3) (by omega), t1], by rw [hown.cellAt (i * 3 + 1) (by omega), t2], by rw [hown.cellAt (i * 3 + 2) (by omega), t3]⟩

theorem TrAt.below {w w' : World} {m b : Nat} {v : Value} {l : List (Nat × Nat)} (h : TrAt w m b v l) (hb : Below w.heap.size w w') : TrAt w' m b v l :=
  ⟨Nat.lt_of_lt_of_le h.lt hb.size, (hb.cell (p := ⟨b, 0, none⟩) h.lt).trans h.c0, (hb.frozen (p := ⟨b, 0, none⟩) h.lt).trans h.f0, ownsRow_below h.own hb, h.ne, h.mb, h.len⟩

/-- Cells of blocks that are no part of a row leave it. -/
theorem ownsRow_far {w w' : World} {base size : Nat} {e : TypeId} {v : Value} {n : Nat} {xs : List Value} (h : w.ownsRow base e size v n xs) (hk : ∀ g, v.ownBlock = some g → w'.heap[g]? = w.heap[g]?) : w'.ownsRow base e size v n xs := by
  refine ⟨h.1, ?_⟩
  rcases h.2 with h2 | ⟨g, cap, cur, rfl, hg, hh, r⟩
  · exact Or.inl h2
  · exact Or.inr ⟨g, cap, cur, rfl, hg, by rw [hk g rfl]; exact hh, r⟩

set_option maxHeartbeats 800000 in
theorem tLen (m b : Nat) (v : Value) (l : List (Nat × Nat)) (w : World) (h : TrAt w m b v l) : Calls Try.prog 69 #[.pointer (some ⟨b, 0, none⟩)] w fun e w' => e = .returned (.int .i64 l.length) ∧ w = w' := by
  have hc0 := h.c0
  rcases h.own.2 with ⟨rfl, h'⟩ | ⟨g, cap, cur, rfl, hb, hg, hn, hm, hs, ht⟩
  · rw [h']
    clear h h'
    go_enter Try.func69, Try.ntmps69
    go_wp2
    go_ret
    exact ⟨rfl, rfl⟩
  · clear h ht hs hg
    go_enter Try.func69, Try.ntmps69
    go_wp2
    go_ret
    exact ⟨rfl, rfl⟩

set_option maxHeartbeats 800000 in
theorem tLess (m b : Nat) (v : Value) (l : List (Nat × Nat)) (i j : Nat) (w : World) (hi : i < l.length) (hj : j < l.length) (h : TrAt w m b v l) :
    Calls Try.prog 70 #[.pointer (some ⟨b, 0, none⟩), .int .i64 i, .int .i64 j] w fun e w' => e = .returned (.bool (tBefore l[i]! l[j]!)) ∧ Below w.heap.size w w' := by
  have hc0 := h.c0
  have hlen := h.len
  obtain ⟨g, cap, rfl, hbg, hmg, hg, hlc, hcm, hcell, hfz⟩ := h.row (by omega)
  obtain ⟨ci0, ci1, ci2⟩ := hcell i hi
  obtain ⟨cj0, cj1, cj2⟩ := hcell j hj
  have HB := fun W => Lib.hid (tBetter l[i]! l[j]! W)
  obtain ⟨x, hx⟩ : ∃ x, x = l[i]! := ⟨_, rfl⟩
  obtain ⟨y, hy⟩ : ∃ y, y = l[j]! := ⟨_, rfl⟩
  rw [← hx] at ci0 ci2 HB ⊢
  rw [← hy] at cj0 cj2 HB ⊢
  obtain ⟨a, b'⟩ := x
  obtain ⟨c, d⟩ := y
  obtain ⟨n, hn⟩ : ∃ n, n = l.length := ⟨_, rfl⟩
  rw [← hn] at hi hj hc0 hlc hlen
  unfold trialV at HB
  simp only at HB ci0 ci2 cj0 cj2
  unfold maxLen at hcm
  clear hcell hx hy hn h hfz
  go_enter Try.func70, Try.ntmps70
  have hii : (i : Int) < (n : Int) := by omega
  have hjj : (j : Int) < (n : Int) := by omega
  go_wp2
  go_still_tail 12, (by kernel_rfl)
  change wpList _ _ _ _ _ w.drew
  have HD : Hid (Below w.heap.size w w.drew) := (Below.refl _ _).drew
  generalize w.drew = w2 at HD ⊢
  go_wp2_with (go_at_call 74; refine (HB _).out.mono ?_; rintro e w3 ⟨rfl, hb3⟩; have HB3 := Lib.hid (HD.out.trans (hb3.mono HD.out.size)); clear hb3)
  go_ret
  exact ⟨rfl, HB3.out⟩
end Go.Proofs.Ytcgkalfclammfaa
