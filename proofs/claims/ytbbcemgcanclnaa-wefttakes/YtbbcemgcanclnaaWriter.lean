import Derived.Test.YtbbcemgcanclnaaRef
import Derived.Test.YtbbcemgcanclnaaAppend
import Derived.BigQuiet
import Derived.Deep.QuietTactic
namespace Go.Proofs.Ytbbcemgcanclnaa
open Go.RowKit Go.Proofs Go.Proofs.PipeM Go.Proofs.PipeA

/-- Nothing that was there has turned but blocks of a list. -/
structure Keeps (bs : List Nat) (w w' : World) : Prop where
  os : w'.os = w.os
  tape : w'.tape = w.tape
  output : w'.output = w.output
  size : w.heap.size ≤ w'.heap.size
  block : ∀ k, k < w.heap.size → k ∉ bs → w'.heap[k]? = w.heap[k]?

theorem Keeps.refl (bs : List Nat) (w : World) : Keeps bs w w := ⟨rfl, rfl, rfl, Nat.le_refl _, fun _ _ _ => rfl⟩
theorem Keeps.trans {bs : List Nat} {a b c : World} (h : Keeps bs a b) (k : Keeps bs b c) : Keeps bs a c :=
  ⟨k.os.trans h.os, k.tape.trans h.tape, k.output.trans h.output, Nat.le_trans h.size k.size, fun i hi hn => (k.block i (Nat.lt_of_lt_of_le hi h.size) hn).trans (h.block i hi hn)⟩
/-- A block that is new may turn besides. -/
theorem Keeps.trans_new {bs cs : List Nat} {a b c : World} (h : Keeps bs a b) (k : Keeps cs b c) (hn : ∀ x ∈ cs, x ∈ bs ∨ a.heap.size ≤ x) : Keeps bs a c :=
  ⟨k.os.trans h.os, k.tape.trans h.tape, k.output.trans h.output, Nat.le_trans h.size k.size, fun i hi hni =>
    (k.block i (Nat.lt_of_lt_of_le hi h.size) (fun hc => by rcases hn i hc with h1 | h1; exact hni h1; omega)).trans (h.block i hi hni)⟩
theorem Keeps.below {bs : List Nat} {w w' : World} {B : Nat} (h : Keeps bs w w') (hB : B ≤ w.heap.size) (hn : ∀ x ∈ bs, B ≤ x) : Below B w w' :=
  ⟨h.os, h.tape, h.output, h.size, fun k hk => h.block k (by omega) (fun hc => by have := hn k hc; omega)⟩
theorem Keeps.cell {bs : List Nat} {w w' : World} (h : Keeps bs w w') {p : Addr} (hp : p.block < w.heap.size) (hn : p.block ∉ bs) : w'.cell? p = w.cell? p := World.cell?_of_block (w := w) (h.block p.block hp hn)
theorem Keeps.frozen {bs : List Nat} {w w' : World} (h : Keeps bs w w') {p : Addr} (hp : p.block < w.heap.size) (hn : p.block ∉ bs) : w'.frozen? p = w.frozen? p := World.frozen?_of_block (w := w) (h.block p.block hp hn)
theorem keeps_of_below {w w' : World} (h : Below w.heap.size w w') (bs : List Nat) : Keeps bs w w' := ⟨h.os, h.tape, h.output, h.size, fun k hk _ => h.block k hk⟩

/-- A writer at a block: its count, and its row of bytes, which is its own, and lies from block b + 1 on. -/
structure WrHas (w : World) (b : Nat) (v : Value) (c : Nat) (zs : List Nat) : Prop where
  lt : b < w.heap.size
  c0 : w.cell? ⟨b, 0, none⟩ = some v
  c1 : w.cell? ⟨b, 1, none⟩ = some (.int .i64 c)
  f0 : w.frozen? ⟨b, 0, none⟩ = false
  f1 : w.frozen? ⟨b, 1, none⟩ = false
  own : w.ownsRow (b + 1) 5 1 v zs.length (cellsOf zs)

/-- A writer that has these bits. -/
structure WrIs (w : World) (b : Nat) (v : Value) (l : List Bool) (zs : List Nat) : Prop extends WrHas w b v l.length zs where
  packs : Packs zs l

theorem cellsOf_set (zs : List Nat) (j y : Nat) : (cellsOf zs).set j (.int .u8 ((y : Nat) : Int)) = cellsOf (zs.set j y) := by
  simp [cellsOf, List.map_set]
theorem cellsOf_length (zs : List Nat) : (cellsOf zs).length = zs.length := by simp [cellsOf]
theorem cellsOf_get (zs : List Nat) (j : Nat) (h : j < zs.length) : (cellsOf zs)[j]? = some (.int .u8 ((zs.getD j 0 : Nat) : Int)) := by
  simp [cellsOf, List.getD, h]

/-- What is owned from 'base' on stays owned while a cell of a block below it turns, and in a world that differs by draws. -/
theorem ownsRow_drewN {w : World} {base : Nat} {e : TypeId} {size : Nat} {v : Value} {n : Nat} {xs : List Value} (h : w.ownsRow base e size v n xs) (m : Nat) : (w.drewN m).ownsRow base e size v n xs := h

/-- The writer behind a store of a bit's byte, and of the count. -/
theorem wr_stored {w : World} {b g cap c : Nat} {zs : List Nat} (y : Nat) (m : Nat) (h : WrHas w b (.slice (some ⟨g, 0, none⟩) zs.length cap) c zs) (j : Nat) :
    WrHas (((w.setCell ⟨g, j, none⟩ (.int .u8 (y : Int))).setCell ⟨b, 1, none⟩ (.int .i64 ((c : Int) + 1))).drewN m) b (.slice (some ⟨g, 0, none⟩) zs.length cap) (c + 1) (zs.set j y) ∧
    Keeps [b, g] w (((w.setCell ⟨g, j, none⟩ (.int .u8 (y : Int))).setCell ⟨b, 1, none⟩ (.int .i64 ((c : Int) + 1))).drewN m) := by
  have hg : b + 1 ≤ g := by
    rcases h.own.2 with ⟨h', _⟩ | ⟨g', cap', cur, h', hb, _⟩
    · simp at h'
    · simp only [Value.slice.injEq, Option.some.injEq, Addr.mk.injEq, and_true, true_and] at h'
      omega
  have hst := h.own.stored j (.int .u8 (y : Int))
  refine ⟨⟨by have := h.lt; simp; exact this, ?_, ?_, ?_, ?_, ?_⟩, ?_⟩
  · have := h.c0
    simp [World.cell?_setCell_other, this]
  · have hc : (w.setCell ⟨g, j, none⟩ (.int .u8 (y : Int))).cell? ⟨b, 1, none⟩ = some (.int .i64 c) := by
      simp [World.cell?_setCell_other, h.c1]
    rw [World.cell?_drewN, World.cell?_setCell_same _ _ _ hc]
    simp
  · simp [h.f0]
  · simp [h.f1]
  · apply ownsRow_drewN
    apply ownsRow_setCell_below _ (by simp)
    have := hst.1
    rw [cellsOf_set] at this
    simpa using this
  · refine ⟨rfl, rfl, rfl, by simp, fun k hk hn => ?_⟩
    simp at hn
    show ((w.setCell ⟨g, j, none⟩ (.int .u8 (y : Int))).setCell ⟨b, 1, none⟩ (.int .i64 ((c : Int) + 1))).heap[k]? = _
    rw [Below.heap_setCell _ _ _ _ (by simp; omega), Below.heap_setCell _ _ _ _ (by simp; omega)]

theorem wr_is {w : World} {b : Nat} {v : Value} {l : List Bool} {bit : Bool} {zs : List Nat} (h : WrHas w b v (l.length + 1) zs) (hp : Packs zs (l ++ [bit])) : WrIs w b v (l ++ [bit]) zs :=
  ⟨by simpa using h, hp⟩

theorem own_lt {w : World} {base n cap g : Nat} {xs : List Value} {e : TypeId} (h : w.ownsRow base e 1 (.slice (some ⟨g, 0, none⟩) n cap) n xs) : base ≤ g ∧ g < w.heap.size ∧ n ≤ cap ∧ cap ≤ maxLen := by
  rcases h.2 with ⟨h', _⟩ | ⟨g', cap', cur, h', hb, hg, h1, h2, _⟩
  · simp at h'
  · simp only [Value.slice.injEq, Option.some.injEq, Addr.mk.injEq, and_true, true_and] at h'
    obtain ⟨rfl, rfl⟩ := h'
    refine ⟨hb, ?_, h1, h2⟩
    rcases Nat.lt_or_ge g w.heap.size with h3 | h3
    · exact h3
    · rw [Array.getElem?_eq_none h3] at hg; cases hg

/-- What 'push' does: one bit more; only the writer's own blocks have turned. -/
def Wrote (w : World) (b : Nat) (v : Value) (l : List Bool) (w' : World) : Prop :=
  ∃ v' zs', WrIs w' b v' l zs' ∧ Keeps (b :: v.ownBlock.toList) w w' ∧ (v'.ownBlock = v.ownBlock ∨ ∃ g, v'.ownBlock = some g ∧ w.heap.size ≤ g)

def Pushed (w : World) (b : Nat) (v : Value) (l : List Bool) (e : Ending) (w' : World) : Prop :=
  e = .returned (.tuple #[]) ∧ Wrote w b v l w'

theorem Wrote.refl {w : World} {b : Nat} {v : Value} {l : List Bool} {zs : List Nat} (h : WrIs w b v l zs) : Wrote w b v l w :=
  ⟨v, zs, h, Keeps.refl _ _, Or.inl rfl⟩

/-- Two writes, one behind the other. -/
theorem Wrote.next {w w1 w2 : World} {b : Nat} {v v1 : Value} {l2 : List Bool} (hk : Keeps (b :: v.ownBlock.toList) w w1) (ho : v1.ownBlock = v.ownBlock ∨ ∃ g, v1.ownBlock = some g ∧ w.heap.size ≤ g)
    (h2 : Wrote w1 b v1 l2 w2) : Wrote w b v l2 w2 := by
  obtain ⟨v2, zs2, hw2, hk2, ho2⟩ := h2
  refine ⟨v2, zs2, hw2, hk.trans_new hk2 ?_, ?_⟩
  · intro x hx
    rw [List.mem_cons] at hx
    rcases hx with rfl | hx
    · exact Or.inl (by simp)
    · rcases ho with ho | ⟨g, ho, hg⟩
      · exact Or.inl (by rw [ho] at hx; simp [hx])
      · rw [ho] at hx; simp at hx; exact Or.inr (by omega)
  · rcases ho2 with ho2 | ⟨g, ho2, hg⟩
    · rw [ho2]; exact ho
    · exact Or.inr ⟨g, ho2, Nat.le_trans hk.size hg⟩

/-- The writer behind an append of a byte 0 to its row, the row stored back. -/
theorem wr_grown {w w1 : World} {b g cap : Nat} {l : List Bool} {zs : List Nat} {v : Value} (h : WrIs w b v l zs)
    (hown : w1.ownsRow (b + 1) 5 1 (.slice (some ⟨g, 0, none⟩) (zs.length + 1) cap) (zs.length + 1) (cellsOf zs ++ [.int .u8 0]))
    (hk : Keeps v.ownBlock.toList w w1) (hv : b ∉ v.ownBlock.toList) :
    w1.cell? ⟨b, 0, none⟩ = some v ∧ w1.cell? ⟨b, 1, none⟩ = some (.int .i64 l.length) ∧ w1.frozen? ⟨b, 0, none⟩ = false ∧ w1.frozen? ⟨b, 1, none⟩ = false ∧
    WrHas (w1.setCell ⟨b, 0, none⟩ (.slice (some ⟨g, 0, none⟩) (zs.length + 1) cap)) b (.slice (some ⟨g, 0, none⟩) (zs ++ [0]).length cap) l.length (zs ++ [0]) := by
  have c0 : w1.cell? ⟨b, 0, none⟩ = some v := by rw [hk.cell h.lt hv]; exact h.c0
  have c1 : w1.cell? ⟨b, 1, none⟩ = some (.int .i64 l.length) := by rw [hk.cell h.lt hv]; exact h.c1
  have f0 : w1.frozen? ⟨b, 0, none⟩ = false := by rw [hk.frozen h.lt hv]; exact h.f0
  have f1 : w1.frozen? ⟨b, 1, none⟩ = false := by rw [hk.frozen h.lt hv]; exact h.f1
  refine ⟨c0, c1, f0, f1, ⟨by have := h.lt; have := hk.size; simp; omega, ?_, ?_, ?_, ?_, ?_⟩⟩
  · rw [World.cell?_setCell_same _ _ _ c0]; simp
  · simp [World.cell?_setCell_other, c1]
  · simp [f0]
  · simp [f1]
  · refine ownsRow_setCell_below ?_ (by simp) _
    rw [cellsOf_snoc]
    simpa using hown

theorem ownBlock_ge {w : World} {base n : Nat} {e : TypeId} {size : Nat} {xs : List Value} {v : Value} (h : w.ownsRow base e size v n xs) : ∀ k ∈ v.ownBlock.toList, base ≤ k := by
  intro k hk
  rcases h.2 with ⟨rfl, _⟩ | ⟨g, cap, cur, rfl, hb, _⟩
  · simp [Value.ownBlock] at hk
  · simp [Value.ownBlock] at hk; omega

theorem keeps_grownBy {w w' : World} {row : Option Nat} (h : w.grownBy w' row) : Keeps row.toList w w' :=
  ⟨h.os, h.tape, h.output, h.size, fun k hk hn => h.block k hk (fun e => hn (by simp [← e]))⟩

theorem WrIs.shape {w : World} {b : Nat} {v : Value} {l : List Bool} {zs : List Nat} (h : WrIs w b v l zs) (hne : l.length % 8 ≠ 0) : ∃ g cap, v = .slice (some ⟨g, 0, none⟩) zs.length cap := by
  rcases h.own.2 with ⟨_, h'⟩ | ⟨g, cap, _, h', _⟩
  · have := h.packs.length; omega
  · exact ⟨g, cap, h'⟩

end Go.Proofs.Ytbbcemgcanclnaa
