import Derived.Test.YtefbakhhlonafaaSlideC4
import Derived.WalkKit
import Derived.Test.YtefbakhhlonafaaRef3b
import Derived.Test.YtefbakhhlonafaaRiceC3
import Derived.StillTailTactics
import Derived.BigRegion
import Derived.Deep.AppendLies
import Derived.Deep.RegionLaw
import Derived.Laws.MakeOwn
import Derived.Test.YtefbakhhlonafaaRiceC1

section
namespace Go.Proofs.Ytefbakhhlonafaa
open Go.RowKit Go.Shelf Go.Proofs Go.Proofs.PipeM Go.Proofs.PipeA
set_option maxRecDepth 100000

/-- The writer's blocks are others than these. -/
def Off (b : Nat) (v : Value) (g : Nat) : Prop := g ∉ b :: v.ownBlock.toList

theorem Off.next {b : Nat} {v v3 : Value} {g n : Nat} (h : Off b v g) (hg : g < n) (ho : v3.ownBlock = v.ownBlock ∨ ∃ g', v3.ownBlock = some g' ∧ n ≤ g') : Off b v3 g := by
  rcases ho with e | ⟨g', e, hn⟩
  · unfold Off at h ⊢; rw [e]; exact h
  · unfold Off at h ⊢
    simp only [List.mem_cons, not_or] at h ⊢
    refine ⟨h.1, ?_⟩
    rw [e]; simp; omega
theorem Off.new {w : World} {b : Nat} {v : Value} {g : Nat} {l : List Bool} {zs : List Nat} (h : WrIs w b v l zs) (hg : w.heap.size ≤ g) : Off b v g := by
  unfold Off
  simp only [List.mem_cons, not_or]
  refine ⟨by have := h.lt; omega, fun hm => ?_⟩
  have := (own_block_lt h.own g (by simpa using hm)).2
  omega

attribute [local go_sem] Oper.semAt_some

theorem cBits (lo ao : Option Addr) (lcap cap : Nat) (l : List Int) (P : Int) (ks : List Int) (w : World) (hcap : l.length ≤ lcap) (hl : l.length ≤ 1000000) (hk : ks.length ≤ 1000000) (hi : IntsAt w lo l) (hj : IntsAt w ao ks) :
    Calls Try.prog 53 #[.slice lo l.length lcap, .agg #[.int .i64 P, .slice ao ks.length cap]] w fun e w' => e = .returned (.int .i64 (slideLen l P ks)) ∧ Below w.heap.size w w' := by
  cases h : slideOk l P ks
  · exact cBits_no lo ao lcap cap l P ks w hl hk hi hj h
  · exact cBits_yes lo ao lcap cap l P ks w hcap hi hj h
end Go.Proofs.Ytefbakhhlonafaa
end

section
namespace Go.Proofs.HeapM

variable {α : Type} [Inhabited α]

def swp (l : List α) (i j : Nat) : List α := (l.set i l[j]!).set j l[i]!

variable (lt : α → α → Bool)

/-- An order in which of two one is never behind the other, both ways. -/
structure Order : Prop where
  total : ∀ a b, lt a b = true → lt b a = false
  trans : ∀ a b c, lt b a = false → lt c b = false → lt c a = false

/-- The one is not behind the other. -/
def le (a b : α) : Prop := lt b a = false

variable {lt}
omit [Inhabited α] in
theorem Order.refl (h : Order lt) (a : α) : le lt a a := by
  unfold le
  cases e : lt a a
  · rfl
  · have := h.total a a e; rw [e] at this; exact this
omit [Inhabited α] in
theorem Order.le_of_lt (h : Order lt) {a b : α} (hl : lt a b = true) : le lt a b := h.total a b hl
omit [Inhabited α] in
theorem Order.le_trans (h : Order lt) {a b c : α} (h1 : le lt a b) (h2 : le lt b c) : le lt a c := h.trans a b c h1 h2

variable (lt)
variable {lt}
end Go.Proofs.HeapM
end

section
namespace Go.Proofs.Ytefbakhhlonafaa
open Go.RowKit Go.Proofs Go.Proofs.PipeM Go.Proofs.PipeA Go.Proofs.HeapM

/-- What a heap of the program's own tells of itself: how it lies in memory while it holds a list of at most N, and what its calls do to it. -/
structure HeapOps {α : Type} [Inhabited α] (t : TypeId) (v : Value) (te : TypeId) (enc : α → Value) (lt : α → α → Bool) (N : Nat) (At : List α → World → Prop) (R : World → World → Prop) where
  fLen : FuncId
  fLess : FuncId
  fSwap : FuncId
  fPush : FuncId
  fPop : FuncId
  refl : ∀ w, R w w
  trans : ∀ a b c, R a b → R b c → R a c
  order : Order lt
  room : ∀ l w, At l w → l.length ≤ N
  eLen : ∀ args w, (callFunc fLen args).run Try.prog w = .ok (.enter fLen args) w
  mLen : ∀ w, (method 232 t v "Len").run Try.prog w = .ok (fLen, v) w
  eLess : ∀ args w, (callFunc fLess args).run Try.prog w = .ok (.enter fLess args) w
  mLess : ∀ w, (method 232 t v "Less").run Try.prog w = .ok (fLess, v) w
  eSwap : ∀ args w, (callFunc fSwap args).run Try.prog w = .ok (.enter fSwap args) w
  mSwap : ∀ w, (method 232 t v "Swap").run Try.prog w = .ok (fSwap, v) w
  ePush : ∀ args w, (callFunc fPush args).run Try.prog w = .ok (.enter fPush args) w
  mPush : ∀ w, (method 232 t v "Push").run Try.prog w = .ok (fPush, v) w
  ePop : ∀ args w, (callFunc fPop args).run Try.prog w = .ok (.enter fPop args) w
  mPop : ∀ w, (method 232 t v "Pop").run Try.prog w = .ok (fPop, v) w
  len : ∀ l w, At l w → Calls Try.prog fLen #[v] w fun e w' => e = .returned (.int .i64 l.length) ∧ At l w' ∧ R w w'
  less : ∀ l w (i j : Nat), i < l.length → j < l.length → At l w → Calls Try.prog fLess #[v, .int .i64 i, .int .i64 j] w fun e w' => e = .returned (.bool (lt l[i]! l[j]!)) ∧ At l w' ∧ R w w'
  swap : ∀ l w (i j : Nat), i < l.length → j < l.length → At l w → Calls Try.prog fSwap #[v, .int .i64 i, .int .i64 j] w fun e w' => e = .returned (.tuple #[]) ∧ At (swp l i j) w' ∧ R w w'
  push : ∀ l w x, l.length < N → At l w → Calls Try.prog fPush #[v, .iface te (enc x)] w fun e w' => e = .returned (.tuple #[]) ∧ At (l ++ [x]) w' ∧ R w w'
  pop : ∀ l w x, At (l ++ [x]) w → Calls Try.prog fPop #[v] w fun e w' => e = .returned (.iface te (enc x)) ∧ At l w' ∧ R w w'

section
variable {α : Type} [Inhabited α] {t : TypeId} {v : Value} {te : TypeId} {enc : α → Value} {lt : α → α → Bool} {N : Nat} {At : List α → World → Prop} {R : World → World → Prop} (H : HeapOps t v te enc lt N At R)

include H in
include H in
end
end Go.Proofs.Ytefbakhhlonafaa
end

section
namespace Go.Proofs.Ytefbakhhlonafaa
open Go.RowKit Go.Proofs Go.Proofs.PipeM Go.Proofs.PipeA Go.Proofs.HeapM

section
variable {α : Type} [Inhabited α] {t : TypeId} {v : Value} {te : TypeId} {enc : α → Value} {lt : α → α → Bool} {N : Nat} {At : List α → World → Prop} {R : World → World → Prop} (H : HeapOps t v te enc lt N At R)

include H in
end
end Go.Proofs.Ytefbakhhlonafaa
end

section
namespace Go.Proofs.Ytefbakhhlonafaa
open Go.RowKit Go.Proofs Go.Proofs.PipeM Go.Proofs.PipeA Go.Proofs.HeapM

section
variable {α : Type} [Inhabited α] {t : TypeId} {v : Value} {te : TypeId} {enc : α → Value} {lt : α → α → Bool} {N : Nat} {At : List α → World → Prop} {R : World → World → Prop} (H : HeapOps t v te enc lt N At R)

end
end Go.Proofs.Ytefbakhhlonafaa
end

section
namespace Go.Proofs.Ytefbakhhlonafaa
open Go.RowKit Go.Proofs Go.Proofs.PipeM Go.Proofs.PipeA Go.Proofs.HeapM
set_option maxRecDepth 100000

/-- The blocks of a set are as they were. -/
structure HoldsS (S : Nat → Prop) (w w' : World) : Prop where
  os : w'.os = w.os
  tape : w'.tape = w.tape
  output : w'.output = w.output
  size : w.heap.size ≤ w'.heap.size
  block : ∀ k, S k → w'.heap[k]? = w.heap[k]?
theorem HoldsS.refl (S : Nat → Prop) (w : World) : HoldsS S w w := ⟨rfl, rfl, rfl, Nat.le_refl _, fun _ _ => rfl⟩
theorem HoldsS.trans {S : Nat → Prop} {a b c : World} (h : HoldsS S a b) (k : HoldsS S b c) : HoldsS S a c :=
  ⟨k.os.trans h.os, k.tape.trans h.tape, k.output.trans h.output, Nat.le_trans h.size k.size, fun i hi => (k.block i hi).trans (h.block i hi)⟩
theorem HoldsS.cell {S : Nat → Prop} {w w' : World} (h : HoldsS S w w') {p : Addr} (hp : S p.block) : w'.cell? p = w.cell? p := World.cell?_of_block (w := w) (h.block p.block hp)
theorem HoldsS.frozen {S : Nat → Prop} {w w' : World} (h : HoldsS S w w') {p : Addr} (hp : S p.block) : w'.frozen? p = w.frozen? p := World.frozen?_of_block (w := w) (h.block p.block hp)

end Go.Proofs.Ytefbakhhlonafaa
end

section
namespace Go.Proofs.Ytefbakhhlonafaa
open Go.RowKit Go.Proofs Go.Proofs.PipeM Go.Proofs.PipeA Go.Proofs.HeapM
set_option maxRecDepth 100000

end Go.Proofs.Ytefbakhhlonafaa
end

section
namespace Go.Proofs.Ytefbakhhlonafaa
open Go.RowKit Go.Proofs Go.Proofs.PipeM Go.Proofs.PipeA Go.Proofs.HeapM
set_option maxRecDepth 100000

theorem HoldsS.below {b : Nat} {w w' : World} (h : HoldsS (fun k => k < b) w w') : Below b w w' := ⟨h.os, h.tape, h.output, h.size, h.block⟩

end Go.Proofs.Ytefbakhhlonafaa
end

section
namespace Go.Proofs.Ytefbakhhlonafaa
open Go.RowKit Go.Shelf Go.Proofs Go.Proofs.PipeM Go.Proofs.PipeA
set_option maxRecDepth 100000

/-- The best parameter, as a function. -/
def bestTo (l : List Int) : Nat → Nat
  | 0 => 0
  | i + 1 => if totalN l (i + 1) < totalN l (bestTo l i) then i + 1 else bestTo l i
def bestN (l : List Int) : Nat := bestTo l 24
def bestKs (size : Nat) (l : List Int) (m : Nat) : List Int := (List.range m).map fun j => ((bestN (partNo size l j) : Nat) : Int)
theorem info_int : (Try.prog.info? 3).map (fun i => (i.zero, i.size, i.bytes)) = some (some (.int .i64 0), 1, 8) := by kernel_rfl
theorem makeInts (m : Nat) (hm : m ≤ 100000) : ∃ cs : Array Value, (∀ j, j < m → cs[j]? = some (.int .i64 0)) ∧ ∀ W, (Instr.makeSlice 22 (.int .i64 (m : Int)) (.int .i64 (m : Int))).run Try.prog W = .ok (.slice (some ⟨W.heap.size, 0, none⟩) m m) (W.alloc (.cells cs 3)) := by
  obtain ⟨i0, hi, hz0, hz1, hz2⟩ := info_parts info_int
  refine ⟨madeCells (Value.cells (.int .i64 0)) (m * i0.size), ?_, fun W => ?_⟩
  · intro j hj
    rw [hz1]
    simp [madeCells, Value.cells, hj]
    rw [Nat.mod_one]; rfl
  · have := run_make (P := Try.prog) W 22 3 i0 (.int .i64 0) Try.underlying22 hi hz0 .i64 .i64 m m (by omega) (Int.le_refl _) (by rw [hz2]; omega) (by omega)
    simpa using this
end Go.Proofs.Ytefbakhhlonafaa
end

section
namespace Go.Proofs.Ytefbakhhlonafaa
open Go.RowKit Go.Shelf Go.Proofs Go.Proofs.PipeM Go.Proofs.PipeA
set_option maxRecDepth 100000

attribute [local go_sem] Oper.semAt_some

theorem cell_of_heap {W : World} {b : Nat} {cs : Array Value} {t : TypeId} (h : W.heap[b]? = some (.cells cs t)) (j : Nat) : W.cell? ⟨b, j, none⟩ = cs[j]? := by simp [World.cell?, h]
theorem frozen_of_heap {W : World} {b : Nat} {cs : Array Value} {t : TypeId} (h : W.heap[b]? = some (.cells cs t)) (j : Nat) : W.frozen? ⟨b, j, none⟩ = false := by simp [World.frozen?, h]

end Go.Proofs.Ytefbakhhlonafaa
end

section
namespace Go.Proofs.Ytefbakhhlonafaa
open Go.RowKit Go.Proofs Go.Proofs.PipeM Go.Proofs.PipeA Go.Proofs.BlkM
open Go.Proofs.LatM (goodL)
open Go.Proofs.LagM (goodT)
set_option maxRecDepth 100000

theorem two_zero {value n : Int} {shift lag gain part : Int} {index rice data : List Int} (h : wrongData ⟨2, value, shift, index, lag, gain, part, rice, data⟩ n = false) : value = 0 ∧ (data.length : Int) = n := by
  unfold wrongData at h
  simp at h
  exact h

theorem more_no {b : Blk} (h : wrongMore b = false) : b.kind = 2 ∨ (b.shift = 0 ∧ b.index = [] ∧ b.lag = 0 ∧ b.gain = 0 ∧ b.part = 0 ∧ b.rice = []) := by
  unfold wrongMore at h
  by_cases h2 : b.kind = 2
  · exact .inl h2
  · right
    simp [h2] at h
    obtain ⟨⟨⟨⟨⟨a1, a2⟩, a3⟩, a4⟩, a5⟩, a6⟩ := h
    exact ⟨a1, a2, a3, a4, a5, a6⟩
end Go.Proofs.Ytefbakhhlonafaa
end
