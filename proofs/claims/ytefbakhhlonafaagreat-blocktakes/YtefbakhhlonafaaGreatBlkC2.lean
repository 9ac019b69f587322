import Derived.Test.YtefbakhhlonafaaGreatSlideC4
import Derived.WalkKit
import Derived.Test.YtefbakhhlonafaaGreatRef3a
import Derived.Test.YtefbakhhlonafaaGreatRiceC3
import Derived.StillTailTactics
import Derived.BigRegion
import Derived.Deep.AppendLies
import Derived.Deep.RegionLaw
import Derived.Laws.MakeOwn
import Derived.Test.YtefbakhhlonafaaGreatRef2b
import Derived.Test.YtefbakhhlonafaaGreatFxLatC1
import Derived.Test.YtefbakhhlonafaaGreatGxLagC4

section
namespace Go.Proofs.YtefbakhhlonafaaGreat
open Go.RowKit Go.Shelf Go.Proofs Go.Proofs.PipeM Go.Proofs.PipeA
set_option maxRecDepth 100000

/-- The writer's blocks are others than these. -/
def Off (b : Nat) (v : Value) (g : Nat) : Prop := g ∉ b :: v.ownBlock.toList

theorem Off.next {b : Nat} {v v3 : Value} {g n : Nat} (h : Off b v g) (hg : g < n) (ho : v3.ownBlock = v.ownBlock ∨ ∃ g', v3.ownBlock = some g' ∧ n ≤ g') : Off b v3 g := by
  rcases ho with e | ⟨g', e, hn⟩
  · unfold Off at h ⊢; rw [e]; exact h
  · unfold Off at h ⊢
    simp only [List.mem_cons, not_or] at h ⊢
    refine ⟨h.1, ?_⟩
    rw [e]; simp; omega
theorem Off.new {w : World} {b : Nat} {v : Value} {g : Nat} {l : List Bool} {zs : List Nat} (h : WrIs w b v l zs) (hg : w.heap.size ≤ g) : Off b v g := by
  unfold Off
  simp only [List.mem_cons, not_or]
  refine ⟨by have := h.lt; omega, fun hm => ?_⟩
  have := (own_block_lt h.own g (by simpa using hm)).2
  omega

attribute [local go_sem] Oper.semAt_some

theorem flat_code (k : Int) (hk : 0 ≤ k ∧ k ≤ 24) : ∀ c : List Int, (∀ n ∈ c, InR n) → c.flatMap (codeOf · k) = c.flatMap (codeBits · k.toNat)
  | [], _ => rfl
  | n :: c, h => by
    have hn := h n (List.mem_cons_self ..)
    rw [List.flatMap_cons, List.flatMap_cons, flat_code k hk c (fun x hx => h x (List.mem_cons_of_mem _ hx))]
    congr 1
    unfold codeOf
    rw [if_pos]
    unfold codeOk
    exact decide_eq_true ⟨hn.1, hn.2, hk.1, hk.2⟩
theorem cBits (lo ao : Option Addr) (lcap cap : Nat) (l : List Int) (P : Int) (ks : List Int) (w : World) (hcap : l.length ≤ lcap) (hl : l.length ≤ 1000000) (hk : ks.length ≤ 1000000) (hi : IntsAt w lo l) (hj : IntsAt w ao ks) :
    Calls Tryz.prog 68 #[.slice lo l.length lcap, .agg #[.int .i64 P, .slice ao ks.length cap]] w fun e w' => e = .returned (.int .i64 (slideLen l P ks)) ∧ Below w.heap.size w w' := by
  cases h : slideOk l P ks
  · exact cBits_no lo ao lcap cap l P ks w hl hk hi hj h
  · exact cBits_yes lo ao lcap cap l P ks w hcap hi hj h
end Go.Proofs.YtefbakhhlonafaaGreat
end

section
namespace Go.Proofs.HeapM

variable {α : Type} [Inhabited α]

def swp (l : List α) (i j : Nat) : List α := (l.set i l[j]!).set j l[i]!

variable (lt : α → α → Bool)

/-- An order in which of two one is never behind the other, both ways. -/
structure Order : Prop where
  total : ∀ a b, lt a b = true → lt b a = false
  trans : ∀ a b c, lt b a = false → lt c b = false → lt c a = false

/-- The one is not behind the other. -/
def le (a b : α) : Prop := lt b a = false

variable {lt}
omit [Inhabited α] in
theorem Order.refl (h : Order lt) (a : α) : le lt a a := by
  unfold le
  cases e : lt a a
  · rfl
  · have := h.total a a e; rw [e] at this; exact this
omit [Inhabited α] in
theorem Order.le_trans (h : Order lt) {a b c : α} (h1 : le lt a b) (h2 : le lt b c) : le lt a c := h.trans a b c h1 h2

variable (lt)
variable {lt}
end Go.Proofs.HeapM
end

section
namespace Go.Proofs.YtefbakhhlonafaaGreat
open Go.RowKit Go.Proofs Go.Proofs.PipeM Go.Proofs.PipeA Go.Proofs.HeapM

/-- What a heap of the program's own tells of itself: how it lies in memory while it holds a list of at most N, and what its calls do to it. -/
structure HeapOps {α : Type} [Inhabited α] (t : TypeId) (v : Value) (te : TypeId) (enc : α → Value) (lt : α → α → Bool) (N : Nat) (At : List α → World → Prop) (R : World → World → Prop) where
  fLen : FuncId
  fLess : FuncId
  fSwap : FuncId
  fPush : FuncId
  fPop : FuncId
  refl : ∀ w, R w w
  trans : ∀ a b c, R a b → R b c → R a c
  order : Order lt
  room : ∀ l w, At l w → l.length ≤ N
  eLen : ∀ args w, (callFunc fLen args).run Tryz.prog w = .ok (.enter fLen args) w
  mLen : ∀ w, (method 271 t v "Len").run Tryz.prog w = .ok (fLen, v) w
  eLess : ∀ args w, (callFunc fLess args).run Tryz.prog w = .ok (.enter fLess args) w
  mLess : ∀ w, (method 271 t v "Less").run Tryz.prog w = .ok (fLess, v) w
  eSwap : ∀ args w, (callFunc fSwap args).run Tryz.prog w = .ok (.enter fSwap args) w
  mSwap : ∀ w, (method 271 t v "Swap").run Tryz.prog w = .ok (fSwap, v) w
  ePush : ∀ args w, (callFunc fPush args).run Tryz.prog w = .ok (.enter fPush args) w
  mPush : ∀ w, (method 271 t v "Push").run Tryz.prog w = .ok (fPush, v) w
  ePop : ∀ args w, (callFunc fPop args).run Tryz.prog w = .ok (.enter fPop args) w
  mPop : ∀ w, (method 271 t v "Pop").run Tryz.prog w = .ok (fPop, v) w
  len : ∀ l w, At l w → Calls Tryz.prog fLen #[v] w fun e w' => e = .returned (.int .i64 l.length) ∧ At l w' ∧ R w w'
  less : ∀ l w (i j : Nat), i < l.length → j < l.length → At l w → Calls Tryz.prog fLess #[v, .int .i64 i, .int .i64 j] w fun e w' => e = .returned (.bool (lt l[i]! l[j]!)) ∧ At l w' ∧ R w w'
  swap : ∀ l w (i j : Nat), i < l.length → j < l.length → At l w → Calls Tryz.prog fSwap #[v, .int .i64 i, .int .i64 j] w fun e w' => e = .returned (.tuple #[]) ∧ At (swp l i j) w' ∧ R w w'
  push : ∀ l w x, l.length < N → At l w → Calls Tryz.prog fPush #[v, .iface te (enc x)] w fun e w' => e = .returned (.tuple #[]) ∧ At (l ++ [x]) w' ∧ R w w'
  pop : ∀ l w x, At (l ++ [x]) w → Calls Tryz.prog fPop #[v] w fun e w' => e = .returned (.iface te (enc x)) ∧ At l w' ∧ R w w'

section
variable {α : Type} [Inhabited α] {t : TypeId} {v : Value} {te : TypeId} {enc : α → Value} {lt : α → α → Bool} {N : Nat} {At : List α → World → Prop} {R : World → World → Prop} (H : HeapOps t v te enc lt N At R)

include H in
include H in
end
end Go.Proofs.YtefbakhhlonafaaGreat
end

section
namespace Go.Proofs.YtefbakhhlonafaaGreat
open Go.RowKit Go.Proofs Go.Proofs.PipeM Go.Proofs.PipeA Go.Proofs.HeapM

section
variable {α : Type} [Inhabited α] {t : TypeId} {v : Value} {te : TypeId} {enc : α → Value} {lt : α → α → Bool} {N : Nat} {At : List α → World → Prop} {R : World → World → Prop} (H : HeapOps t v te enc lt N At R)

include H in
end
end Go.Proofs.YtefbakhhlonafaaGreat
end

section
namespace Go.Proofs.YtefbakhhlonafaaGreat
open Go.RowKit Go.Proofs Go.Proofs.PipeM Go.Proofs.PipeA Go.Proofs.HeapM

section
variable {α : Type} [Inhabited α] {t : TypeId} {v : Value} {te : TypeId} {enc : α → Value} {lt : α → α → Bool} {N : Nat} {At : List α → World → Prop} {R : World → World → Prop} (H : HeapOps t v te enc lt N At R)

end
end Go.Proofs.YtefbakhhlonafaaGreat
end

section
namespace Go.Proofs.YtefbakhhlonafaaGreat
open Go.RowKit Go.Proofs Go.Proofs.PipeM Go.Proofs.PipeA Go.Proofs.HeapM
set_option maxRecDepth 100000

/-- The blocks of a set are as they were. -/
structure HoldsS (S : Nat → Prop) (w w' : World) : Prop where
  os : w'.os = w.os
  tape : w'.tape = w.tape
  output : w'.output = w.output
  size : w.heap.size ≤ w'.heap.size
  block : ∀ k, S k → w'.heap[k]? = w.heap[k]?
theorem HoldsS.refl (S : Nat → Prop) (w : World) : HoldsS S w w := ⟨rfl, rfl, rfl, Nat.le_refl _, fun _ _ => rfl⟩
theorem HoldsS.trans {S : Nat → Prop} {a b c : World} (h : HoldsS S a b) (k : HoldsS S b c) : HoldsS S a c :=
  ⟨k.os.trans h.os, k.tape.trans h.tape, k.output.trans h.output, Nat.le_trans h.size k.size, fun i hi => (k.block i hi).trans (h.block i hi)⟩
theorem HoldsS.cell {S : Nat → Prop} {w w' : World} (h : HoldsS S w w') {p : Addr} (hp : S p.block) : w'.cell? p = w.cell? p := World.cell?_of_block (w := w) (h.block p.block hp)
theorem HoldsS.frozen {S : Nat → Prop} {w w' : World} (h : HoldsS S w w') {p : Addr} (hp : S p.block) : w'.frozen? p = w.frozen? p := World.frozen?_of_block (w := w) (h.block p.block hp)

end Go.Proofs.YtefbakhhlonafaaGreat
end

section
namespace Go.Proofs.YtefbakhhlonafaaGreat
open Go.RowKit Go.Proofs Go.Proofs.PipeM Go.Proofs.PipeA Go.Proofs.HeapM
set_option maxRecDepth 100000

end Go.Proofs.YtefbakhhlonafaaGreat
end

section
namespace Go.Proofs.YtefbakhhlonafaaGreat
open Go.RowKit Go.Proofs Go.Proofs.PipeM Go.Proofs.PipeA Go.Proofs.HeapM
set_option maxRecDepth 100000

theorem HoldsS.below {b : Nat} {w w' : World} (h : HoldsS (fun k => k < b) w w') : Below b w w' := ⟨h.os, h.tape, h.output, h.size, h.block⟩

end Go.Proofs.YtefbakhhlonafaaGreat
end

section
namespace Go.Proofs.YtefbakhhlonafaaGreat
open Go.RowKit Go.Shelf Go.Proofs Go.Proofs.PipeM Go.Proofs.PipeA
set_option maxRecDepth 100000

/-- The best parameter, as a function. -/
def bestTo (l : List Int) : Nat → Nat
  | 0 => 0
  | i + 1 => if totalN l (i + 1) < totalN l (bestTo l i) then i + 1 else bestTo l i
def bestN (l : List Int) : Nat := bestTo l 24
def bestKs (size : Nat) (l : List Int) (m : Nat) : List Int := (List.range m).map fun j => ((bestN (partNo size l j) : Nat) : Int)
theorem info_int : (Tryz.prog.info? 3).map (fun i => (i.zero, i.size, i.bytes)) = some (some (.int .i64 0), 1, 8) := by kernel_rfl
theorem makeInts (m : Nat) (hm : m ≤ 100000) : ∃ cs : Array Value, (∀ j, j < m → cs[j]? = some (.int .i64 0)) ∧ ∀ W, (Instr.makeSlice 22 (.int .i64 (m : Int)) (.int .i64 (m : Int))).run Tryz.prog W = .ok (.slice (some ⟨W.heap.size, 0, none⟩) m m) (W.alloc (.cells cs 3)) := by
  obtain ⟨i0, hi, hz0, hz1, hz2⟩ := info_parts info_int
  refine ⟨madeCells (Value.cells (.int .i64 0)) (m * i0.size), ?_, fun W => ?_⟩
  · intro j hj
    rw [hz1]
    simp [madeCells, Value.cells, hj]
    rw [Nat.mod_one]; rfl
  · have := run_make (P := Tryz.prog) W 22 3 i0 (.int .i64 0) Tryz.underlying22 hi hz0 .i64 .i64 m m (by omega) (Int.le_refl _) (by rw [hz2]; omega) (by omega)
    simpa using this
end Go.Proofs.YtefbakhhlonafaaGreat
end

section
namespace Go.Proofs.YtefbakhhlonafaaGreat
open Go.RowKit Go.Shelf Go.Proofs Go.Proofs.PipeM Go.Proofs.PipeA
set_option maxRecDepth 100000

attribute [local go_sem] Oper.semAt_some

theorem cell_of_heap {W : World} {b : Nat} {cs : Array Value} {t : TypeId} (h : W.heap[b]? = some (.cells cs t)) (j : Nat) : W.cell? ⟨b, j, none⟩ = cs[j]? := by simp [World.cell?, h]
theorem frozen_of_heap {W : World} {b : Nat} {cs : Array Value} {t : TypeId} (h : W.heap[b]? = some (.cells cs t)) (j : Nat) : W.frozen? ⟨b, j, none⟩ = false := by simp [World.frozen?, h]

def KeysAt (W : World) (H m : Nat) (f : Nat → Int) : Prop := ∀ j, j < m → W.cell? ⟨H, j, none⟩ = some (.int .i64 (f j)) ∧ W.frozen? ⟨H, j, none⟩ = false
theorem own_keys {β : Type} {B H m : Nat} (f : β → Nat → Int) : OwnFrom B (fun s W => KeysAt W H m (f s)) :=
  fun s X Y row hs hg hr j hj => own_cell (B := B) ⟨H, j, none⟩ (fun (s : β) => .int .i64 (f s j)) s X Y row (hs j hj) hg hr

end Go.Proofs.YtefbakhhlonafaaGreat
end

section
namespace Go.Proofs.YtefbakhhlonafaaGreat
open Go.RowKit Go.Proofs Go.Proofs.PipeM Go.Proofs.PipeA Go.Proofs.BlkM
open Go.Proofs.LatM (goodL)
open Go.Proofs.LagM (goodT)
set_option maxRecDepth 100000

set_option maxHeartbeats 3200000 in
theorem rForm_two_data (value shift lag gain part : Int) (index rice data : List Int) (ia ra da : Option Addr) (ic rc dc : Nat) (n : Nat) (d : Int) (w : World) (h : wrongData ⟨2, value, shift, index, lag, gain, part, rice, data⟩ n = true) :
    Calls Tryz.prog 26 #[blkV ⟨2, value, shift, index, lag, gain, part, rice, data⟩ ia ra da ic rc dc, .int .i64 n, .int .i64 d] w fun e w' => e = .returned (.int .i64 (formB ⟨2, value, shift, index, lag, gain, part, rice, data⟩ n d)) ∧ Below w.heap.size w w' := by
  have HF : Hid (formB ⟨2, value, shift, index, lag, gain, part, rice, data⟩ n d = 2) := by
    show _ = _
    unfold formB; rw [h]; simp [wrongKind, wrongMore]
  have HB := fun o => Lib.hid (box_below w o)
  unfold wrongData at h
  unfold blkV
  dsimp only at *
  generalize index.length = il
  generalize rice.length = rl
  generalize data.length = dl at *
  by_cases c1 : value = 0
  · have u1 : (value != 0) = false := by rw [c1]; rfl
    have u2 : ((dl : Int) != (n : Int)) = true := by
      rw [bne_iff_ne]
      intro h2
      simp [c1, h2] at h
    clear h c1
    go_enter Tryz.func26, Tryz.ntmps26
    go_wp2
    go_ret
    exact ⟨by rw [HF.out]; rfl, (HB _).out⟩
  · have u1 : (value != 0) = true := bne_iff_ne.2 c1
    clear h c1
    go_enter Tryz.func26, Tryz.ntmps26
    go_wp2
    go_ret
    exact ⟨by rw [HF.out]; rfl, (HB _).out⟩

theorem two_zero {value n : Int} {shift lag gain part : Int} {index rice data : List Int} (h : wrongData ⟨2, value, shift, index, lag, gain, part, rice, data⟩ n = false) : value = 0 ∧ (data.length : Int) = n := by
  unfold wrongData at h
  simp at h
  exact h

set_option maxHeartbeats 6400000 in
theorem rForm_two (value shift lag gain part : Int) (index rice data : List Int) (ia ra da : Option Addr) (ic rc dc : Nat) (n m : Nat) (w : World) (hn1 : 1 ≤ n) (hn : n ≤ 1024) (hI : BlkIn w ⟨2, value, shift, index, lag, gain, part, rice, data⟩ ia ra da ic rc dc) :
    Calls Tryz.prog 26 #[blkV ⟨2, value, shift, index, lag, gain, part, rice, data⟩ ia ra da ic rc dc, .int .i64 n, .int .i64 m] w fun e w' => e = .returned (.int .i64 (formB ⟨2, value, shift, index, lag, gain, part, rice, data⟩ n m)) ∧ Below w.heap.size w w' := by
  cases hwd : wrongData ⟨2, value, shift, index, lag, gain, part, rice, data⟩ n with
  | true => exact rForm_two_data value shift lag gain part index rice data ia ra da ic rc dc n m w hwd
  | false =>
    obtain ⟨rfl, hdn⟩ := two_zero hwd
    obtain rfl : n = data.length := by omega
    have HFF : Hid (formB ⟨2, 0, shift, index, lag, gain, part, rice, data⟩ data.length m = if wrongNormal ⟨2, 0, shift, index, lag, gain, part, rice, data⟩ data.length m then 2 else 0) := by
      show _ = _
      unfold formB
      rw [hwd]
      simp [wrongKind, wrongMore]
    have hbx := box_below w (.cells #[.int .i64 2, .int .i64 0, .int .i64 shift, .slice ia index.length ic, .int .i64 lag, .int .i64 gain, .int .i64 part, .slice ra rice.length rc, .slice da data.length dc] 24)
    have HB := Lib.hid hbx
    obtain ⟨w0, hw0⟩ : ∃ w0, w0 = w.alloc (.cells #[.int .i64 2, .int .i64 0, .int .i64 shift, .slice ia index.length ic, .int .i64 lag, .int .i64 gain, .int .i64 part, .slice ra rice.length rc, .slice da data.length dc] 24) := ⟨_, rfl⟩
    have hn := World.alloc_heap_new w (.cells #[.int .i64 2, .int .i64 0, .int .i64 shift, .slice ia index.length ic, .int .i64 lag, .int .i64 gain, .int .i64 part, .slice ra rice.length rc, .slice da data.length dc] 24)
    rw [← hw0] at HB hn
    have hI0 := hI.below HB.out
    have HG := Lib.hid (Fx.rGood ia ic index w0 (by have := hI.il; simp only at this; omega) hI0.i)
    have HT := Lib.hid (Gx.rGood lag gain w0)
    have HPA := Lib.hid (rParts ⟨2, 0, shift, index, lag, gain, part, rice, data⟩ ia ra da ic rc dc w0)
    have HGD : Hid (∀ W, Below w0.heap.size w0 W → Calls Tryz.prog 57 #[.int .i64 data.length, .agg #[.int .i64 part, .slice ra rice.length rc]] W fun e w' => e = .returned (.bool (partsOk data.length part rice)) ∧ Below W.heap.size W w') := fun W hW => refGood data.length part ra rc rice W (by omega) (by have := hI.rl; simp only at this; omega) (hI0.r.below hW)
    have HLI : Hid (∀ W, Below w0.heap.size w0 W → Calls Tryz.prog 58 #[.slice da data.length dc] W fun e w' => e = .returned (.bool (listOk data)) ∧ W = w') := fun W hW => refList da dc data W (by omega) (hI0.d.below hW)
    have K : Hid (∀ W, Below w0.heap.size w0 W → ∀ j v, (#[.int .i64 2, .int .i64 0, .int .i64 shift, .slice ia index.length ic, .int .i64 lag, .int .i64 gain, .int .i64 part, .slice ra rice.length rc, .slice da data.length dc] : Array Value)[j]? = some v → W.cell? ⟨w.heap.size, j, none⟩ = some v) := fun W hW j v hj => by
      rw [hW.cell (p := ⟨w.heap.size, j, none⟩) (Array.getElem?_eq_some_iff.1 hn).1, cell_of_heap hn]
      exact hj
    have hWN : wrongNormal ⟨2, 0, shift, index, lag, gain, part, rice, data⟩ data.length m = (decide (shift < 0) || decide ((m : Int) ≤ shift) || !goodL index || !goodT lag gain || !partsOk data.length part rice || !listOk data) := by
      unfold wrongNormal
      simp
    rw [hWN] at HFF
    unfold blkV at HPA ⊢
    dsimp only at HPA ⊢
    have HW0 := Lib.hid hw0
    generalize partsOk data.length part rice = ok3 at *
    generalize listOk data = ok4 at *
    generalize goodL index = ok1 at *
    generalize goodT lag gain = ok2 at *
    generalize index.length = il at *
    generalize rice.length = rl at *
    obtain ⟨dl, hdl⟩ : ∃ dl, dl = data.length := ⟨_, rfl⟩
    rw [← hdl] at hn1 HGD HLI HPA K HW0 HFF ⊢
    clear hwd hdn hbx hw0 hn hI hI0 hWN hdl
    by_cases c1 : shift < 0
    · have u1 : decide (shift < 0) = true := decide_eq_true c1
      rw [u1, if_pos (by simp)] at HFF
      clear c1
      go_enter Tryz.func26, Tryz.ntmps26
      go_wp2
      go_ret
      rw [← HW0.out]
      exact ⟨by rw [HFF.out]; rfl, HB.out⟩
    · have u1 : decide (shift < 0) = false := decide_eq_false c1
      by_cases c2 : (m : Int) ≤ shift
      · have u2 : decide ((m : Int) ≤ shift) = true := decide_eq_true c2
        rw [u2, if_pos (by simp)] at HFF
        clear c1 c2
        go_enter Tryz.func26, Tryz.ntmps26
        go_wp2
        go_ret
        rw [← HW0.out]
        exact ⟨by rw [HFF.out]; rfl, HB.out⟩
      · have u2 : decide ((m : Int) ≤ shift) = false := decide_eq_false c2
        rw [u1, u2] at HFF
        clear c1 c2
        cases ok1 with
        | false =>
          rw [if_pos (by simp)] at HFF
          go_enter Tryz.func26, Tryz.ntmps26
          go_wp2_with fail
          rw [← HW0.out]
          refine HG.out.mono ?_
          rintro e w1 ⟨rfl, rfl⟩
          go_wp2
          go_ret
          exact ⟨by rw [HFF.out]; rfl, HB.out⟩
        | true =>
          cases ok2 with
          | false =>
            rw [if_pos (by simp)] at HFF
            have k4 := K.out w0 (Below.refl _ _) 4 _ rfl
            have k5 := K.out w0 (Below.refl _ _) 5 _ rfl
            go_enter Tryz.func26, Tryz.ntmps26
            go_wp2_with fail
            rw [← HW0.out]
            refine HG.out.mono ?_
            rintro e w1 ⟨rfl, rfl⟩
            go_wp2_with fail
            refine HT.out.mono ?_
            rintro e w1 ⟨rfl, rfl⟩
            go_wp2
            go_ret
            exact ⟨by rw [HFF.out]; rfl, HB.out⟩
          | true =>
            have k0 := K.out w0 (Below.refl _ _) 0 _ rfl
            have k1 := K.out w0 (Below.refl _ _) 1 _ rfl
            have k2 := K.out w0 (Below.refl _ _) 2 _ rfl
            have k3 := K.out w0 (Below.refl _ _) 3 _ rfl
            have k4 := K.out w0 (Below.refl _ _) 4 _ rfl
            have k5 := K.out w0 (Below.refl _ _) 5 _ rfl
            have k6 := K.out w0 (Below.refl _ _) 6 _ rfl
            have k7 := K.out w0 (Below.refl _ _) 7 _ rfl
            have k8 := K.out w0 (Below.refl _ _) 8 _ rfl
            go_enter Tryz.func26, Tryz.ntmps26
            go_wp2_with fail
            rw [← HW0.out]
            refine HG.out.mono ?_
            rintro e w1 ⟨rfl, rfl⟩
            go_wp2_with fail
            refine HT.out.mono ?_
            rintro e w1 ⟨rfl, rfl⟩
            go_wp2_with fail
            refine HPA.out.mono ?_
            rintro e w1 ⟨rfl, hb1⟩
            have HB1 := Lib.hid hb1
            have HG1 := Lib.hid (HGD.out w1 hb1)
            clear hb1 k0 k1 k2 k3 k4 k5 k6 k7 k8
            cases ok3 with
            | false =>
              rw [if_pos (by simp)] at HFF
              go_wp2_with fail
              refine HG1.out.mono ?_
              rintro e w2 ⟨rfl, hb2⟩
              have HB2 := Lib.hid (HB.out.trans ((HB1.out.trans (hb2.mono HB1.out.size)).mono HB.out.size))
              clear hb2
              go_wp2
              go_ret
              exact ⟨by rw [HFF.out]; rfl, HB2.out⟩
            | true =>
              go_wp2_with fail
              refine HG1.out.mono ?_
              rintro e w2 ⟨rfl, hb2⟩
              have hb02 := HB1.out.trans (hb2.mono HB1.out.size)
              have HB2 := Lib.hid (HB.out.trans (hb02.mono HB.out.size))
              have k8 := K.out w2 hb02 8 _ rfl
              have HL2 := Lib.hid (HLI.out w2 hb02)
              clear hb2 hb02
              cases ok4 with
              | false =>
                rw [if_pos (by simp)] at HFF
                go_wp2_with fail
                refine HL2.out.mono ?_
                rintro e w3 ⟨rfl, rfl⟩
                go_wp2
                go_ret
                exact ⟨by rw [HFF.out]; rfl, HB2.out⟩
              | true =>
                rw [if_neg (by simp)] at HFF
                go_wp2_with fail
                refine HL2.out.mono ?_
                rintro e w3 ⟨rfl, rfl⟩
                go_wp2
                go_ret
                exact ⟨by rw [HFF.out]; rfl, HB2.out⟩

theorem more_no {b : Blk} (h : wrongMore b = false) : b.kind = 2 ∨ (b.shift = 0 ∧ b.index = [] ∧ b.lag = 0 ∧ b.gain = 0 ∧ b.part = 0 ∧ b.rice = []) := by
  unfold wrongMore at h
  by_cases h2 : b.kind = 2
  · exact .inl h2
  · right
    simp [h2] at h
    obtain ⟨⟨⟨⟨⟨a1, a2⟩, a3⟩, a4⟩, a5⟩, a6⟩ := h
    exact ⟨a1, a2, a3, a4, a5, a6⟩
/-- What is wrong with a block's form: the document's. -/
theorem rForm (b : Blk) (ia ra da : Option Addr) (ic rc dc : Nat) (n m : Nat) (w : World) (hn1 : 1 ≤ n) (hn : n ≤ 1024) (hI : BlkIn w b ia ra da ic rc dc) :
    Calls Tryz.prog 26 #[blkV b ia ra da ic rc dc, .int .i64 n, .int .i64 m] w fun e w' => e = .returned (.int .i64 (formB b n m)) ∧ Below w.heap.size w w' := by
  cases hk : wrongKind b with
  | true => exact rForm_kind b ia ra da ic rc dc n m w hk
  | false =>
    have hk3 : 0 ≤ b.kind ∧ b.kind ≤ 3 := by
      unfold wrongKind at hk
      simp at hk
      omega
    cases hm : wrongMore b with
    | true => exact rForm_more b ia ra da ic rc dc n m w hI.il hI.rl hk3 hm
    | false =>
      obtain ⟨kind, value, shift, index, lag, gain, part, rice, data⟩ := b
      rcases more_no hm with h2 | ⟨h1, h2, h3, h4, h5, h6⟩
      · obtain rfl : kind = 2 := h2
        exact rForm_two value shift lag gain part index rice data ia ra da ic rc dc n m w hn1 hn hI
      · by_cases hk2 : kind = 2
        · subst hk2
          exact rForm_two value shift lag gain part index rice data ia ra da ic rc dc n m w hn1 hn hI
        · obtain rfl : shift = 0 := h1
          obtain rfl : index = [] := h2
          obtain rfl : lag = 0 := h3
          obtain rfl : gain = 0 := h4
          obtain rfl : part = 0 := h5
          obtain rfl : rice = [] := h6
          simp only at hk3
          exact rForm_few kind value data ia ra da ic rc dc n m w hI.dl (by omega)
end Go.Proofs.YtefbakhhlonafaaGreat
end

section
namespace Go.Proofs.YtefbakhhlonafaaGreat
open Go.RowKit Go.Proofs Go.Proofs.PipeM Go.Proofs.PipeA Go.Proofs.BlkM Go.Proofs.BlkB
open Go.Proofs.LatM (goodL)
open Go.Proofs.LagM (goodT)
set_option maxRecDepth 100000

/-- Its numbers are numbers of 64 bits. -/
structure Wf9 (b : Blk) : Prop where
  v : In64 b.value
  s : In64 b.shift
  l : In64 b.lag
  g : In64 b.gain
  p : In64 b.part
theorem or5 {a b c d e : Int} (ha : In64 a) (hb : In64 b) (hc : In64 c) (hd : In64 d) (he : In64 e) : orI (orI (orI (orI a b) c) d) e = 0 ↔ a = 0 ∧ b = 0 ∧ c = 0 ∧ d = 0 ∧ e = 0 := by
  rw [or_zero (or_in _ _) he, or_zero (or_in _ _) hd, or_zero (or_in _ _) hc, or_zero ha hb]
  constructor
  · rintro ⟨⟨⟨⟨h1, h2⟩, h3⟩, h4⟩, h5⟩; exact ⟨h1, h2, h3, h4, h5⟩
  · rintro ⟨h1, h2, h3, h4, h5⟩; exact ⟨⟨⟨⟨h1, h2⟩, h3⟩, h4⟩, h5⟩
theorem in64_zero : In64 0 := ⟨by decide, by decide⟩
/-- Is there what a block of its Kind hasn't? -/
def moreN (v s a g p : Int) (n : Nat) : Bool := (orI (orI (orI (orI v s) a) g) p != 0) || decide (0 < n)
def moreB (b : Blk) : Bool :=
  if b.kind = 1 then moreN 0 b.shift b.lag b.gain b.part (b.index.length + b.rice.length + b.data.length)
  else if b.kind = 2 then decide (b.value ≠ 0)
  else if b.kind = 3 then moreN b.value b.shift b.lag b.gain b.part (b.index.length + b.rice.length)
  else moreN b.value b.shift b.lag b.gain b.part (b.index.length + b.rice.length + b.data.length)

set_option maxHeartbeats 1600000 in
theorem cHasMore (b : Blk) (ia ra da : Option Addr) (ic rc dc : Nat) (w : World) (hw : Wf9 b) (hil : b.index.length ≤ 1000000) (hrl : b.rice.length ≤ 1000000) (hdl : b.data.length ≤ 1000000) (hk : b.kind = 0 ∨ b.kind = 1 ∨ b.kind = 2 ∨ b.kind = 3) :
    Calls Tryz.prog 93 #[blkV b ia ra da ic rc dc] w fun e w' => e = .returned (.bool (moreB b)) ∧ Below w.heap.size w w' := by
  have hz := hw.v
  obtain ⟨kind, value, shift, index, lag, gain, part, rice, data⟩ := b
  have HB : Hid (∀ o, Below w.heap.size w (w.alloc o)) := fun o => box_below w o
  unfold blkV
  unfold moreB moreN
  clear hw
  dsimp only at *
  generalize index.length = il at *
  generalize rice.length = rl at *
  generalize data.length = dl at *
  rcases hk with rfl | rfl | rfl | rfl
  · rw [if_neg (by decide), if_neg (by decide), if_neg (by decide)]
    obtain ⟨x1, hx1⟩ : ∃ x, bits BinOp.or IntKind.i64 value shift = x := ⟨_, rfl⟩
    obtain ⟨x2, hx2⟩ : ∃ x, bits BinOp.or IntKind.i64 x1 lag = x := ⟨_, rfl⟩
    obtain ⟨x3, hx3⟩ : ∃ x, bits BinOp.or IntKind.i64 x2 gain = x := ⟨_, rfl⟩
    obtain ⟨x4, hx4⟩ : ∃ x, bits BinOp.or IntKind.i64 x3 part = x := ⟨_, rfl⟩
    unfold orI
    rw [hx1, hx2, hx3, hx4]
    have HT : Hid (decide (0 < wrap64 (wrap64 ((il : Int) + (rl : Int)) + (dl : Int))) = decide (0 < il + rl + dl)) := by
      show _ = _
      rw [show wrap64 ((il : Int) + (rl : Int)) = (il : Int) + (rl : Int) from IntWalk.wrap64_in _ (by omega), IntWalk.wrap64_in _ (by omega)]
      exact decide_eq_decide.2 (by omega)
    clear hil hrl hdl
    cases t1 : (x4 != 0) with
    | true =>
      go_enter Tryz.func93, Tryz.ntmps93
      go_wp2
      go_ret
      exact ⟨rfl, HB.out _⟩
    | false =>
      go_enter Tryz.func93, Tryz.ntmps93
      go_wp2
      go_ret
      exact ⟨congrArg (fun x => Ending.returned (Value.bool x)) HT.out, HB.out _⟩
  · rw [if_pos rfl]
    obtain ⟨x1, hx1⟩ : ∃ x, bits BinOp.or IntKind.i64 0 shift = x := ⟨_, rfl⟩
    obtain ⟨x2, hx2⟩ : ∃ x, bits BinOp.or IntKind.i64 x1 lag = x := ⟨_, rfl⟩
    obtain ⟨x3, hx3⟩ : ∃ x, bits BinOp.or IntKind.i64 x2 gain = x := ⟨_, rfl⟩
    obtain ⟨x4, hx4⟩ : ∃ x, bits BinOp.or IntKind.i64 x3 part = x := ⟨_, rfl⟩
    unfold orI
    rw [hx1, hx2, hx3, hx4]
    have HT : Hid (decide (0 < wrap64 (wrap64 ((il : Int) + (rl : Int)) + (dl : Int))) = decide (0 < il + rl + dl)) := by
      show _ = _
      rw [show wrap64 ((il : Int) + (rl : Int)) = (il : Int) + (rl : Int) from IntWalk.wrap64_in _ (by omega), IntWalk.wrap64_in _ (by omega)]
      exact decide_eq_decide.2 (by omega)
    clear hil hrl hdl
    cases t1 : (x4 != 0) with
    | true =>
      go_enter Tryz.func93, Tryz.ntmps93
      go_wp2
      go_ret
      exact ⟨rfl, HB.out _⟩
    | false =>
      go_enter Tryz.func93, Tryz.ntmps93
      go_wp2
      go_ret
      exact ⟨congrArg (fun x => Ending.returned (Value.bool x)) HT.out, HB.out _⟩
  · rw [if_neg (by decide), if_pos rfl]
    have hx1 : bits BinOp.or IntKind.i64 value 0 = value := or_nought hz
    clear hil hrl hdl hz
    by_cases h0 : value = 0
    · have HT : Hid (decide (value ≠ 0) = false) := decide_eq_false (by omega)
      have t1 : (value != 0) = false := bne_eq_false_iff_eq.2 h0
      rw [HT.out]
      clear h0
      go_enter Tryz.func93, Tryz.ntmps93
      go_wp2
      go_ret
      exact ⟨rfl, HB.out _⟩
    · have HT : Hid (decide (value ≠ 0) = true) := decide_eq_true h0
      have t1 : (value != 0) = true := bne_iff_ne.2 h0
      rw [HT.out]
      clear h0
      go_enter Tryz.func93, Tryz.ntmps93
      go_wp2
      go_ret
      exact ⟨rfl, HB.out _⟩
  · rw [if_neg (by decide), if_neg (by decide), if_pos rfl]
    obtain ⟨x1, hx1⟩ : ∃ x, bits BinOp.or IntKind.i64 value shift = x := ⟨_, rfl⟩
    obtain ⟨x2, hx2⟩ : ∃ x, bits BinOp.or IntKind.i64 x1 lag = x := ⟨_, rfl⟩
    obtain ⟨x3, hx3⟩ : ∃ x, bits BinOp.or IntKind.i64 x2 gain = x := ⟨_, rfl⟩
    obtain ⟨x4, hx4⟩ : ∃ x, bits BinOp.or IntKind.i64 x3 part = x := ⟨_, rfl⟩
    unfold orI
    rw [hx1, hx2, hx3, hx4]
    have HT : Hid (decide (0 < wrap64 (wrap64 ((il : Int) + (rl : Int)))) = decide (0 < il + rl)) := by
      show _ = _
      rw [show wrap64 ((il : Int) + (rl : Int)) = (il : Int) + (rl : Int) from IntWalk.wrap64_in _ (by omega), IntWalk.wrap64_in _ (by omega)]
      exact decide_eq_decide.2 (by omega)
    clear hil hrl hdl
    cases t1 : (x4 != 0) with
    | true =>
      go_enter Tryz.func93, Tryz.ntmps93
      go_wp2
      go_ret
      exact ⟨rfl, HB.out _⟩
    | false =>
      go_enter Tryz.func93, Tryz.ntmps93
      go_wp2
      go_ret
      exact ⟨congrArg (fun x => Ending.returned (Value.bool x)) HT.out, HB.out _⟩

/-- Is what a block's Kind has as it must be? -/
def formedB (b : Blk) (n : Nat) (d : Int) : Bool :=
  if b.kind = 2 then shiftB d b.shift && goodL b.index && goodT b.lag b.gain && decide (b.data.length = n) && decide (0 < slideLen b.data b.part b.rice)
  else if b.kind = 3 then decide (b.data.length = n)
  else true

set_option maxHeartbeats 800000 in
theorem cTermOf (b : Blk) (ia ra da : Option Addr) (ic rc dc : Nat) (w : World) :
    Calls Tryz.prog 65 #[blkV b ia ra da ic rc dc] w fun e w' => e = .returned (.agg #[.int .i64 b.lag, .int .i64 b.gain]) ∧ Below w.heap.size w w' := by
  have HB := fun o1 o2 => Lib.hid (below2 w o1 o2)
  obtain ⟨kind, value, shift, index, lag, gain, part, rice, data⟩ := b
  unfold blkV
  dsimp only
  generalize index.length = il
  generalize rice.length = rl
  generalize data.length = dl
  go_enter Tryz.func65, Tryz.ntmps65
  go_wp2
  refine bodyPost_ret (v := .agg #[.int .i64 lag, .int .i64 gain]) (by simp [results, Tryz.results65, go_sem]) rfl ?_
  exact ⟨rfl, (HB _ _).out⟩
set_option maxHeartbeats 800000 in
theorem cPartsOf (b : Blk) (ia ra da : Option Addr) (ic rc dc : Nat) (w : World) :
    Calls Tryz.prog 67 #[blkV b ia ra da ic rc dc] w fun e w' => e = .returned (.agg #[.int .i64 b.part, .slice ra b.rice.length rc]) ∧ Below w.heap.size w w' := by
  have HB := fun o1 o2 => Lib.hid (below2 w o1 o2)
  obtain ⟨kind, value, shift, index, lag, gain, part, rice, data⟩ := b
  unfold blkV
  dsimp only
  generalize index.length = il
  generalize rice.length = rl
  generalize data.length = dl
  go_enter Tryz.func67, Tryz.ntmps67
  go_wp2
  refine bodyPost_ret (v := .agg #[.int .i64 part, .slice ra rl rc]) (by simp [results, Tryz.results67, go_sem]) rfl ?_
  exact ⟨rfl, (HB _ _).out⟩
end Go.Proofs.YtefbakhhlonafaaGreat
end
