import Derived.Test.YtefbakhhlonafaaGreatFxLatC3
import Derived.RangeFuncNested
import Derived.RangeFuncBound
import Derived.RangeFuncCalls
import Derived.RangeFuncLeaves
import Derived.Shelf.Abstract
import Derived.WalkKit
import Derived.OwnWalkIn
import Derived.TacticsInMore
import Derived.LoopNIn
import Derived.LoopIn
import Derived.Deep.AppendLies
import Derived.Deep.RegionHeld3

section
namespace Go.Proofs.YtefbakhhlonafaaGreat.Fx
open Go.RowKit Go.Proofs Go.Proofs.PipeA Go.Proofs.LatM
set_option maxRecDepth 100000

/-- The reflections of a list. -/
def reflV (l : List Int) : List Int := (List.range l.length).map (fun j => refl j (l.getD j 0))
theorem reflV_length (l : List Int) : (reflV l).length = l.length := by simp [reflV]
theorem reflV_get {l : List Int} {j : Nat} (h : j < l.length) : (reflV l).getD j 0 = refl j l[j] := by
  rw [getD_at (by rw [reflV_length]; exact h)]
  unfold reflV
  simp only [List.getElem_map, List.getElem_range]
  rw [getD_at h]

set_option maxHeartbeats 1600000 in
theorem cReflect (ao : Option Addr) (cap : Nat) (l : List Int) (w : World) (hgd : goodL l = true) (hi : IntsAt w ao l) :
    Calls Tryz.prog 142 #[.slice ao l.length cap] w (NewIs (reflV l) w) := by
  have hl16 := good_len hgd
  obtain ⟨cs, hcs, hmk⟩ := makeInts l.length (by omega)
  have HGD := Lib.hid hgd
  have HI := Lib.hid hi
  have HRF := fun p i W hp hi => Lib.hid (cReflectionOf p i W hp hi)
  have HC := Lib.hid (cGood ao cap l w (by omega) hi)
  rw [hgd] at HC
  have HK := Lib.hid (keys_new (w := w) (reflV l) hcs)
  have HB := Lib.hid (box_below w (.cells cs 3))
  clear hi hgd hcs
  go_enter Tryz.func142, Tryz.ntmps142
  go_wp2_with fail
  refine HC.out.mono ?_
  rintro e w1 ⟨rfl, rfl⟩
  go_wp2
  go_loopg [4, 5, 14] l.length (fun gk q1 q2 i wr => ∃ j : Nat, j ≤ l.length ∧ gk + j = l.length ∧ i = .int .i64 j ∧ Hid (KeysAt wr w.heap.size l.length (fillV (reflV l) j)) ∧ Hid (Below w.heap.size w wr) ∧ w.heap.size < wr.heap.size)
  case atStart => exact ⟨0, Nat.zero_le _, by omega, rfl, HK, HB, by simp⟩
  case round =>
    obtain ⟨j, hjc, hgk, rfl, HKA, HW, hsz⟩ := hrel
    have HGK := Lib.hid hgk
    clear hgk
    by_cases hlt : j < l.length
    · obtain ⟨g, off, rfl, hg, hcell⟩ := (HI.out.below HW.out) j hlt
      have hix := good_at HGD.out hlt
      have HR := fun W => HRF j l[j] W (by omega) hix
      have HS := Lib.hid (reflV_get hlt)
      generalize refl j l[j] = k at HR HS
      generalize l[j] = x at hcell HR hix
      obtain ⟨kc, kf⟩ := HKA.out j hlt
      clear hg hix
      go_wp2_with fail
      refine (HR _).out.mono ?_
      rintro e w1 ⟨rfl, rfl⟩
      go_wp2
      go_roundg (gk - 1)
      case rel => exact ⟨j + 1, by omega, by have := HGK.out; omega, by go_num, keys_step HKA.out hlt HS.out.symm, HW.out.setCell (p := ⟨w.heap.size, j, none⟩) (Nat.le_refl _) _, by simpa using hsz⟩
      case measure => have := HGK.out; omega
    · obtain rfl : j = l.length := by omega
      have HF : Hid (NewIs (reflV l) w (.returned (.slice (some ⟨w.heap.size, 0, none⟩) l.length l.length)) wr) :=
        ⟨w.heap.size, by rw [reflV_length], keys_ints HKA.out (reflV_length l) rfl hsz, Nat.le_refl _, hsz, HW.out⟩
      go_wp2
      go_ret
      exact HF.out

/-- A copy of numbers, in new memory that may be written. -/
theorem run_copyW {w : World} {g : Nat} {a : Addr} {cap ty : Nat} {l : List Int} (hg : w.heap[g]? = some (.cells #[] 3)) (hl : l.length ≤ 100000) (h : IntsAt w (some a) l) :
    ∃ g' cap' w', (Builtin.append_ #[22, 22] ty #[.slice (some ⟨g, 0, none⟩) 0 0, .slice (some a) l.length cap]).run Tryz.prog w = .ok (.slice (some ⟨g', 0, none⟩) l.length cap') w' ∧
      IntsAt w' (some ⟨g', 0, none⟩) l ∧ (∃ cur, w'.heap[g']? = some (.cells cur 3)) ∧ g ≤ g' ∧ g' < w'.heap.size ∧ l.length ≤ cap' ∧ Below g w w' := by
  have hown : w.ownsRow g 3 1 (.slice (some ⟨g, 0, none⟩) 0 0) 0 [] := ⟨rfl, .inr ⟨g, 0, #[], rfl, Nat.le_refl _, hg, Nat.le_refl _, by unfold maxLen; omega, rfl, rfl⟩⟩
  have hlt : g < w.heap.size := (Array.getElem?_eq_some_iff.1 hg).1
  obtain ⟨i0, hi, hz0, hz1, hz2⟩ := info_parts info_int
  obtain ⟨v', w', hr, h2, h3, h4⟩ := run_append_own (P := Tryz.prog) w g 22 ty 3 i0 (.int .i64 0) 1 8 Tryz.underlying22 hi hz0 hz1 hz2 rfl (by decide) (.slice (some ⟨g, 0, none⟩) 0 0) 0 [] hown a l.length cap (intsOf l) (by simp [intsOf]) (icells_at h) (icells_one l) (by unfold maxLen; omega) (by omega) (by omega)
  rw [Nat.zero_add, List.nil_append] at h2
  rcases h2.2 with ⟨rfl, h0⟩ | ⟨g', cap', cur, rfl, _, hh, r⟩
  · exact absurd (h4.1 rfl).1 (by simp)
  · have ho := own_lt h2
    exact ⟨g', cap', w', hr, ints_own h2, ⟨cur, hh⟩, ho.1, ho.2.1, ho.2.2.1, (Below.refl g w).grown h3 (by omega) (by intro x hx; simp [Value.ownBlock] at hx; omega)⟩

/-- Numbers in new memory that may be written. -/
def CopyIs (l : List Int) (w : World) (e : Ending) (w' : World) : Prop :=
  ∃ H cap, e = .returned (.slice (some ⟨H, 0, none⟩) l.length cap) ∧ IntsAt w' (some ⟨H, 0, none⟩) l ∧ (∃ cur, w'.heap[H]? = some (.cells cur 3)) ∧ l.length ≤ cap ∧ w.heap.size ≤ H ∧ H < w'.heap.size ∧ Below w.heap.size w w'

set_option maxHeartbeats 800000 in
theorem cClone (a : Addr) (cap : Nat) (l : List Int) (w : World) (hl : l.length ≤ 100000) (hi : IntsAt w (some a) l) :
    Calls Tryz.prog 96 #[.slice (some a) l.length cap] w (CopyIs l w) := by
  have hb := box_below w (.cells #[] 3)
  obtain ⟨g', cap', w', hrun, h1, h2, h3, h4, hcp, h5⟩ := run_copyW (ty := 22) (cap := cap) (World.alloc_heap_new w (.cells #[] 3)) hl (hi.below hb)
  have HF : Hid (CopyIs l w (.returned (.slice (some ⟨g', 0, none⟩) l.length cap')) w') := ⟨g', cap', rfl, h1, h2, hcp, h3, h4, hb.trans h5⟩
  have hne : ∀ W, (binOp .eql 22 (.slice (some a) l.length cap) (.slice none 0 0)).run Tryz.prog W = .ok (.bool false) W := fun W => by
    have := run_equal_slice_nil (P := Tryz.prog) W 22 3 (some a) l.length cap Tryz.underlying22
    simp only [binOp]
    simp [this]
  clear hi hb h1 h2 h3 h4 h5 hcp
  go_enter Tryz.func96, Tryz.ntmps96
  go_wp2_with (at_builtin; refine wpList_append_run rfl _ _ 22 rfl _ _ _ _ rfl rfl hrun ?_)
  go_ret
  exact HF.out

/-- The iterator over the steps: a box of the reflections. -/
structure StepsAt (w : World) (B H : Nat) (l : List Int) : Prop where
  box : w.heap[B]? = some (.cells #[.slice (some ⟨H, 0, none⟩) l.length l.length] 22)
  ints : IntsAt w (some ⟨H, 0, none⟩) (reflV l)
  lt : H < w.heap.size
def StepsIs (l : List Int) (w : World) (e : Ending) (w' : World) : Prop :=
  ∃ B H, e = .returned (.func (.func 143) #[] #[.pointer (some ⟨B, 0, none⟩)]) ∧ StepsAt w' B H l ∧ w.heap.size ≤ B ∧ w.heap.size ≤ H ∧ Below w.heap.size w w'

set_option maxHeartbeats 1600000 in
theorem cSteps (ao : Option Addr) (cap : Nat) (l : List Int) (w : World) (hgd : goodL l = true) (hi : IntsAt w ao l) :
    Calls Tryz.prog 139 #[.slice ao l.length cap] w (StepsIs l w) := by
  have hmf : ∀ (fn : Fn) (first cap : Array Value) (w : World), (Instr.makeFunc fn first cap).run Tryz.prog w = .ok (.func fn first cap) w := fun _ _ _ _ => rfl
  have hl16 := good_len hgd
  have HC := Lib.hid (cGood ao cap l w (by omega) hi)
  rw [hgd] at HC
  have HR := Lib.hid (cReflect ao cap l w hgd hi)
  clear hi hgd
  go_enter Tryz.func139, Tryz.ntmps139
  go_wp2_with fail
  refine HC.out.mono ?_
  rintro e w1 ⟨rfl, rfl⟩
  go_wp2_with fail
  refine HR.out.mono ?_
  rintro e w1 ⟨H, rfl, h1, h2, h3, h4⟩
  rw [reflV_length]
  have HF : Hid (StepsIs l w (.returned (.func (.func 143) #[] #[.pointer (some ⟨w1.heap.size, 0, none⟩)])) (w1.alloc (.cells #[.slice (some ⟨H, 0, none⟩) l.length l.length] 22))) :=
    ⟨_, H, rfl, ⟨World.alloc_heap_new _ _, h1.below (box_below _ _), by simp; omega⟩, h4.size, h2, h4.alloc h4.size _⟩
  clear h1 h2 h3 h4
  go_wp2
  go_ret
  simpa using HF.out
end Go.Proofs.YtefbakhhlonafaaGreat.Fx
end

section
namespace Go.Proofs.YtefbakhhlonafaaGreat.Fx
open Go.RowKit Go.Shelf Go.Proofs Go.Proofs.PipeA Go.Proofs.LatM
set_option maxRecDepth 100000

attribute [local go_sem] Oper.semAt_some

theorem cf_succ {l : List Int} {c : Nat} (h : c < l.length) : cf l (c + 1) = stp (cf l c) ((reflV l)[c]'(by rw [reflV_length]; exact h)) := by
  rw [cf]
  have := reflV_get h
  rw [getD_at (by rw [reflV_length]; exact h)] at this
  rw [this, getD_at h]
theorem refl_in {l : List Int} (hg : goodL l = true) {c : Nat} (h : c < l.length) : -16384 ≤ (reflV l)[c]'(by rw [reflV_length]; exact h) ∧ (reflV l)[c]'(by rw [reflV_length]; exact h) ≤ 16384 := by
  have := reflV_get h
  rw [getD_at (by rw [reflV_length]; exact h)] at this
  rw [this]
  exact refl_bound c (good_at hg h)
theorem cf_b30 {l : List Int} (hg : goodL l = true) {c : Nat} (h : c ≤ 16) : ∀ x ∈ cf l c, -1073741824 ≤ x ∧ x ≤ 1073741824 := fun x hx => by
  have := cf_small hg h x hx
  omega

/-- Where a slice's memory lies. -/
def From (n : Nat) (ao : Option Addr) : Prop := ∀ a, ao = some a → n ≤ a.block
end Go.Proofs.YtefbakhhlonafaaGreat.Fx
end

section
namespace Go.Proofs.YtefbakhhlonafaaGreat.Fx
open Go.RowKit Go.Shelf Go.Proofs Go.Proofs.PipeA Go.Proofs.LatM
set_option maxRecDepth 100000

attribute [local go_sem] Oper.semAt_some

/-- Where Coefs stands when a number of yields are done. -/
structure LastIs (W0 : World) (B L D : Nat) (r : Loop) (l : List Int) (j : Nat) (W : World) : Prop where
  loop : W.heap[L]? = some (.loop r)
  mark : W.heap[D]? = some (.deferred (some []))
  last : ∃ ao cap, W.heap[B]? = some (.cells #[.slice ao (j - 1) cap] 22) ∧ IntsAt W ao (cf l (j - 1)) ∧ From W0.heap.size ao ∧ j - 1 ≤ cap
  keeps : Keeps [B, L] W0 W
theorem LastIs.below {W0 A C : World} {B L D j : Nat} {r : Loop} {l : List Int} (h : LastIs W0 B L D r l j A) (hb : Below A.heap.size A C) : LastIs W0 B L D r l j C := by
  obtain ⟨ao, cap, h1, h2, h3, h4⟩ := h.last
  exact ⟨(hb.block L (Array.getElem?_eq_some_iff.1 h.loop).1).trans h.loop, (hb.block D (Array.getElem?_eq_some_iff.1 h.mark).1).trans h.mark, ⟨ao, cap, (hb.block B (Array.getElem?_eq_some_iff.1 h1).1).trans h1, h2.below hb, h3, h4⟩, h.keeps.trans (keeps_of_below hb _)⟩
theorem keeps_putObj (w : World) (b : Nat) (o : Obj) : Keeps [b] w (w.putObj b o) :=
  ⟨rfl, rfl, rfl, by simp, fun k _ hn => World.putObj_heap_other (fun e => hn (by simp [e]))⟩
theorem Keeps.wide {bs cs : List Nat} {w w' : World} (h : Keeps bs w w') (hs : ∀ x ∈ bs, x ∈ cs) : Keeps cs w w' := ⟨h.os, h.tape, h.output, h.size, fun k hk hn => h.block k hk (fun hc => hn (hs k hc))⟩
theorem box_set {W : World} {B : Nat} {x : Value} (v : Value) {t : TypeId} (h : W.heap[B]? = some (.cells #[x] t)) : (W.setCell ⟨B, 0, none⟩ v).heap[B]? = some (.cells #[v] t) := by
  simp only [World.setCell, Array.getElem?_modify, if_pos, h]
  rfl

/-- Only the normal way on. -/
def OnlyN (R : Act → World → Prop) : Exit → Act → World → Prop
  | .normal, a, w => R a w
  | _, _, _ => False

/-- A loop over a function, entered: what its record is, and that the function is called. -/
theorem range_told {F : Fence} {n : Nat} {P : Program} {g : Operand} {ps : Array Tmp} {assign body : Code} {Q : Exit → Act → World → Prop} {a : Act} {w : World} (hro : F.round = none) (h1 : 1 ≤ n) {gf : Nat} {lb : Array Value}
    (hg : a.eval g = .func (.func gf) #[] lb) (hFg : F.fn gf) (eg : ∀ args w, (callFunc gf args).run P w = .ok (.enter gf args) w)
    (h : ∀ (r : LoopState → Option Code → Loop) (fn : FuncId), F.fn fn → (r = fun st pe => { state := st, pending := pe, fn, tmps := a.tmps, params := ps, assign, body, defers := w.heap.size }) →
      CallsIn F (n - 1) P gf (#[.func (.yield (w.heap.size + 1)) #[] #[]] ++ lb) ((w.alloc (.deferred (some []))).alloc (.loop (r .ready none)))
        (rangePost F n P (w.heap.size + 1) Q { a with defers := { target := .collected w.heap.size, args := #[] } :: a.defers })) :
    (Code.rangeFunc g ps assign body).wpIn F n P Q a w := by
  refine wpIn_rangeFunc fun fn hfn => ?_
  rw [hro]
  refine ⟨_, _, _, { target := .fn (.func gf) lb, args := #[.func (.yield (w.heap.size + 1)) #[] #[]] }, (w.alloc (.deferred (some []))).alloc (.loop { state := .ready, pending := none, fn, tmps := a.tmps, params := ps, assign, body, defers := w.heap.size }), gf, _, _, run_enterLoop_outer _ _ _ _ _, ?_, ?_, ?_, fun _ => h1, h _ fn hfn rfl⟩
  · simp only [resolve, hg]
    simp [go_sem]
  · intro f' hf'
    simp [Target.leads] at hf'
    subst hf'
    exact hFg
  · simp [invoke, go_sem, eg]

/-- One round whose body goes on: the record is ready again. -/
theorem round_told {F : Fence} {m : Nat} {P : Program} {l : Nat} {fn : FuncId} {ps : Array Tmp} {assign body : Code} {tmps args : Array Value} {D : Nat} {r : LoopState → Option Code → Loop} {W : World} {R : Ending → World → Prop} (hfn : F.fn fn)
    (hr : r = fun st pe => { state := st, pending := pe, fn, tmps, params := ps, assign, body, defers := D }) (hl : W.heap[l]? = some (.loop (r .ready none))) (hps : args.size = ps.size)
    (h : assign.wpIn (F.inRound l) m P (Exit.then (fun a1 W1 => W1 = W ∧ body.wpIn (F.inRound l) m P (OnlyN fun _ W3 => W3.heap[l]? = some (.loop (r .busy none)) ∧ R (.returned (.bool true)) (W3.putObj l (.loop (r .ready none)))) a1 (W.putObj l (.loop (r .busy none)))) (fun _ _ _ => False))
      { tmps := (ps.zip args).foldl (fun t (p, v) => t.setIfInBounds p v) tmps, defers := [] } W) : YieldAt F m P l args W R := by
  have hy := run_yield (P := P) (args := args) hl (by rw [hr]; exact hps)
  rw [hr] at hy
  refine ⟨fn, _, assign, body, hy, roundIn_of_wpIn hfn (wpIn_mono h ?_)⟩
  rintro e a1 W1 hq
  cases e with
  | normal =>
    obtain ⟨rfl, hb⟩ := hq
    have hbr := run_beginRound (P := P) hl (by rw [hr])
    rw [show { r .ready none with state := .busy } = r .busy none by rw [hr]] at hbr
    refine ⟨_, hbr, wpIn_mono hb ?_⟩
    rintro e a3 W3 hq3
    cases e with
    | normal =>
      have her := run_endRound (P := P) none hq3.1
      exact ⟨_, _, her, by rw [hr]; rw [hr] at hq3; exact hq3.2⟩
    | _ => exact hq3.elim
  | _ => exact hq.elim

end Go.Proofs.YtefbakhhlonafaaGreat.Fx
end

section
namespace Go.Proofs.YtefbakhhlonafaaGreat.Fx
open Go.RowKit Go.Proofs Go.Proofs.PipeA Go.Proofs.LatM
set_option maxRecDepth 100000

theorem own_base {w : World} {base base' size n : Nat} {e : TypeId} {xs : List Value} {v : Value} (h : w.ownsRow base e size v n xs) (hb : base' ≤ base) : w.ownsRow base' e size v n xs := by
  refine ⟨h.1, ?_⟩
  rcases h.2 with h2 | ⟨g, cap, cur, h1, h2, r⟩
  · exact .inl h2
  · exact .inr ⟨g, cap, cur, h1, Nat.le_trans hb h2, r⟩
theorem cellA {W : World} {a : Addr} {v : Value} (o : Obj) (hlt : a.block < W.heap.size) (h : W.cell? a = some v) : (W.alloc o).cell? a = some v := ((box_below W o).cell (p := a) hlt).trans h
theorem intsOf_take {l : List Int} {j : Nat} (h : j < l.length) : intsOf (l.take (j + 1)) = intsOf (l.take j) ++ [.int .i64 l[j]] := by
  rw [List.take_succ_eq_append_getElem h]; unfold intsOf; rw [List.map_append]; rfl
theorem intsOf_last (l : List Int) {j : Nat} (h : l.length = j + 1) : intsOf (l.take j) ++ [.int .i64 l[j]] = intsOf l := by
  rw [← intsOf_take (by omega), ← h, List.take_length]
theorem stp_ints (a : List Int) (k : Int) {j : Nat} (h : a.length = j) : intsOf (stp a k) = intsOf ((stp a k).take j) ++ [.int .i64 k] := by
  subst h
  have h1 : a.length < (stp a k).length := by rw [stp_length]; omega
  have h2 := stp_last a k
  rw [getD_at h1] at h2
  rw [← intsOf_last (stp a k) (stp_length a k), h2]
theorem own_far {w : World} {base n size b : Nat} {e : TypeId} {xs : List Value} {v : Value} (h : w.ownsRow base e size v n xs) (hb : b < base) : some b ≠ v.ownBlock := by
  intro he
  have := (own_block_lt h b he.symm).1
  omega

/-- Numbers in memory of the call's own, or none. -/
def SomeIs (l : List Int) (w : World) (e : Ending) (w' : World) : Prop :=
  ∃ ao cap, e = .returned (.slice ao l.length cap) ∧ IntsAt w' ao l ∧ Below w.heap.size w w'

set_option maxHeartbeats 3200000 in
theorem rCoefs (ao : Option Addr) (cap : Nat) (l : List Int) (w : World) (hgd : goodL l = true) (hi : IntsAt w ao l) :
    Calls Tryz.prog 80 #[.slice ao l.length cap] w (SomeIs (cf l l.length) w) := by
  obtain ⟨i0, hii, hz0, hz1, hz2⟩ := info_parts info_int
  have hl16 := good_len hgd
  have HGD := Lib.hid hgd
  have HI := Lib.hid hi
  have HRF := fun p i W hp hi => Lib.hid (rReflection p i W hp hi)
  have HRD := fun p W h0 h1 => Lib.hid (rRound p W h0 h1)
  clear hi hgd
  go_enter Tryz.func80, Tryz.ntmps80
  go_wp2
  go_loopg [3, 4, 5, 6, 7, 10] l.length (fun gk va q4 q5 q6 q7 i wr => ∃ c : Nat, c ≤ l.length ∧ gk + c = l.length ∧ i = .int .i64 c ∧ wr.ownsRow w.heap.size 3 1 va c (intsOf (cf l c)) ∧ Hid (Below w.heap.size w wr))
  case atStart => exact ⟨0, Nat.zero_le _, by omega, rfl, World.ownsRow_nil _ _ _ _, Below.refl _ _⟩
  case round =>
    obtain ⟨c, hc, hgk, rfl, hown, HW⟩ := hrel
    have HGK := Lib.hid hgk
    clear hgk
    by_cases hlt : c < l.length
    · obtain ⟨b, off, rfl, hg, hcell⟩ := (HI.out.below HW.out) c hlt
      have hix := good_at HGD.out hlt
      have HR := fun W => HRF c l[c] W (by omega) hix
      have hkb := refl_bound c hix
      have HCF : Hid (cf l (c + 1) = stp (cf l c) (refl c l[c])) := by show _ = _; rw [cf, getD_at hlt]
      generalize refl c l[c] = k at HR hkb HCF
      generalize l[c] = x at hcell HR
      have hal := cf_length l c
      have HAB := Lib.hid (cf_small HGD.out (show c ≤ 16 by omega))
      generalize cf l c = a at hown HCF hal HAB
      obtain ⟨aao, acap, rfl, hag⟩ := own_slice hown
      have HIA : Hid (IntsAt wr aao a) := by subst hal; exact ints_own hown
      have HAL := Lib.hid hal
      have hsz := HW.out.size
      clear hg hown hag hal hix
      go_wp2_with (go_at_call 102; refine (HR _).out.mono ?_; rintro e w1 ⟨rfl, rfl⟩)
      obtain ⟨W1, rfl⟩ : ∃ W1, W1 = wr := ⟨_, rfl⟩
      obtain ⟨G1, rfl⟩ : ∃ G1, G1 = gk := ⟨_, rfl⟩
      go_loopg [6, 7, 21] c (fun gk vb q7 i wr => ∃ j : Nat, j ≤ c ∧ gk + j = c ∧ i = .int .i64 j ∧ wr.ownsRow W1.heap.size 3 1 vb j (intsOf ((stp a k).take j)) ∧ Hid (Below W1.heap.size W1 wr))
      case atStart => exact ⟨0, Nat.zero_le _, by omega, rfl, World.ownsRow_nil _ _ _ _, Below.refl _ _⟩
      case round =>
        obtain ⟨j, hj, hgk2, rfl, hown, HW2⟩ := hrel
        have HGK2 := Lib.hid hgk2
        clear hgk2
        have hsl := stp_length a k
        by_cases hltj : j < c
        · have hja : j < a.length := by have := HAL.out; omega
          obtain ⟨g, off2, rfl, hg, hcell2⟩ := HIA.out j hja
          obtain ⟨g', off', he, _, hcell3⟩ := HIA.out (a.length - 1 - j) (by omega)
          simp only [Option.some.injEq, Addr.mk.injEq, and_true] at he
          obtain ⟨rfl, rfl⟩ := he
          have hcx := HAB.out _ (List.getElem_mem hja)
          have hcy := HAB.out _ (List.getElem_mem (show a.length - 1 - j < a.length by omega))
          have HS := Lib.hid (stp_at (k := k) hja)
          have HST := Lib.hid (intsOf_take (show j < (stp a k).length by omega))
          have hq : (c : Int) - 1 - (j : Int) = ((a.length - 1 - j : Nat) : Int) := by have := HAL.out; omega
          have hq2 : a.length - 1 - j < c := by have := HAL.out; omega
          have HGE : Hid ((stp a k)[j]'(by omega) = (stp a k).getD j 0) := (getD_at _).symm
          generalize a[a.length - 1 - j] = y at hcell3 hcy HS
          generalize a[j] = xx at hcell2 hcx HS
          generalize a.length - 1 - j = q at hcell3 hq hq2
          have hky := mul_k hkb (show -1073741824 ≤ y ∧ y ≤ 1073741824 by omega)
          have hRD := fun W => HRD (k * y) W (by omega) (by omega)
          have hr : -2000000000 ≤ rnd (k * y) ∧ rnd (k * y) ≤ 2000000000 := by unfold rnd; omega
          have HNEW : Hid (intsOf ((stp a k).take (j + 1)) = intsOf ((stp a k).take j) ++ [.int .i64 (xx + rnd (k * y))]) := by show _ = _; rw [HST.out, HGE.out, HS.out]
          generalize rnd (k * y) = r at hRD hr HNEW
          have w1 : IntKind.i64.wrap ((c : Int) - 1) = ((c - 1 : Nat) : Int) := by rw [IntWalk.i64_in _ (by omega)]; omega
          have w2 : IntKind.i64.wrap (((c - 1 : Nat) : Int) - (j : Int)) = (q : Int) := by rw [IntWalk.i64_in _ (by omega)]; omega
          obtain ⟨ky, hkye⟩ : ∃ ky, ky = k * y := ⟨_, rfl⟩
          obtain ⟨xr, hxre⟩ : ∃ xr, xr = xx + r := ⟨_, rfl⟩
          have w3 : IntKind.i64.wrap (k * y) = ky := by rw [hkye]; exact IntWalk.i64_in _ (by omega)
          have w4 : IntKind.i64.wrap (xx + r) = xr := by rw [hxre]; exact IntWalk.i64_in _ (by omega)
          rw [← hkye] at hRD
          rw [← hxre] at HNEW
          clear hkye hxre hky hr
          have y2 := (HW2.out.cell (p := ⟨g, off2 + j, none⟩) hg).trans hcell2
          have y3 := (HW2.out.cell (p := ⟨g, off2 + q, none⟩) hg).trans hcell3
          have hgr : g < wr.heap.size := Nat.lt_of_lt_of_le hg HW2.out.size
          have HFAR := Lib.hid (own_far hown hg)
          have hsz2 := HW2.out.size
          clear hcell2 hcell3 HS HST HGE
          go_wp2_with fail
          go_region_held3 (fun w' => w'.cell? ⟨g, off2 + j, none⟩ = some (.int .i64 xx) ∧ w'.cell? ⟨g, off2 + q, none⟩ = some (.int .i64 y))
            (first
              | exact ⟨y2, y3⟩
              | exact ⟨cellA (a := ⟨g, off2 + j, none⟩) _ hgr y2, cellA (a := ⟨g, off2 + q, none⟩) _ hgr y3⟩
              | exact ⟨(hgrow.cell_far ⟨g, off2 + j, none⟩ (by simp; omega) HFAR.out).trans (cellA (a := ⟨g, off2 + j, none⟩) _ hgr y2), (hgrow.cell_far ⟨g, off2 + q, none⟩ (by simp; omega) HFAR.out).trans (cellA (a := ⟨g, off2 + q, none⟩) _ hgr y3)⟩
              | fail)
            (first
              | (go_at_call 101; refine (hRD _).out.mono ?_; rintro e w5 ⟨rfl, rfl⟩)
              | (refine step_append_lies _ (by rfl) _ _ 22 (by rfl) W1.heap.size 3 i0 (.int .i64 0) 1 8 Tryz.underlying22 hii hz0 hz1 hz2 rfl (by decide) _ j (intsOf ((stp a k).take j)) (by rfl) (hown.alloc (.cells #[.int .i64 xr] 3)) ⟨wr.heap.size, 0, none⟩ 1 1 [.int .i64 xr] (by rfl) (by rfl) (World.news_of_block (cs := #[.int .i64 xr]) (t := 3) (fr := (0, 0)) (World.alloc_heap_new _ _)) (by intro u hu; simp at hu; subst hu; rfl) (by omega) (by unfold maxLen; omega) (by omega) (by simp; omega) _ rfl ?_; intro g6 cap6 w6 hown6 hgrow hat hlt6)
              | fail)
          rw [← HNEW.out] at hown6
          have HW6 : Hid (Below W1.heap.size W1 w6) := (((HW2.out.trans ((keeps_drew_b wr []).below HW2.out.size (by simp))).trans ((box_below wr.drew (.cells #[.int .i64 xr] 3)).mono (show W1.heap.size ≤ wr.drew.heap.size from hsz2)))).grown hgrow (by simp; omega) (by intro x hx; exact (own_block_lt hown x hx).1)
          clear hgrow hat hlt6 hown
          go_wp2
          go_roundg (gk - 1)
          case rel => exact ⟨j + 1, by omega, by have := HGK2.out; omega, by go_num, hown6, HW6⟩
          case measure => have := HGK2.out; omega
        · obtain rfl : j = c := by omega
          have HLAST : Hid (intsOf (cf l (j + 1)) = intsOf ((stp a k).take j) ++ [.int .i64 k]) := by show _ = _; rw [HCF.out]; exact stp_ints a k HAL.out
          have hsz2 := HW2.out.size
          go_wp2_with (at_builtin; refine wpList_append_own2 _ rfl _ _ 22 rfl W1.heap.size 3 i0 (.int .i64 0) 1 8 Tryz.underlying22 hii hz0 hz1 hz2 rfl (by decide) _ _ _ rfl (hown.alloc _) ⟨wr.heap.size, 0, none⟩ 1 1 [.int .i64 k] rfl rfl ?c1 ?c2 ?c3 ?c4 ?c5 ?_)
          case c1 =>
            intro j u hj
            match j, hj with
            | 0, hj => simp at hj; subst hj; simp [Addr.add]
          case c2 => intro u hu; simp at hu; subst hu; rfl
          case c3 => unfold maxLen; omega
          case c4 => omega
          case c5 => simp; omega
          intro v' w4 hown' hgrow hat
          rw [← HLAST.out] at hown'
          have hown4 := own_base hown' hsz
          have HW4 : Hid (Below w.heap.size w w4) := HW.out.trans (((HW2.out.trans ((box_below wr (.cells #[.int .i64 k] 3)).mono hsz2)).grown hgrow (by simp; omega) (by intro x hx; exact (own_block_lt hown x hx).1)).mono hsz)
          clear hgrow hat hown hown'
          go_wp2
          go_roundg (G1 - 1)
          case rel => exact ⟨j + 1, by omega, by have := HGK.out; omega, by go_num, hown4, HW4⟩
          case measure => have := HGK.out; omega
    · obtain rfl : c = l.length := by omega
      obtain ⟨aao, acap, rfl, _⟩ := own_slice hown
      have HF : Hid (SomeIs (cf l l.length) w (.returned (.slice aao l.length acap)) wr) := ⟨aao, acap, by rw [cf_length], ints_own (cap := acap) (by rw [cf_length]; exact hown), HW.out⟩
      go_wp2
      go_ret
      exact HF.out
end Go.Proofs.YtefbakhhlonafaaGreat.Fx
end
