import Derived.Test.YtnfpkjnllkkngaaGreatDoorFxLatC3
import Derived.RangeFuncNested
import Derived.RangeFuncBound
import Derived.RangeFuncCalls
import Derived.RangeFuncLeaves
import Derived.Shelf.Abstract
import Derived.WalkKit
import Derived.OwnWalkIn
import Derived.TacticsInMore
import Derived.LoopNIn
import Derived.LoopIn

section
namespace Go.Proofs.YtnfpkjnllkkngaaGreatDoor.Fx
open Go.RowKit Go.Proofs Go.Proofs.PipeA Go.Proofs.LatM
set_option maxRecDepth 100000

/-- The reflections of a list. -/
def reflV (l : List Int) : List Int := (List.range l.length).map (fun j => refl j (l.getD j 0))
theorem reflV_length (l : List Int) : (reflV l).length = l.length := by simp [reflV]
theorem reflV_get {l : List Int} {j : Nat} (h : j < l.length) : (reflV l).getD j 0 = refl j l[j] := by
  rw [getD_at (by rw [reflV_length]; exact h)]
  unfold reflV
  simp only [List.getElem_map, List.getElem_range]
  rw [getD_at h]

set_option maxHeartbeats 1600000 in
theorem cReflect (ao : Option Addr) (cap : Nat) (l : List Int) (w : World) (hgd : goodL l = true) (hi : IntsAt w ao l) :
    Calls Tryz.prog 108 #[.slice ao l.length cap] w (NewIs (reflV l) w) := by
  have hl16 := good_len hgd
  obtain ⟨cs, hcs, hmk⟩ := makeInts l.length (by omega)
  have HGD := Lib.hid hgd
  have HI := Lib.hid hi
  have HRF := fun p i W hp hi => Lib.hid (cReflectionOf p i W hp hi)
  have HC := Lib.hid (cGood ao cap l w (by omega) hi)
  rw [hgd] at HC
  have HK := Lib.hid (keys_new (w := w) (reflV l) hcs)
  have HB := Lib.hid (box_below w (.cells cs 3))
  clear hi hgd hcs
  go_enter Tryz.func108, Tryz.ntmps108
  go_wp2_with fail
  refine HC.out.mono ?_
  rintro e w1 ⟨rfl, rfl⟩
  go_wp2
  go_loopg [4, 5, 14] l.length (fun gk q1 q2 i wr => ∃ j : Nat, j ≤ l.length ∧ gk + j = l.length ∧ i = .int .i64 j ∧ Hid (KeysAt wr w.heap.size l.length (fillV (reflV l) j)) ∧ Hid (Below w.heap.size w wr) ∧ w.heap.size < wr.heap.size)
  case atStart => exact ⟨0, Nat.zero_le _, by omega, rfl, HK, HB, by simp⟩
  case round =>
    obtain ⟨j, hjc, hgk, rfl, HKA, HW, hsz⟩ := hrel
    have HGK := Lib.hid hgk
    clear hgk
    by_cases hlt : j < l.length
    · obtain ⟨g, off, rfl, hg, hcell⟩ := (HI.out.below HW.out) j hlt
      have hix := good_at HGD.out hlt
      have HR := fun W => HRF j l[j] W (by omega) hix
      have HS := Lib.hid (reflV_get hlt)
      generalize refl j l[j] = k at HR HS
      generalize l[j] = x at hcell HR hix
      obtain ⟨kc, kf⟩ := HKA.out j hlt
      clear hg hix
      go_wp2_with fail
      refine (HR _).out.mono ?_
      rintro e w1 ⟨rfl, rfl⟩
      go_wp2
      go_roundg (gk - 1)
      case rel => exact ⟨j + 1, by omega, by have := HGK.out; omega, by go_num, keys_step HKA.out hlt HS.out.symm, HW.out.setCell (p := ⟨w.heap.size, j, none⟩) (Nat.le_refl _) _, by simpa using hsz⟩
      case measure => have := HGK.out; omega
    · obtain rfl : j = l.length := by omega
      have HF : Hid (NewIs (reflV l) w (.returned (.slice (some ⟨w.heap.size, 0, none⟩) l.length l.length)) wr) :=
        ⟨w.heap.size, by rw [reflV_length], keys_ints HKA.out (reflV_length l) rfl hsz, Nat.le_refl _, hsz, HW.out⟩
      go_wp2
      go_ret
      exact HF.out

/-- A copy of numbers, in new memory that may be written. -/
theorem run_copyW {w : World} {g : Nat} {a : Addr} {cap ty : Nat} {l : List Int} (hg : w.heap[g]? = some (.cells #[] 3)) (hl : l.length ≤ 100000) (h : IntsAt w (some a) l) :
    ∃ g' cap' w', (Builtin.append_ #[22, 22] ty #[.slice (some ⟨g, 0, none⟩) 0 0, .slice (some a) l.length cap]).run Tryz.prog w = .ok (.slice (some ⟨g', 0, none⟩) l.length cap') w' ∧
      IntsAt w' (some ⟨g', 0, none⟩) l ∧ (∃ cur, w'.heap[g']? = some (.cells cur 3)) ∧ g ≤ g' ∧ g' < w'.heap.size ∧ l.length ≤ cap' ∧ Below g w w' := by
  have hown : w.ownsRow g 3 1 (.slice (some ⟨g, 0, none⟩) 0 0) 0 [] := ⟨rfl, .inr ⟨g, 0, #[], rfl, Nat.le_refl _, hg, Nat.le_refl _, by unfold maxLen; omega, rfl, rfl⟩⟩
  have hlt : g < w.heap.size := (Array.getElem?_eq_some_iff.1 hg).1
  obtain ⟨i0, hi, hz0, hz1, hz2⟩ := info_parts info_int
  obtain ⟨v', w', hr, h2, h3, h4⟩ := run_append_own (P := Tryz.prog) w g 22 ty 3 i0 (.int .i64 0) 1 8 Tryz.underlying22 hi hz0 hz1 hz2 rfl (by decide) (.slice (some ⟨g, 0, none⟩) 0 0) 0 [] hown a l.length cap (intsOf l) (by simp [intsOf]) (icells_at h) (icells_one l) (by unfold maxLen; omega) (by omega) (by omega)
  rw [Nat.zero_add, List.nil_append] at h2
  rcases h2.2 with ⟨rfl, h0⟩ | ⟨g', cap', cur, rfl, _, hh, r⟩
  · exact absurd (h4.1 rfl).1 (by simp)
  · have ho := own_lt h2
    exact ⟨g', cap', w', hr, ints_own h2, ⟨cur, hh⟩, ho.1, ho.2.1, ho.2.2.1, (Below.refl g w).grown h3 (by omega) (by intro x hx; simp [Value.ownBlock] at hx; omega)⟩

/-- Numbers in new memory that may be written. -/
def CopyIs (l : List Int) (w : World) (e : Ending) (w' : World) : Prop :=
  ∃ H cap, e = .returned (.slice (some ⟨H, 0, none⟩) l.length cap) ∧ IntsAt w' (some ⟨H, 0, none⟩) l ∧ (∃ cur, w'.heap[H]? = some (.cells cur 3)) ∧ l.length ≤ cap ∧ w.heap.size ≤ H ∧ H < w'.heap.size ∧ Below w.heap.size w w'

set_option maxHeartbeats 800000 in
theorem cClone (a : Addr) (cap : Nat) (l : List Int) (w : World) (hl : l.length ≤ 100000) (hi : IntsAt w (some a) l) :
    Calls Tryz.prog 21 #[.slice (some a) l.length cap] w (CopyIs l w) := by
  have hb := box_below w (.cells #[] 3)
  obtain ⟨g', cap', w', hrun, h1, h2, h3, h4, hcp, h5⟩ := run_copyW (ty := 22) (cap := cap) (World.alloc_heap_new w (.cells #[] 3)) hl (hi.below hb)
  have HF : Hid (CopyIs l w (.returned (.slice (some ⟨g', 0, none⟩) l.length cap')) w') := ⟨g', cap', rfl, h1, h2, hcp, h3, h4, hb.trans h5⟩
  have hne : ∀ W, (binOp .eql 22 (.slice (some a) l.length cap) (.slice none 0 0)).run Tryz.prog W = .ok (.bool false) W := fun W => by
    have := run_equal_slice_nil (P := Tryz.prog) W 22 3 (some a) l.length cap Tryz.underlying22
    simp only [binOp]
    simp [this]
  clear hi hb h1 h2 h3 h4 h5 hcp
  go_enter Tryz.func21, Tryz.ntmps21
  go_wp2_with (at_builtin; refine wpList_append_run rfl _ _ 22 rfl _ _ _ _ rfl rfl hrun ?_)
  go_ret
  exact HF.out

/-- The iterator over the steps: a box of the reflections. -/
structure StepsAt (w : World) (B H : Nat) (l : List Int) : Prop where
  box : w.heap[B]? = some (.cells #[.slice (some ⟨H, 0, none⟩) l.length l.length] 22)
  ints : IntsAt w (some ⟨H, 0, none⟩) (reflV l)
  lt : H < w.heap.size
def StepsIs (l : List Int) (w : World) (e : Ending) (w' : World) : Prop :=
  ∃ B H, e = .returned (.func (.func 109) #[] #[.pointer (some ⟨B, 0, none⟩)]) ∧ StepsAt w' B H l ∧ w.heap.size ≤ B ∧ w.heap.size ≤ H ∧ Below w.heap.size w w'

set_option maxHeartbeats 1600000 in
theorem cSteps (ao : Option Addr) (cap : Nat) (l : List Int) (w : World) (hgd : goodL l = true) (hi : IntsAt w ao l) :
    Calls Tryz.prog 88 #[.slice ao l.length cap] w (StepsIs l w) := by
  have hmf : ∀ (fn : Fn) (first cap : Array Value) (w : World), (Instr.makeFunc fn first cap).run Tryz.prog w = .ok (.func fn first cap) w := fun _ _ _ _ => rfl
  have hl16 := good_len hgd
  have HC := Lib.hid (cGood ao cap l w (by omega) hi)
  rw [hgd] at HC
  have HR := Lib.hid (cReflect ao cap l w hgd hi)
  clear hi hgd
  go_enter Tryz.func88, Tryz.ntmps88
  go_wp2_with fail
  refine HC.out.mono ?_
  rintro e w1 ⟨rfl, rfl⟩
  go_wp2_with fail
  refine HR.out.mono ?_
  rintro e w1 ⟨H, rfl, h1, h2, h3, h4⟩
  rw [reflV_length]
  have HF : Hid (StepsIs l w (.returned (.func (.func 109) #[] #[.pointer (some ⟨w1.heap.size, 0, none⟩)])) (w1.alloc (.cells #[.slice (some ⟨H, 0, none⟩) l.length l.length] 22))) :=
    ⟨_, H, rfl, ⟨World.alloc_heap_new _ _, h1.below (box_below _ _), by simp; omega⟩, h4.size, h2, h4.alloc h4.size _⟩
  clear h1 h2 h3 h4
  go_wp2
  go_ret
  simpa using HF.out
end Go.Proofs.YtnfpkjnllkkngaaGreatDoor.Fx
end

section
namespace Go.Proofs.YtnfpkjnllkkngaaGreatDoor.Fx
open Go.RowKit Go.Shelf Go.Proofs Go.Proofs.PipeA Go.Proofs.LatM
set_option maxRecDepth 100000

attribute [local go_sem] Oper.semAt_some

theorem cf_succ {l : List Int} {c : Nat} (h : c < l.length) : cf l (c + 1) = stp (cf l c) ((reflV l)[c]'(by rw [reflV_length]; exact h)) := by
  rw [cf]
  have := reflV_get h
  rw [getD_at (by rw [reflV_length]; exact h)] at this
  rw [this, getD_at h]
theorem refl_in {l : List Int} (hg : goodL l = true) {c : Nat} (h : c < l.length) : -16384 ≤ (reflV l)[c]'(by rw [reflV_length]; exact h) ∧ (reflV l)[c]'(by rw [reflV_length]; exact h) ≤ 16384 := by
  have := reflV_get h
  rw [getD_at (by rw [reflV_length]; exact h)] at this
  rw [this]
  exact refl_bound c (good_at hg h)
theorem cf_b30 {l : List Int} (hg : goodL l = true) {c : Nat} (h : c ≤ 16) : ∀ x ∈ cf l c, -1073741824 ≤ x ∧ x ≤ 1073741824 := fun x hx => by
  have := cf_small hg h x hx
  omega

/-- Where a slice's memory lies. -/
def From (n : Nat) (ao : Option Addr) : Prop := ∀ a, ao = some a → n ≤ a.block
end Go.Proofs.YtnfpkjnllkkngaaGreatDoor.Fx
end

section
namespace Go.Proofs.YtnfpkjnllkkngaaGreatDoor.Fx
open Go.RowKit Go.Shelf Go.Proofs Go.Proofs.PipeA Go.Proofs.LatM
set_option maxRecDepth 100000

attribute [local go_sem] Oper.semAt_some

/-- Where Coefs stands when a number of yields are done. -/
structure LastIs (W0 : World) (B L D : Nat) (r : Loop) (l : List Int) (j : Nat) (W : World) : Prop where
  loop : W.heap[L]? = some (.loop r)
  mark : W.heap[D]? = some (.deferred (some []))
  last : ∃ ao cap, W.heap[B]? = some (.cells #[.slice ao (j - 1) cap] 22) ∧ IntsAt W ao (cf l (j - 1)) ∧ From W0.heap.size ao ∧ j - 1 ≤ cap
  keeps : Keeps [B, L] W0 W
theorem LastIs.below {W0 A C : World} {B L D j : Nat} {r : Loop} {l : List Int} (h : LastIs W0 B L D r l j A) (hb : Below A.heap.size A C) : LastIs W0 B L D r l j C := by
  obtain ⟨ao, cap, h1, h2, h3, h4⟩ := h.last
  exact ⟨(hb.block L (Array.getElem?_eq_some_iff.1 h.loop).1).trans h.loop, (hb.block D (Array.getElem?_eq_some_iff.1 h.mark).1).trans h.mark, ⟨ao, cap, (hb.block B (Array.getElem?_eq_some_iff.1 h1).1).trans h1, h2.below hb, h3, h4⟩, h.keeps.trans (keeps_of_below hb _)⟩
theorem keeps_putObj (w : World) (b : Nat) (o : Obj) : Keeps [b] w (w.putObj b o) :=
  ⟨rfl, rfl, rfl, by simp, fun k _ hn => World.putObj_heap_other (fun e => hn (by simp [e]))⟩
theorem Keeps.wide {bs cs : List Nat} {w w' : World} (h : Keeps bs w w') (hs : ∀ x ∈ bs, x ∈ cs) : Keeps cs w w' := ⟨h.os, h.tape, h.output, h.size, fun k hk hn => h.block k hk (fun hc => hn (hs k hc))⟩
theorem box_set {W : World} {B : Nat} {x : Value} (v : Value) {t : TypeId} (h : W.heap[B]? = some (.cells #[x] t)) : (W.setCell ⟨B, 0, none⟩ v).heap[B]? = some (.cells #[v] t) := by
  simp only [World.setCell, Array.getElem?_modify, if_pos, h]
  rfl

/-- Only the normal way on. -/
def OnlyN (R : Act → World → Prop) : Exit → Act → World → Prop
  | .normal, a, w => R a w
  | _, _, _ => False

/-- A loop over a function, entered: what its record is, and that the function is called. -/
theorem range_told {F : Fence} {n : Nat} {P : Program} {g : Operand} {ps : Array Tmp} {assign body : Code} {Q : Exit → Act → World → Prop} {a : Act} {w : World} (hro : F.round = none) (h1 : 1 ≤ n) {gf : Nat} {lb : Array Value}
    (hg : a.eval g = .func (.func gf) #[] lb) (hFg : F.fn gf) (eg : ∀ args w, (callFunc gf args).run P w = .ok (.enter gf args) w)
    (h : ∀ (r : LoopState → Option Code → Loop) (fn : FuncId), F.fn fn → (r = fun st pe => { state := st, pending := pe, fn, tmps := a.tmps, params := ps, assign, body, defers := w.heap.size }) →
      CallsIn F (n - 1) P gf (#[.func (.yield (w.heap.size + 1)) #[] #[]] ++ lb) ((w.alloc (.deferred (some []))).alloc (.loop (r .ready none)))
        (rangePost F n P (w.heap.size + 1) Q { a with defers := { target := .collected w.heap.size, args := #[] } :: a.defers })) :
    (Code.rangeFunc g ps assign body).wpIn F n P Q a w := by
  refine wpIn_rangeFunc fun fn hfn => ?_
  rw [hro]
  refine ⟨_, _, _, { target := .fn (.func gf) lb, args := #[.func (.yield (w.heap.size + 1)) #[] #[]] }, (w.alloc (.deferred (some []))).alloc (.loop { state := .ready, pending := none, fn, tmps := a.tmps, params := ps, assign, body, defers := w.heap.size }), gf, _, _, run_enterLoop_outer _ _ _ _ _, ?_, ?_, ?_, fun _ => h1, h _ fn hfn rfl⟩
  · simp only [resolve, hg]
    simp [go_sem]
  · intro f' hf'
    simp [Target.leads] at hf'
    subst hf'
    exact hFg
  · simp [invoke, go_sem, eg]

/-- One round whose body goes on: the record is ready again. -/
theorem round_told {F : Fence} {m : Nat} {P : Program} {l : Nat} {fn : FuncId} {ps : Array Tmp} {assign body : Code} {tmps args : Array Value} {D : Nat} {r : LoopState → Option Code → Loop} {W : World} {R : Ending → World → Prop} (hfn : F.fn fn)
    (hr : r = fun st pe => { state := st, pending := pe, fn, tmps, params := ps, assign, body, defers := D }) (hl : W.heap[l]? = some (.loop (r .ready none))) (hps : args.size = ps.size)
    (h : assign.wpIn (F.inRound l) m P (Exit.then (fun a1 W1 => W1 = W ∧ body.wpIn (F.inRound l) m P (OnlyN fun _ W3 => W3.heap[l]? = some (.loop (r .busy none)) ∧ R (.returned (.bool true)) (W3.putObj l (.loop (r .ready none)))) a1 (W.putObj l (.loop (r .busy none)))) (fun _ _ _ => False))
      { tmps := (ps.zip args).foldl (fun t (p, v) => t.setIfInBounds p v) tmps, defers := [] } W) : YieldAt F m P l args W R := by
  have hy := run_yield (P := P) (args := args) hl (by rw [hr]; exact hps)
  rw [hr] at hy
  refine ⟨fn, _, assign, body, hy, roundIn_of_wpIn hfn (wpIn_mono h ?_)⟩
  rintro e a1 W1 hq
  cases e with
  | normal =>
    obtain ⟨rfl, hb⟩ := hq
    have hbr := run_beginRound (P := P) hl (by rw [hr])
    rw [show { r .ready none with state := .busy } = r .busy none by rw [hr]] at hbr
    refine ⟨_, hbr, wpIn_mono hb ?_⟩
    rintro e a3 W3 hq3
    cases e with
    | normal =>
      have her := run_endRound (P := P) none hq3.1
      exact ⟨_, _, her, by rw [hr]; rw [hr] at hq3; exact hq3.2⟩
    | _ => exact hq3.elim
  | _ => exact hq.elim

end Go.Proofs.YtnfpkjnllkkngaaGreatDoor.Fx
end
