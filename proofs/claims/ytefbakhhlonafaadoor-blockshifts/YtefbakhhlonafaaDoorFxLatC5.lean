import Derived.RangeFuncNested
import Derived.RangeFuncBound
import Derived.RangeFuncCalls
import Derived.RangeFuncLeaves
import Derived.Shelf.Abstract
import Derived.WalkKit
import Derived.OwnWalkIn
import Derived.TacticsInMore
import Derived.LoopNIn
import Derived.LoopIn
import Derived.Test.YtefbakhhlonafaaDoorFxLatC4

section
namespace Go.Proofs.YtefbakhhlonafaaDoor.Fx
open Go.RowKit Go.Shelf Go.Proofs Go.Proofs.PipeA Go.Proofs.LatM
set_option maxRecDepth 100000

attribute [local go_sem] Oper.semAt_some

theorem cf_succ {l : List Int} {c : Nat} (h : c < l.length) : cf l (c + 1) = stp (cf l c) ((reflV l)[c]'(by rw [reflV_length]; exact h)) := by
  rw [cf]
  have := reflV_get h
  rw [getD_at (by rw [reflV_length]; exact h)] at this
  rw [this, getD_at h]
theorem refl_in {l : List Int} (hg : goodL l = true) {c : Nat} (h : c < l.length) : -16384 ≤ (reflV l)[c]'(by rw [reflV_length]; exact h) ∧ (reflV l)[c]'(by rw [reflV_length]; exact h) ≤ 16384 := by
  have := reflV_get h
  rw [getD_at (by rw [reflV_length]; exact h)] at this
  rw [this]
  exact refl_bound c (good_at hg h)
theorem cf_b30 {l : List Int} (hg : goodL l = true) {c : Nat} (h : c ≤ 16) : ∀ x ∈ cf l c, -1073741824 ≤ x ∧ x ≤ 1073741824 := fun x hx => by
  have := cf_small hg h x hx
  omega

/-- Where a slice's memory lies. -/
def From (n : Nat) (ao : Option Addr) : Prop := ∀ a, ao = some a → n ≤ a.block
end Go.Proofs.YtefbakhhlonafaaDoor.Fx
end

section
namespace Go.Proofs.YtefbakhhlonafaaDoor.Fx
open Go.RowKit Go.Shelf Go.Proofs Go.Proofs.PipeA Go.Proofs.LatM
set_option maxRecDepth 100000

attribute [local go_sem] Oper.semAt_some

/-- Where Coefs stands when a number of yields are done. -/
structure LastIs (W0 : World) (B L D : Nat) (r : Loop) (l : List Int) (j : Nat) (W : World) : Prop where
  loop : W.heap[L]? = some (.loop r)
  mark : W.heap[D]? = some (.deferred (some []))
  last : ∃ ao cap, W.heap[B]? = some (.cells #[.slice ao (j - 1) cap] 22) ∧ IntsAt W ao (cf l (j - 1)) ∧ From W0.heap.size ao ∧ j - 1 ≤ cap
  keeps : Keeps [B, L] W0 W
theorem LastIs.below {W0 A C : World} {B L D j : Nat} {r : Loop} {l : List Int} (h : LastIs W0 B L D r l j A) (hb : Below A.heap.size A C) : LastIs W0 B L D r l j C := by
  obtain ⟨ao, cap, h1, h2, h3, h4⟩ := h.last
  exact ⟨(hb.block L (Array.getElem?_eq_some_iff.1 h.loop).1).trans h.loop, (hb.block D (Array.getElem?_eq_some_iff.1 h.mark).1).trans h.mark, ⟨ao, cap, (hb.block B (Array.getElem?_eq_some_iff.1 h1).1).trans h1, h2.below hb, h3, h4⟩, h.keeps.trans (keeps_of_below hb _)⟩
theorem keeps_putObj (w : World) (b : Nat) (o : Obj) : Keeps [b] w (w.putObj b o) :=
  ⟨rfl, rfl, rfl, by simp, fun k _ hn => World.putObj_heap_other (fun e => hn (by simp [e]))⟩
theorem Keeps.wide {bs cs : List Nat} {w w' : World} (h : Keeps bs w w') (hs : ∀ x ∈ bs, x ∈ cs) : Keeps cs w w' := ⟨h.os, h.tape, h.output, h.size, fun k hk hn => h.block k hk (fun hc => hn (hs k hc))⟩
theorem box_set {W : World} {B : Nat} {x : Value} (v : Value) {t : TypeId} (h : W.heap[B]? = some (.cells #[x] t)) : (W.setCell ⟨B, 0, none⟩ v).heap[B]? = some (.cells #[v] t) := by
  simp only [World.setCell, Array.getElem?_modify, if_pos, h]
  rfl

/-- Only the normal way on. -/
def OnlyN (R : Act → World → Prop) : Exit → Act → World → Prop
  | .normal, a, w => R a w
  | _, _, _ => False

/-- A loop over a function, entered: what its record is, and that the function is called. -/
theorem range_told {F : Fence} {n : Nat} {P : Program} {g : Operand} {ps : Array Tmp} {assign body : Code} {Q : Exit → Act → World → Prop} {a : Act} {w : World} (hro : F.round = none) (h1 : 1 ≤ n) {gf : Nat} {lb : Array Value}
    (hg : a.eval g = .func (.func gf) #[] lb) (hFg : F.fn gf) (eg : ∀ args w, (callFunc gf args).run P w = .ok (.enter gf args) w)
    (h : ∀ (r : LoopState → Option Code → Loop) (fn : FuncId), F.fn fn → (r = fun st pe => { state := st, pending := pe, fn, tmps := a.tmps, params := ps, assign, body, defers := w.heap.size }) →
      CallsIn F (n - 1) P gf (#[.func (.yield (w.heap.size + 1)) #[] #[]] ++ lb) ((w.alloc (.deferred (some []))).alloc (.loop (r .ready none)))
        (rangePost F n P (w.heap.size + 1) Q { a with defers := { target := .collected w.heap.size, args := #[] } :: a.defers })) :
    (Code.rangeFunc g ps assign body).wpIn F n P Q a w := by
  refine wpIn_rangeFunc fun fn hfn => ?_
  rw [hro]
  refine ⟨_, _, _, { target := .fn (.func gf) lb, args := #[.func (.yield (w.heap.size + 1)) #[] #[]] }, (w.alloc (.deferred (some []))).alloc (.loop { state := .ready, pending := none, fn, tmps := a.tmps, params := ps, assign, body, defers := w.heap.size }), gf, _, _, run_enterLoop_outer _ _ _ _ _, ?_, ?_, ?_, fun _ => h1, h _ fn hfn rfl⟩
  · simp only [resolve, hg]
    simp [go_sem]
  · intro f' hf'
    simp [Target.leads] at hf'
    subst hf'
    exact hFg
  · simp [invoke, go_sem, eg]

/-- One round whose body goes on: the record is ready again. -/
theorem round_told {F : Fence} {m : Nat} {P : Program} {l : Nat} {fn : FuncId} {ps : Array Tmp} {assign body : Code} {tmps args : Array Value} {D : Nat} {r : LoopState → Option Code → Loop} {W : World} {R : Ending → World → Prop} (hfn : F.fn fn)
    (hr : r = fun st pe => { state := st, pending := pe, fn, tmps, params := ps, assign, body, defers := D }) (hl : W.heap[l]? = some (.loop (r .ready none))) (hps : args.size = ps.size)
    (h : assign.wpIn (F.inRound l) m P (Exit.then (fun a1 W1 => W1 = W ∧ body.wpIn (F.inRound l) m P (OnlyN fun _ W3 => W3.heap[l]? = some (.loop (r .busy none)) ∧ R (.returned (.bool true)) (W3.putObj l (.loop (r .ready none)))) a1 (W.putObj l (.loop (r .busy none)))) (fun _ _ _ => False))
      { tmps := (ps.zip args).foldl (fun t (p, v) => t.setIfInBounds p v) tmps, defers := [] } W) : YieldAt F m P l args W R := by
  have hy := run_yield (P := P) (args := args) hl (by rw [hr]; exact hps)
  rw [hr] at hy
  refine ⟨fn, _, assign, body, hy, roundIn_of_wpIn hfn (wpIn_mono h ?_)⟩
  rintro e a1 W1 hq
  cases e with
  | normal =>
    obtain ⟨rfl, hb⟩ := hq
    have hbr := run_beginRound (P := P) hl (by rw [hr])
    rw [show { r .ready none with state := .busy } = r .busy none by rw [hr]] at hbr
    refine ⟨_, hbr, wpIn_mono hb ?_⟩
    rintro e a3 W3 hq3
    cases e with
    | normal =>
      have her := run_endRound (P := P) none hq3.1
      exact ⟨_, _, her, by rw [hr]; rw [hr] at hq3; exact hq3.2⟩
    | _ => exact hq3.elim
  | _ => exact hq.elim

end Go.Proofs.YtefbakhhlonafaaDoor.Fx
end
