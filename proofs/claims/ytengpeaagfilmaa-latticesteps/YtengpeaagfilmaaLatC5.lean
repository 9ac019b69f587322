import Derived.Test.YtengpeaagfilmaaLatI
namespace Go.Proofs.Ytengpeaagfilmaa
open Go.RowKit Go.Shelf Go.Proofs Go.Proofs.PipeA Go.Proofs.LatM
set_option maxRecDepth 100000

attribute [local go_sem] Oper.semAt_some

/-- Where Coefs stands when a number of yields are done. -/
structure LastIs (W0 : World) (B L D : Nat) (r : Loop) (l : List Int) (j : Nat) (W : World) : Prop where
  loop : W.heap[L]? = some (.loop r)
  mark : W.heap[D]? = some (.deferred (some []))
  last : ∃ ao cap, W.heap[B]? = some (.cells #[.slice ao (j - 1) cap] 22) ∧ IntsAt W ao (cf l (j - 1)) ∧ From W0.heap.size ao ∧ j - 1 ≤ cap
  keeps : Keeps [B, L] W0 W
theorem LastIs.below {W0 A C : World} {B L D j : Nat} {r : Loop} {l : List Int} (h : LastIs W0 B L D r l j A) (hb : Below A.heap.size A C) : LastIs W0 B L D r l j C := by
  obtain ⟨ao, cap, h1, h2, h3, h4⟩ := h.last
  exact ⟨(hb.block L (Array.getElem?_eq_some_iff.1 h.loop).1).trans h.loop, (hb.block D (Array.getElem?_eq_some_iff.1 h.mark).1).trans h.mark, ⟨ao, cap, (hb.block B (Array.getElem?_eq_some_iff.1 h1).1).trans h1, h2.below hb, h3, h4⟩, h.keeps.trans (keeps_of_below hb _)⟩
theorem keeps_putObj (w : World) (b : Nat) (o : Obj) : Keeps [b] w (w.putObj b o) :=
  ⟨rfl, rfl, rfl, by simp, fun k _ hn => World.putObj_heap_other (fun e => hn (by simp [e]))⟩
theorem Keeps.wide {bs cs : List Nat} {w w' : World} (h : Keeps bs w w') (hs : ∀ x ∈ bs, x ∈ cs) : Keeps cs w w' := ⟨h.os, h.tape, h.output, h.size, fun k hk hn => h.block k hk (fun hc => hn (hs k hc))⟩
theorem box_set {W : World} {B : Nat} {x : Value} (v : Value) {t : TypeId} (h : W.heap[B]? = some (.cells #[x] t)) : (W.setCell ⟨B, 0, none⟩ v).heap[B]? = some (.cells #[v] t) := by
  simp only [World.setCell, Array.getElem?_modify, if_pos, h]
  rfl

/-- Only the normal way on. -/
def OnlyN (R : Act → World → Prop) : Exit → Act → World → Prop
  | .normal, a, w => R a w
  | _, _, _ => False

/-- A loop over a function, entered: what its record is, and that the function is called. -/
theorem range_told {F : Fence} {n : Nat} {P : Program} {g : Operand} {ps : Array Tmp} {assign body : Code} {Q : Exit → Act → World → Prop} {a : Act} {w : World} (hro : F.round = none) (h1 : 1 ≤ n) {gf : Nat} {lb : Array Value}
    (hg : a.eval g = .func (.func gf) #[] lb) (hFg : F.fn gf) (eg : ∀ args w, (callFunc gf args).run P w = .ok (.enter gf args) w)
    (h : ∀ (r : LoopState → Option Code → Loop) (fn : FuncId), F.fn fn → (r = fun st pe => { state := st, pending := pe, fn, tmps := a.tmps, params := ps, assign, body, defers := w.heap.size }) →
      CallsIn F (n - 1) P gf (#[.func (.yield (w.heap.size + 1)) #[] #[]] ++ lb) ((w.alloc (.deferred (some []))).alloc (.loop (r .ready none)))
        (rangePost F n P (w.heap.size + 1) Q { a with defers := { target := .collected w.heap.size, args := #[] } :: a.defers })) :
    (Code.rangeFunc g ps assign body).wpIn F n P Q a w := by
  refine wpIn_rangeFunc fun fn hfn => ?_
  rw [hro]
  refine ⟨_, _, _, { target := .fn (.func gf) lb, args := #[.func (.yield (w.heap.size + 1)) #[] #[]] }, (w.alloc (.deferred (some []))).alloc (.loop { state := .ready, pending := none, fn, tmps := a.tmps, params := ps, assign, body, defers := w.heap.size }), gf, _, _, run_enterLoop_outer _ _ _ _ _, ?_, ?_, ?_, fun _ => h1, h _ fn hfn rfl⟩
  · simp only [resolve, hg]
    simp [go_sem]
  · intro f' hf'
    simp [Target.leads] at hf'
    subst hf'
    exact hFg
  · simp [invoke, go_sem, eg]

/-- One round whose body goes on: the record is ready again. -/
theorem round_told {F : Fence} {m : Nat} {P : Program} {l : Nat} {fn : FuncId} {ps : Array Tmp} {assign body : Code} {tmps args : Array Value} {D : Nat} {r : LoopState → Option Code → Loop} {W : World} {R : Ending → World → Prop} (hfn : F.fn fn)
    (hr : r = fun st pe => { state := st, pending := pe, fn, tmps, params := ps, assign, body, defers := D }) (hl : W.heap[l]? = some (.loop (r .ready none))) (hps : args.size = ps.size)
    (h : assign.wpIn (F.inRound l) m P (Exit.then (fun a1 W1 => W1 = W ∧ body.wpIn (F.inRound l) m P (OnlyN fun _ W3 => W3.heap[l]? = some (.loop (r .busy none)) ∧ R (.returned (.bool true)) (W3.putObj l (.loop (r .ready none)))) a1 (W.putObj l (.loop (r .busy none)))) (fun _ _ _ => False))
      { tmps := (ps.zip args).foldl (fun t (p, v) => t.setIfInBounds p v) tmps, defers := [] } W) : YieldAt F m P l args W R := by
  have hy := run_yield (P := P) (args := args) hl (by rw [hr]; exact hps)
  rw [hr] at hy
  refine ⟨fn, _, assign, body, hy, roundIn_of_wpIn hfn (wpIn_mono h ?_)⟩
  rintro e a1 W1 hq
  cases e with
  | normal =>
    obtain ⟨rfl, hb⟩ := hq
    have hbr := run_beginRound (P := P) hl (by rw [hr])
    rw [show { r .ready none with state := .busy } = r .busy none by rw [hr]] at hbr
    refine ⟨_, hbr, wpIn_mono hb ?_⟩
    rintro e a3 W3 hq3
    cases e with
    | normal =>
      have her := run_endRound (P := P) none hq3.1
      exact ⟨_, _, her, by rw [hr]; rw [hr] at hq3; exact hq3.2⟩
    | _ => exact hq3.elim
  | _ => exact hq.elim

/-- Numbers in memory of the call's own, or none at all. -/
def OwnIs (l : List Int) (w : World) (e : Ending) (w' : World) : Prop :=
  ∃ ao cap, e = .returned (.slice ao l.length cap) ∧ IntsAt w' ao l ∧ From w.heap.size ao ∧ l.length ≤ cap ∧ Below w.heap.size w w'

set_option maxHeartbeats 3200000 in
theorem cCoefs (ao : Option Addr) (cap : Nat) (l : List Int) (w : World) (hgd : goodL l = true) (hi : IntsAt w ao l) :
    Calls Try.prog 12 #[.slice ao l.length cap] w (OwnIs (cf l l.length) w) := by
  have hl16 := good_len hgd
  obtain ⟨wa, hwa⟩ : ∃ wa, wa = w.alloc (.cells #[.slice none 0 0] 22) := ⟨_, rfl⟩
  have hba : Below w.heap.size w wa := by rw [hwa]; exact box_below _ _
  have hboxa : wa.heap[w.heap.size]? = some (.cells #[.slice none 0 0] 22) := by rw [hwa]; exact World.alloc_heap_new _ _
  have HST := Lib.hid (cSteps ao cap l wa hgd (hi.below hba))
  have HGD := Lib.hid hgd
  have hlta := (Array.getElem?_eq_some_iff.1 hboxa).1
  have HBA := Lib.hid hba
  clear hi hgd hba
  refine (callsIn_wide (n := 6)).1 ?_
  refine callsIn_of_wp_marks Try.func12 rfl trivial ?_ rfl
  simp only [Try.ntmps12, List.size_toArray, List.length_cons, List.length_nil, Nat.reduceAdd, Nat.reduceSub, Array.replicate_succ, Array.replicate_zero, List.push_toArray, List.append_toArray, List.nil_append, List.cons_append]
  gi_wp2_with fail
  rw [← hwa]
  refine ⟨trivial, (callsIn_wide.2 HST.out).mono ?_⟩
  rintro e w2 ⟨B, H, rfl, hS, hB, hH, hb2⟩
  have hbox : w2.heap[w.heap.size]? = some (.cells #[.slice none 0 0] 22) := (hb2.block _ hlta).trans hboxa
  have HB2 := Lib.hid (HBA.out.trans (hb2.mono HBA.out.size))
  have HS := Lib.hid hS
  have hBlt : B < w2.heap.size := (Array.getElem?_eq_some_iff.1 hS.box).1
  have hHlt := hS.lt
  clear hwa hboxa HST hS hb2 HBA
  generalize hB5 : w.heap.size = B5 at *
  gi_wp2_with fail
  refine range_told rfl (by omega) (gf := 29) (lb := #[.pointer (some ⟨B, 0, none⟩)]) rfl trivial (enters_of Try.func29 (by kernel_rfl) rfl) ?_
  intro r fn hfn hr
  have HRE := Lib.hid hr
  clear hr
  obtain ⟨W0, hW0⟩ : ∃ W0, (w2.alloc (.deferred (some []))).alloc (.loop (r .ready none)) = W0 := ⟨_, rfl⟩
  have hL0 : W0.heap[w2.heap.size + 1]? = some (.loop (r .ready none)) := by
    rw [← hW0]; have := World.alloc_heap_new (w2.alloc (.deferred (some []))) (.loop (r .ready none)); rwa [World.size_alloc] at this
  have hD0 : W0.heap[w2.heap.size]? = some (.deferred (some [])) := by
    rw [← hW0]; exact (Below.heap_alloc _ _ _ (by simp)).trans (World.alloc_heap_new w2 _)
  have hb0 : Below w2.heap.size w2 W0 := by rw [← hW0]; exact below2 w2 _ _
  have hz0 : W0.heap.size = w2.heap.size + 2 := by rw [← hW0]; simp
  rw [hW0]
  have hB5lt : B5 < w2.heap.size := (Array.getElem?_eq_some_iff.1 hbox).1
  have hS0 : StepsAt W0 B H l := ⟨(hb0.block _ hBlt).trans HS.out.box, HS.out.ints.below hb0, by omega⟩
  have hbox0 := (hb0.block _ hB5lt).trans hbox
  clear hW0
  refine (steps2_tells 5 B H (w2.heap.size + 1) l W0 [B5, w2.heap.size + 1] (LastIs W0 B5 (w2.heap.size + 1) w2.heap.size (r .ready none) l) (by omega) HGD.out hS0 (by simp; omega) (by simp; omega) (by simp; omega) (fun j A C hA hb => hA.below hb) ?rnd ?st).mono ?fin
  case st => exact ⟨hL0, hD0, ⟨none, 0, hbox0, fun j hj => by simp [cf] at hj, (fun a e => by cases e), by omega⟩, Keeps.refl _ _⟩
  case rnd =>
    intro j ao' cap' W1 hj hcap' hJ hi hF
    obtain ⟨ao2, cap2, hbx, _, _, _⟩ := hJ.last
    refine round_told hfn HRE.out hJ.loop rfl ?_
    have hlt1 := (Array.getElem?_eq_some_iff.1 hJ.loop).1
    have hq1 : (W1.putObj (w2.heap.size + 1) (.loop (r .busy none))).heap[B5]? = some (.cells #[.slice ao2 (j - 1) cap2] 22) := (World.putObj_heap_other (by omega)).trans hbx
    have hq2 : (W1.putObj (w2.heap.size + 1) (.loop (r .busy none))).heap[w2.heap.size + 1]? = some (.loop (r .busy none)) := World.putObj_heap_same hlt1
    have hk1 := keeps_putObj W1 (w2.heap.size + 1) (.loop (r .busy none))
    generalize W1.putObj (w2.heap.size + 1) (.loop (r .busy none)) = W2 at hq1 hq2 hk1 ⊢
    have kc := cell_of_heap hq1 0
    have kf := frozen_of_heap hq1 0
    simp only [List.getElem?_toArray, List.getElem?_cons_zero] at kc
    have HEND : Hid ((fun W3 => W3.heap[w2.heap.size + 1]? = some (.loop (r .busy none)) ∧ LastIs W0 B5 (w2.heap.size + 1) w2.heap.size (r .ready none) l (j + 1) (W3.putObj (w2.heap.size + 1) (.loop (r .ready none))) ∧ Keeps [B5, w2.heap.size + 1] W1 (W3.putObj (w2.heap.size + 1) (.loop (r .ready none)))) (W2.setCell ⟨B5, 0, none⟩ (.slice ao' j cap'))) := by
      have hk3 : Keeps [B5, w2.heap.size + 1] W1 ((W2.setCell ⟨B5, 0, none⟩ (.slice ao' j cap')).putObj (w2.heap.size + 1) (.loop (r .ready none))) :=
        ((hk1.wide (by simp)).trans ((keeps_setCell W2 B5 0 _).wide (by simp))).trans ((keeps_putObj _ _ _).wide (by simp))
      have hl3 : (W2.setCell ⟨B5, 0, none⟩ (.slice ao' j cap')).heap[w2.heap.size + 1]? = some (.loop (r .busy none)) := (Below.heap_setCell _ _ _ _ (by simp; omega)).trans hq2
      have hb3 : ((W2.setCell ⟨B5, 0, none⟩ (.slice ao' j cap')).putObj (w2.heap.size + 1) (.loop (r .ready none))).heap[B5]? = some (.cells #[.slice ao' j cap'] 22) := (World.putObj_heap_other (by omega)).trans (box_set _ hq1)
      refine ⟨hl3, ⟨World.putObj_heap_same (Array.getElem?_eq_some_iff.1 hl3).1, (hk3.block _ (Array.getElem?_eq_some_iff.1 hJ.mark).1 (by simp; omega)).trans hJ.mark, ⟨ao', cap', hb3, hi.keeps hk3 (hF.not (by simp; omega)), hF, by omega⟩, hJ.keeps.trans hk3⟩, hk3⟩
    clear hk1 hJ hi
    gi_wp2
    exact HEND.out
  case fin =>
    rintro e W3 ⟨⟨v, rfl⟩, hJ⟩
    obtain ⟨ao3, cap3, hbx, hi3, hF3, hcp3⟩ := hJ.last
    rw [Nat.add_sub_cancel] at hbx hi3 hcp3
    have hend := run_endLoop (P := Try.prog) hJ.loop (by rw [HRE.out]; simp)
    have hpe : (r .ready none).pending = none := by rw [HRE.out]
    obtain ⟨X, hX⟩ : ∃ X : Loop, X = { r .ready none with state := .exhausted } := ⟨_, rfl⟩
    rw [← hX, hpe] at hend
    clear hX hpe
    refine ⟨none, _, hend, ?_⟩
    have hk4 := keeps_putObj W3 (w2.heap.size + 1) (.loop X)
    have hb4 : (W3.putObj (w2.heap.size + 1) (.loop X)).heap[B5]? = _ := (World.putObj_heap_other (by omega)).trans hbx
    have hD4 : (W3.putObj (w2.heap.size + 1) (.loop X)).heap[w2.heap.size]? = some (.deferred (some [])) := (World.putObj_heap_other (by omega)).trans hJ.mark
    have hi4 := hi3.keeps hk4 (hF3.not (by simp; omega))
    have hk04 : Keeps [B5, w2.heap.size + 1] W0 _ := hJ.keeps.trans (hk4.wide (by simp))
    generalize W3.putObj (w2.heap.size + 1) (.loop X) = W4 at hb4 hD4 hi4 hk04 hk4 hend ⊢
    have HF : Hid (OwnIs (cf l l.length) w (.returned (.slice ao3 l.length cap3)) (W4.putObj w2.heap.size (.deferred none))) := by
      refine ⟨ao3, cap3, by rw [cf_length], hi4.keeps (keeps_putObj W4 w2.heap.size _) (hF3.not (by simp; omega)), (fun a e => by have := hF3 a e; omega), by rw [cf_length]; exact hcp3, ?_⟩
      have h5 : Keeps [B5, w2.heap.size + 1, w2.heap.size] W0 (W4.putObj w2.heap.size (.deferred none)) := (hk04.wide (by simp)).trans ((keeps_putObj _ _ _).wide (by simp))
      rw [hB5]
      exact HB2.out.trans ((hb0.mono (by omega)).trans (h5.below (by omega) (by simp; omega)))
    have kc := cell_of_heap hb4 0
    simp only [List.getElem?_toArray, List.getElem?_cons_zero] at kc
    clear hi4 hk04 hk4 hb4 hJ hi3
    gi_wp2
    refine ⟨by simp, .inl ⟨_, _, rfl, run_takeDeferred hD4, ?_⟩⟩
    refine ⟨_, results_tmp rfl _ _ _, ?_⟩
    exact HF.out
end Go.Proofs.Ytengpeaagfilmaa
