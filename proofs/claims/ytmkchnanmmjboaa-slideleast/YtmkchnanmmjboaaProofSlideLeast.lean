/-
  PROVED: 'SlideLeast' answers true for every input, and leaves its arguments as they were.
  Conditions: none.
-/
import Derived.Test.YtmkchnanmmjboaaLawS1
import Derived.Test.YtmkchnanmmjboaaRef3b
import Derived.Test.YtmkchnanmmjboaaArgs
import Derived.ChangeSame
import Derived.Test.YtmkchnanmmjboaaRows

namespace Go.Proofs.Ytmkchnanmmjboaa
open Go.RowKit Go.Proofs Go.Proofs.PipeM Go.Proofs.PipeA
set_option maxRecDepth 100000

set_option maxHeartbeats 800000 in
theorem least_much (lo ao : Option Addr) (len lcap kl cap : Nat) (P : Int) (w : World) (h : fewOk len kl = false) :
    Calls Try.prog 8 #[.slice lo len lcap, .agg #[.int .i64 P, .slice ao kl cap]] w fun e w' => e = .returned (.bool true) ∧ Below w.heap.size w w' := by
  have HF := fun W => Lib.hid (cFew lo ao len lcap kl cap P W)
  rw [h] at HF
  have HA := fun W => Lib.hid (awake3 W)
  have HB := fun o => Lib.hid (box_below w o)
  clear h
  go_enter Try.func8, Try.ntmps8
  go_wp2_with fail
  refine (HA _).out.mono ?_
  rintro e w1 ⟨rfl, hb1⟩
  have c0 : w1.cell? ⟨w.heap.size, 0, none⟩ = some (.int .i64 P) := (hb1.cell (p := ⟨w.heap.size, 0, none⟩) (by simp)).trans (by simp)
  have c1 : w1.cell? ⟨w.heap.size, 1, none⟩ = some (.slice ao kl cap) := (hb1.cell (p := ⟨w.heap.size, 1, none⟩) (by simp)).trans (by simp)
  have HB1 := Lib.hid ((HB _).out.trans (hb1.mono (HB _).out.size))
  clear hb1
  go_wp2_with fail
  refine (HF _).out.mono ?_
  rintro e w2 ⟨rfl, hb2⟩
  have HB2 := Lib.hid (HB1.out.trans (hb2.mono HB1.out.size))
  clear hb2 c0 c1
  go_wp2_with fail
  refine (HA _).out.mono ?_
  rintro e w3 ⟨rfl, hb3⟩
  have HB3 := Lib.hid (HB2.out.trans (hb3.mono HB2.out.size))
  clear hb3
  go_wp2
  go_ret
  exact ⟨rfl, HB3.out⟩

set_option maxHeartbeats 1600000 in
theorem least_few (lo ao : Option Addr) (lcap cap : Nat) (P : Int) (l ks : List Int) (w : World) (hcap : l.length ≤ lcap) (h : fewOk l.length ks.length = true) (hi : IntsAt w lo l) (hj : IntsAt w ao ks) :
    Calls Try.prog 8 #[.slice lo l.length lcap, .agg #[.int .i64 P, .slice ao ks.length cap]] w fun e w' => e = .returned (.bool true) ∧ Below w.heap.size w w' := by
  have hf : l.length ≤ 64 ∧ ks.length ≤ 12 := of_decide_eq_true h
  have HF := fun W => Lib.hid (cFew lo ao l.length lcap ks.length cap P W)
  rw [h] at HF
  have HA := fun W => Lib.hid (awake3 W)
  have HB := fun o => Lib.hid (box_below w o)
  have HL := fun W (hb : Below w.heap.size w W) => Lib.hid (refList lo lcap l W (by omega) (hi.below hb))
  have HGR := fun W (hb : Below w.heap.size w W) => Lib.hid (refGood l.length P ao cap ks W (by omega) (by omega) (hj.below hb))
  have HBT := fun W (hb : Below w.heap.size w W) => Lib.hid (cBits lo ao lcap cap l P ks W hcap (by omega) (by omega) (hi.below hb) (hj.below hb))
  cases hok : listOk l
  · rw [hok] at HL
    generalize l.length = len at *
    generalize ks.length = kl at *
    clear h hi hj hok HGR HBT
    go_enter Try.func8, Try.ntmps8
    go_wp2_with fail
    refine (HA _).out.mono ?_
    rintro e w1 ⟨rfl, hb1⟩
    have c0 : w1.cell? ⟨w.heap.size, 0, none⟩ = some (.int .i64 P) := (hb1.cell (p := ⟨w.heap.size, 0, none⟩) (by simp)).trans (by simp)
    have c1 : w1.cell? ⟨w.heap.size, 1, none⟩ = some (.slice ao kl cap) := (hb1.cell (p := ⟨w.heap.size, 1, none⟩) (by simp)).trans (by simp)
    have HB1 := Lib.hid ((HB _).out.trans (hb1.mono (HB _).out.size))
    clear hb1
    go_wp2_with fail
    refine (HF _).out.mono ?_
    rintro e w2 ⟨rfl, hb2⟩
    have HB2 := Lib.hid (HB1.out.trans (hb2.mono HB1.out.size))
    clear hb2 c0 c1
    go_wp2_with fail
    refine (HL _ HB2.out).out.mono ?_
    rintro e w3 ⟨rfl, rfl⟩
    go_wp2_with fail
    refine (HA _).out.mono ?_
    rintro e w3 ⟨rfl, hb3⟩
    have HB3 := Lib.hid (HB2.out.trans (hb3.mono HB2.out.size))
    clear hb3
    go_wp2
    go_ret
    exact ⟨rfl, HB3.out⟩
  · rw [hok] at HL
    have HBE := fun W (hb : Below w.heap.size w W) => Lib.hid (cSBest_yes lo lcap l W hcap (hi.below hb) hok)
    have HG := fun W H (hJ : IntsAt W (some ⟨H, 0, none⟩) (ksAt l (bestP l))) => Lib.hid (cGood l.length (bestP l : Nat) (some ⟨H, 0, none⟩) (2 ^ bestP l) (ksAt l (bestP l)) W (by omega) (by rw [ksAt_length]; exact Nat.le_trans (Nat.pow_le_pow_right (by decide) (Nat.le_trans (bestP_le l) (topP_le _))) (by decide)) hJ)
    have hso := powAt_ok hok (bestP_le l)
    have hge := slide_ge hso
    rw [powAt_len hok (bestP_le l), ksAt_length] at hge
    have hpo : partsOk l.length (bestP l : Nat) (ksAt l (bestP l)) = true := by unfold slideOk at hso; rw [Bool.and_eq_true] at hso; exact hso.1
    rw [hpo, ksAt_length] at HG
    have hp1 : 1 ≤ 2 ^ bestP l := Nat.two_pow_pos _
    obtain ⟨mp, hmp⟩ : ∃ mp, mp = 2 ^ bestP l := ⟨_, rfl⟩
    rw [← hmp] at HG hge hp1
    have HMP := Lib.hid hmp
    obtain ⟨bb, hbb⟩ : ∃ bb, bb = lenAt l (bestP l) := ⟨_, rfl⟩
    rw [← hbb] at hge
    have HBB := Lib.hid hbb
    have hge7 : decide ((bb : Int) < 7 + (l.length : Int)) = false := decide_eq_false (by omega)
    have HPL : Hid (partsOk l.length P ks = false → slideLen l P ks = 0) := by
      intro hno
      unfold slideLen slideBits slideOk
      rw [hno]; rfl
    have HPG : Hid (partsOk l.length P ks = true → 2 + 5 * ks.length + l.length ≤ slideLen l P ks) := by
      intro hyes
      exact slide_ge (by unfold slideOk; rw [hyes, hok]; rfl)
    generalize partsOk l.length P ks = po at HGR HPL HPG
    generalize slideLen l P ks = sl at HBT HPL HPG
    generalize l.length = len at *
    generalize ks.length = kl at *
    clear h hi hj hso hpo hmp hbb hge hok hcap
    go_enter Try.func8, Try.ntmps8
    go_wp2_with fail
    refine (HA _).out.mono ?_
    rintro e w1 ⟨rfl, hb1⟩
    have hz1 : w.heap.size < w1.heap.size := by have := hb1.size; simp at this; omega
    have c0 : w1.cell? ⟨w.heap.size, 0, none⟩ = some (.int .i64 P) := (hb1.cell (p := ⟨w.heap.size, 0, none⟩) (by simp)).trans (by simp)
    have c1 : w1.cell? ⟨w.heap.size, 1, none⟩ = some (.slice ao kl cap) := (hb1.cell (p := ⟨w.heap.size, 1, none⟩) (by simp)).trans (by simp)
    have HB1 := Lib.hid ((HB _).out.trans (hb1.mono (HB _).out.size))
    clear hb1
    go_wp2_with fail
    refine (HF _).out.mono ?_
    rintro e w2 ⟨rfl, hb2⟩
    have c0 := (hb2.cell (p := ⟨w.heap.size, 0, none⟩) hz1).trans c0
    have c1 := (hb2.cell (p := ⟨w.heap.size, 1, none⟩) hz1).trans c1
    have hz2 : w.heap.size < w2.heap.size := Nat.lt_of_lt_of_le hz1 hb2.size
    have HB2 := Lib.hid (HB1.out.trans (hb2.mono HB1.out.size))
    clear hb2
    go_wp2_with fail
    refine (HL _ HB2.out).out.mono ?_
    rintro e w3 ⟨rfl, rfl⟩
    go_wp2_with fail
    refine (HBE _ HB2.out).out.mono ?_
    rintro e w3 ⟨H, rfl, hJ3, hH3, hb3⟩
    rw [← HBB.out, ← HMP.out]
    have hz3 : w.heap.size < w3.heap.size := Nat.lt_of_lt_of_le hz2 hb3.size
    have hb4 := hb3.trans ((box_below w3 (.cells #[.int .i64 (bestP l : Nat), .slice (some ⟨H, 0, none⟩) mp mp] 24)).mono hb3.size)
    have c0 := (hb4.cell (p := ⟨w.heap.size, 0, none⟩) hz2).trans c0
    have c1 := (hb4.cell (p := ⟨w.heap.size, 1, none⟩) hz2).trans c1
    have HB4 := Lib.hid (HB2.out.trans (hb4.mono HB2.out.size))
    have HG4 := HG (w3.alloc (.cells #[.int .i64 (bestP l : Nat), .slice (some ⟨H, 0, none⟩) mp mp] 24)) H (hJ3.below (box_below w3 _))
    have hz4 : w.heap.size < (w3.alloc (.cells #[.int .i64 (bestP l : Nat), .slice (some ⟨H, 0, none⟩) mp mp] 24)).heap.size := by simp; omega
    clear hb3 hb4 hJ3 HG HBE
    generalize bestP l = bp at *
    go_wp2_with fail
    refine HG4.out.mono ?_
    rintro e w5 ⟨rfl, hb5⟩
    have c0 := (hb5.cell (p := ⟨w.heap.size, 0, none⟩) hz4).trans c0
    have c1 := (hb5.cell (p := ⟨w.heap.size, 1, none⟩) hz4).trans c1
    have hz5 : w.heap.size < w5.heap.size := Nat.lt_of_lt_of_le hz4 hb5.size
    have HB5 := Lib.hid (HB4.out.trans (hb5.mono HB4.out.size))
    have HGR5 := HGR w5 HB5.out
    clear hb5 HG4 HB4
    go_wp2_with fail
    refine HGR5.out.mono ?_
    rintro e w6 ⟨rfl, hb6⟩
    have c0 := (hb6.cell (p := ⟨w.heap.size, 0, none⟩) hz5).trans c0
    have c1 := (hb6.cell (p := ⟨w.heap.size, 1, none⟩) hz5).trans c1
    have hz6 : w.heap.size < w6.heap.size := Nat.lt_of_lt_of_le hz5 hb6.size
    have HB6 := Lib.hid (HB5.out.trans (hb6.mono HB5.out.size))
    clear hb6 HGR5 HGR
    cases po
    · have HBT6 := HBT w6 HB6.out
      rw [HPL.out rfl] at HBT6
      clear HPL HPG
      go_wp2_with fail
      refine HBT6.out.mono ?_
      rintro e w7 ⟨rfl, hb7⟩
      have HB7 := Lib.hid hb7
      clear hb7
      go_wp2
      go_ret
      exact ⟨rfl, HB6.out.trans (HB7.out.mono HB6.out.size)⟩
    · have hsl := HPG.out rfl
      have tge : Hid (decide (IntKind.i64.wrap (IntKind.i64.wrap (2 + IntKind.i64.wrap (5 * (kl : Int))) + (len : Int)) ≤ (sl : Int)) = true) := by
        show _ = _
        rw [IntWalk.i64_in (5 * (kl : Int)) ⟨by omega, by omega⟩, IntWalk.i64_in (2 + 5 * (kl : Int)) ⟨by omega, by omega⟩, IntWalk.i64_in _ ⟨by omega, by omega⟩]
        exact decide_eq_true (by omega)
      have HBT6 := HBT w6.drew (HB6.out.trans ((keeps_drew w6).below HB6.out.size (by simp)))
      clear HPL HPG hsl
      go_wp2_with fail
      go_region_with (go_at_call 13; refine HBT6.out.mono ?_; rintro e w7 ⟨rfl, hb7⟩; have d1 : w7.cell? ⟨w.heap.size, 1, none⟩ = some (.slice ao kl cap) := (hb7.cell (p := ⟨w.heap.size, 1, none⟩) hz6).trans c1)
      all_goals
        have HB7 : Hid (Below w.heap.size w w7) := HB6.out.trans (((keeps_drew w6).below HB6.out.size (by simp)).trans (hb7.mono HB6.out.size))
        clear hb7
        go_wp2
        go_ret
        refine ⟨?_, HB7.out⟩
        simp [go_sem]
        exact of_decide_eq_true tge.out

theorem slideLeast (lo ao : Option Addr) (lcap cap : Nat) (P : Int) (l ks : List Int) (w : World) (hcap : l.length ≤ lcap) (hi : IntsAt w lo l) (hj : IntsAt w ao ks) :
    Calls Try.prog 8 #[.slice lo l.length lcap, .agg #[.int .i64 P, .slice ao ks.length cap]] w fun e w' => e = .returned (.bool true) ∧ Below w.heap.size w w' := by
  cases h : fewOk l.length ks.length
  · exact least_much lo ao l.length lcap ks.length cap P w h
  · exact least_few lo ao lcap cap P l ks w hcap h hi hj
end Go.Proofs.Ytmkchnanmmjboaa

namespace Go.Proofs.Ytmkchnanmmjboaa
open Go.ChangeShapes Go.WideShapes Go.ChangeAt Go.RowKit Go.Proofs.PipeM
set_option maxRecDepth 100000

theorem cells_i : Try.prog.cellsOf 3 = 1 := by kernel_rfl
theorem cells_s : Try.prog.cellsOf 22 = 1 := by kernel_rfl
theorem cells_p : Try.prog.cellsOf 24 = 2 := by kernel_rfl

/-- Parts that came in. -/
theorem parts_of {H : Type} {enc : TypeId × Value → H} {W : World} {base : Nat} {held : Bool} {cs : Array Value} {d : DataW H} {ps : List MemPlace} (hsz : cs.size = Try.prog.cellsOf 24)
    (h : DataW.Trod enc Try.prog W base (fun _ => true) held 24 (.agg cs) d ps) :
    ∃ P a len cap zs, cs = #[.int .i64 P, .slice a len cap] ∧ (Lit.int .i64 P).wf = true ∧ IsRow .i64 W a len cap zs := by
  obtain ⟨fuel, hf⟩ := h
  rw [cells_p] at hsz
  obtain ⟨c0, c1, rfl⟩ : ∃ c0 c1, cs = #[c0, c1] := by
    obtain ⟨l⟩ := cs
    match l, hsz with
    | [c0, c1], _ => exact ⟨c0, c1, rfl⟩
  obtain ⟨y0, y1, n', _, _, h0, h1⟩ := trod_struct2 Try.underlying24 hf
  simp only [Value.cells, cells_i, cells_s, List.drop_zero, List.take_succ_cons, List.take_zero, List.drop_succ_cons] at h0 h1
  obtain ⟨k0, e0, _, w0⟩ := DataW.trod_int Try.underlying3 h0
  simp only [List.cons.injEq, and_true] at e0
  subst e0
  rcases open_ints Try.underlying22 Try.underlying3 (by kernel_rfl) h1 with ⟨hcs, _⟩ | ⟨x, l, c, zs, hcs, _, hl, hm, hz, _, hcell, hwz⟩
  · simp only [List.cons.injEq, and_true] at hcs
    subst hcs
    exact ⟨k0, none, 0, 0, [], rfl, w0, .inl ⟨rfl, rfl, rfl, rfl⟩⟩
  · simp only [List.cons.injEq, and_true] at hcs
    subst hcs
    exact ⟨k0, some x, l, c, zs, rfl, w0, .inr ⟨_, rfl, hl, hm, by simpa using hz, hcell, hwz⟩⟩

theorem row_cap {k : IntKind} {w : World} {a : Option Addr} {len cap : Nat} {zs : List Int} (h : IsRow k w a len cap zs) : len ≤ cap := by
  rcases h with ⟨_, rfl, rfl, _⟩ | ⟨_, _, h, _⟩
  · exact Nat.le_refl _
  · exact h
end Go.Proofs.Ytmkchnanmmjboaa

namespace Go.Proofs.Ytmkchnanmmjboaa.slideLeast
open Go.ChangeShapes Go.WideShapes Go.ChangeAt Go.RowKit Go.Proofs.PipeM
set_option linter.unusedVariables false

theorem own : ownKnob Try.prog.godebug = none := by kernel_rfl
theorem laidOut : laidOutB Try.prog = true := by kernel_rfl

theorem walk (a0 : Option Addr) (len0 cap0 : Nat) (z0 : List Int) (P1 : Int) (a1 : Option Addr) (len1 cap1 : Nat) (z1 : List Int) (w : World) (w0 : IsRow .i64 w a0 len0 cap0 z0) (wP1 : (Lit.int .i64 P1).wf = true) (w1 : IsRow .i64 w a1 len1 cap1 z1) :
    Calls Try.prog 8 #[.slice a0 len0 cap0, .agg #[.int .i64 P1, .slice a1 len1 cap1]] w fun e w' => e = .returned (.bool true) ∧ Below w.heap.size w w' := by
  obtain ⟨l, rfl, _, hi⟩ := ints_of_row w0
  obtain ⟨ks, rfl, _, hj⟩ := ints_of_row w1
  exact slideLeast a0 a1 cap0 cap1 P1 l ks w (row_cap w0) hi hj

set_option maxRecDepth 100000 in
theorem lifted (os : Os) (started : os.Started) (H : Type) (enc : TypeId × Value → H) :
    ReturnsInHanded {} Try.checked os 8 .any (Rows.slideLeastSpec.pre6 enc Try.prog Try.f8 Rows.slideLeastRow.domain false) (Rows.slideLeastSpec.post enc Try.prog Try.f8 false true false false) := by
  refine returnsInHanded_of_change (C := Try.checked) own started (by kernel_rfl) Try.func8
    (ChangeSpec.witness6 (enc := enc) (C := Try.checked) false ⟨#[], #[.slice none 0 0, .agg #[.int .i64 0, .slice none 0 0]], []⟩ 8 (by kernel_rfl) (by kernel_rfl) (by kernel_rfl) (by kernel_rfl)) ?_
  intro W base args ds gs before hval0 hW hcnd _
  have hval : ∀ (j : Nat) t v, Try.f8.params[j]? = some t → args[j]? = some v → Value.okWide Try.prog W .any base t v := hval0
  have hW' := hW
  obtain ⟨p, q, hA0, hV, rfl, hfz, hnd⟩ := hW
  have hA : DataW.TrodAll enc Try.prog W 0 (fun _ => true) true Try.f8.params.toList args.toList ds p := hA0
  rw [Try.params8] at hA hval
  obtain ⟨v0, vs0, d0, ds0, p0, q0, hargs, rfl, rfl, h0, r0⟩ := trodAll_cons hA
  obtain ⟨v1, vs1, d1, ds1, p1, q1, rfl, rfl, rfl, h1, r1⟩ := trodAll_cons r0
  obtain ⟨rfl, rfl, rfl⟩ := trodAll_nil r1
  obtain rfl : args = #[v0, v1] := by cases args; simp_all
  obtain ⟨rfl, rfl⟩ := trodVars_none hV
  obtain ⟨a0, len0, cap0, rfl⟩ := okWide_slice Try.underlying22 (hval 0 22 v0 rfl rfl)
  have k0 := h0
  have lt0 : ∀ x ∈ p0, x.block < W.heap.size := by obtain ⟨m, hm⟩ := k0; exact DataW.trod_lt m _ _ _ hm
  obtain ⟨z0, w0⟩ : ∃ zs, IsRow .i64 W a0 len0 cap0 zs := by
    obtain ⟨fuel, hf⟩ := h0
    rcases open_ints Try.underlying22 Try.underlying3 (by kernel_rfl) hf with ⟨hcs, _⟩ | ⟨x, l, c, zs, hcs, _, hl, hm, hz, _, hcell, hwz⟩
    · simp [Value.cells] at hcs
      obtain ⟨rfl, rfl, rfl⟩ := hcs
      exact ⟨[], .inl ⟨rfl, rfl, rfl, rfl⟩⟩
    · simp [Value.cells] at hcs
      obtain ⟨rfl, rfl, rfl⟩ := hcs
      exact ⟨zs, .inr ⟨_, rfl, hl, hm, by simpa using hz, hcell, hwz⟩⟩
  obtain ⟨cs1, rfl, hsz1⟩ := okWide_struct Try.underlying24 (hval 1 24 v1 rfl rfl)
  have k1 := h1
  have lt1 : ∀ x ∈ p1, x.block < W.heap.size := by obtain ⟨m, hm⟩ := k1; exact DataW.trod_lt m _ _ _ hm
  obtain ⟨P1, a1, len1, cap1, z1, rfl, wP1, w1⟩ := parts_of hsz1 h1
  clear hA0 hval0
  refine (walk a0 len0 cap0 z0 P1 a1 len1 cap1 z1 W w0 wP1 w1).mono fun e W' ⟨he, bel⟩ => ?_
  subst he
  exact ⟨_, rfl, _, _, _, [], _, [], hW', trodAll_mk1 (shut_bool Try.underlying4 _), (trodAll_cons_mk (Below.trod laidOut (by kernel_rfl) (of_decide_eq_true (by kernel_rfl)) k0 bel lt0) (trodAll_cons_mk (Below.trod laidOut (by kernel_rfl) (of_decide_eq_true (by kernel_rfl)) k1 bel lt1) trodAll_mk0)), rfl, bel.frame _, fun h => by cases h⟩

theorem over : Rows.slideLeastRow.holds Try.pinned (OpenSpec.ofChange Rows.slideLeastSpec) :=
  OpenClaim.holds_of_wide 8 Try.f8 rfl rfl rfl rfl rfl rfl rfl ⟨rfl, rfl, rfl, rfl, rfl⟩ rfl rfl rfl rfl rfl (by kernel_rfl) Try.func8 (by kernel_rfl)
    (of_decide_eq_true (by kernel_rfl)) (by unfold Func.isWrapper; first | (rw [if_pos (by decide +kernel)]; kernel_rfl) | (rw [if_neg (by decide +kernel)]; exact ⟨rfl, rfl⟩))
    (fun os started H enc _ => lifted os started H enc)

theorem proved : Rows.SlideLeastSaid := over
end Go.Proofs.Ytmkchnanmmjboaa.slideLeast
