/-
  PROVED: 'WeftBacks' answers true for every input, and leaves its arguments as they were.
  Conditions: none.
-/
import Derived.Test.YtbbcemgcanclnaaRows
import Derived.Test.YtbbcemgcanclnaaArgsWf
import Derived.Test.YtbbcemgcanclnaaWefL3
namespace Go.Proofs.Ytbbcemgcanclnaa.weftBacks
open Go.ChangeShapes Go.WideShapes Go.ChangeAt Go.RowKit Go.Proofs.WefM
set_option linter.unusedVariables false

theorem own : ownKnob Try.prog.godebug = none := by kernel_rfl
theorem laidOut : laidOutB Try.prog = true := by kernel_rfl

theorem walk (S0 : Bool) (I01 I02 I03 I04 : Int) (a10 : Option Addr) (len10 cap10 : Nat) (z10 : List Int) (a11 : Option Addr) (len11 cap11 : Nat) (z11 : List Int) (a2 : Int) (w : World) (w01 : (Lit.int .i64 I01).wf = true) (w02 : (Lit.int .i64 I02).wf = true) (w03 : (Lit.int .i64 I03).wf = true) (w04 : (Lit.int .i64 I04).wf = true) (w10 : IsRow .i64 w a10 len10 cap10 z10) (w11 : IsRow .i64 w a11 len11 cap11 z11) (w2 : (Lit.int .i64 a2).wf = true) :
    Calls Try.prog 4 #[.agg #[.bool S0, .int .i64 I01, .int .i64 I02, .int .i64 I03, .int .i64 I04], .agg #[.slice a10 len10 cap10, .slice a11 len11 cap11], .int .i64 a2] w fun e w' => e = .returned (.bool true) ∧ Below w.heap.size w w' := by
  obtain ⟨own, rfl, _, hc, hb, hi⟩ := ints_of_row w10
  obtain ⟨m, rfl, _, hc2, _, hj⟩ := ints_of_row w11
  exact weftBacks ⟨S0, I01, I02, I03, I04⟩ a10 a11 cap10 cap11 own m a2 w (by unfold WvIn I64; exact ⟨i64_wf w01, i64_wf w02, i64_wf w03, i64_wf w04⟩) (i64_wf w2) hb hc hc2 hi hj

set_option maxRecDepth 100000 in
theorem lifted (os : Os) (started : os.Started) (H : Type) (enc : TypeId × Value → H) :
    ReturnsInHanded {} Try.checked os 4 .any (Rows.weftBacksSpec.pre6 enc Try.prog Try.f4 Rows.weftBacksRow.domain false) (Rows.weftBacksSpec.post enc Try.prog Try.f4 false true false false) := by
  refine returnsInHanded_of_change (C := Try.checked) own started (by kernel_rfl) Try.func4
    (ChangeSpec.witness6 (enc := enc) (C := Try.checked) false ⟨#[], #[.agg #[.bool false, .int .i64 0, .int .i64 0, .int .i64 0, .int .i64 0], .agg #[.slice none 0 0, .slice none 0 0], .int .i64 0], []⟩ 8 (by kernel_rfl) (by kernel_rfl) (by kernel_rfl) (by kernel_rfl)) ?_
  intro W base args ds gs before hval0 hW hcnd _
  have hval : ∀ (j : Nat) t v, Try.f4.params[j]? = some t → args[j]? = some v → Value.okWide Try.prog W .any base t v := hval0
  have hW' := hW
  obtain ⟨p, q, hA0, hV, rfl, hfz, hnd⟩ := hW
  have hA : DataW.TrodAll enc Try.prog W 0 (fun _ => true) true Try.f4.params.toList args.toList ds p := hA0
  rw [Try.params4] at hA hval
  obtain ⟨v0, vs0, d0, ds0, p0, q0, hargs, rfl, rfl, h0, r0⟩ := trodAll_cons hA
  obtain ⟨v1, vs1, d1, ds1, p1, q1, rfl, rfl, rfl, h1, r1⟩ := trodAll_cons r0
  obtain ⟨v2, vs2, d2, ds2, p2, q2, rfl, rfl, rfl, h2, r2⟩ := trodAll_cons r1
  obtain ⟨rfl, rfl, rfl⟩ := trodAll_nil r2
  obtain rfl : args = #[v0, v1, v2] := by cases args; simp_all
  obtain ⟨rfl, rfl⟩ := trodVars_none hV
  obtain ⟨cs0, rfl, hsz0⟩ := okWide_struct Try.underlying24 (hval 0 24 v0 rfl rfl)
  have k0 := h0
  have lt0 : ∀ x ∈ p0, x.block < W.heap.size := by obtain ⟨m, hm⟩ := k0; exact DataW.trod_lt m _ _ _ hm
  obtain ⟨S0, I01, I02, I03, I04, rfl, w01, w02, w03, w04⟩ := weave_of hsz0 h0
  obtain ⟨cs1, rfl, hsz1⟩ := okWide_struct Try.underlying36 (hval 1 36 v1 rfl rfl)
  have k1 := h1
  have lt1 : ∀ x ∈ p1, x.block < W.heap.size := by obtain ⟨m, hm⟩ := k1; exact DataW.trod_lt m _ _ _ hm
  obtain ⟨a10, len10, cap10, z10, a11, len11, cap11, z11, rfl, w10, w11⟩ := two_of hsz1 h1
  obtain ⟨a2, rfl, rfl, rfl, w2⟩ := open_int Try.underlying3 (hval 2 3 v2 rfl rfl) h2
  clear hA0 hval0
  refine (walk S0 I01 I02 I03 I04 a10 len10 cap10 z10 a11 len11 cap11 z11 a2 W w01 w02 w03 w04 w10 w11 w2).mono fun e W' ⟨he, bel⟩ => ?_
  subst he
  exact ⟨_, rfl, _, _, _, [], _, [], hW', trodAll_mk1 (shut_bool Try.underlying4 _), (trodAll_cons_mk (Below.trod laidOut (by kernel_rfl) (of_decide_eq_true (by kernel_rfl)) k0 bel lt0) (trodAll_cons_mk (Below.trod laidOut (by kernel_rfl) (of_decide_eq_true (by kernel_rfl)) k1 bel lt1) (trodAll_cons_mk (shut_int Try.underlying3 w2) trodAll_mk0))), rfl, bel.frame _, fun h => by cases h⟩

theorem over : Rows.weftBacksRow.holds Try.pinned (OpenSpec.ofChange Rows.weftBacksSpec) :=
  OpenClaim.holds_of_wide 4 Try.f4 rfl rfl rfl rfl rfl rfl rfl ⟨rfl, rfl, rfl, rfl, rfl⟩ rfl rfl rfl rfl rfl (by kernel_rfl) Try.func4 (by kernel_rfl)
    (of_decide_eq_true (by kernel_rfl)) (by unfold Func.isWrapper; first | (rw [if_pos (by decide +kernel)]; kernel_rfl) | (rw [if_neg (by decide +kernel)]; exact ⟨rfl, rfl⟩))
    (fun os started H enc _ => lifted os started H enc)

theorem proved : Rows.WeftBacksSaid := over
end Go.Proofs.Ytbbcemgcanclnaa.weftBacks
