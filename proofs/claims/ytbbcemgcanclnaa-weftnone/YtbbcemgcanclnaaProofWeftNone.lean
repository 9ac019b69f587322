/-
  PROVED: 'WeftNone' answers true for every input, and leaves its arguments as they were.
  Conditions: none.
-/
import Derived.Test.YtbbcemgcanclnaaRows
import Derived.Test.YtbbcemgcanclnaaArgsWf
import Derived.Test.YtbbcemgcanclnaaWefL4
namespace Go.Proofs.Ytbbcemgcanclnaa.weftNone
open Go.ChangeShapes Go.WideShapes Go.ChangeAt Go.RowKit Go.Proofs.WefM
set_option linter.unusedVariables false

theorem own : ownKnob Try.prog.godebug = none := by kernel_rfl
theorem laidOut : laidOutB Try.prog = true := by kernel_rfl

theorem walk (a00 : Option Addr) (len00 cap00 : Nat) (z00 : List Int) (a01 : Option Addr) (len01 cap01 : Nat) (z01 : List Int) (w : World) (w00 : IsRow .i64 w a00 len00 cap00 z00) (w01 : IsRow .i64 w a01 len01 cap01 z01) :
    Calls Try.prog 7 #[.agg #[.slice a00 len00 cap00, .slice a01 len01 cap01]] w fun e w' => e = .returned (.bool true) ∧ Below w.heap.size w w' := by
  obtain ⟨own, rfl, _, hc, _, hi⟩ := ints_of_row w00
  obtain ⟨m, rfl, _, hc2, _, hj⟩ := ints_of_row w01
  exact weftNone a00 a01 cap00 cap01 own m w hc hc2 hi hj

set_option maxRecDepth 100000 in
theorem lifted (os : Os) (started : os.Started) (H : Type) (enc : TypeId × Value → H) :
    ReturnsInHanded {} Try.checked os 7 .any (Rows.weftNoneSpec.pre6 enc Try.prog Try.f7 Rows.weftNoneRow.domain false) (Rows.weftNoneSpec.post enc Try.prog Try.f7 false true false false) := by
  refine returnsInHanded_of_change (C := Try.checked) own started (by kernel_rfl) Try.func7
    (ChangeSpec.witness6 (enc := enc) (C := Try.checked) false ⟨#[], #[.agg #[.slice none 0 0, .slice none 0 0]], []⟩ 8 (by kernel_rfl) (by kernel_rfl) (by kernel_rfl) (by kernel_rfl)) ?_
  intro W base args ds gs before hval0 hW hcnd _
  have hval : ∀ (j : Nat) t v, Try.f7.params[j]? = some t → args[j]? = some v → Value.okWide Try.prog W .any base t v := hval0
  have hW' := hW
  obtain ⟨p, q, hA0, hV, rfl, hfz, hnd⟩ := hW
  have hA : DataW.TrodAll enc Try.prog W 0 (fun _ => true) true Try.f7.params.toList args.toList ds p := hA0
  rw [Try.params7] at hA hval
  obtain ⟨v0, vs0, d0, ds0, p0, q0, hargs, rfl, rfl, h0, r0⟩ := trodAll_cons hA
  obtain ⟨rfl, rfl, rfl⟩ := trodAll_nil r0
  obtain rfl : args = #[v0] := by cases args; simp_all
  obtain ⟨rfl, rfl⟩ := trodVars_none hV
  obtain ⟨cs0, rfl, hsz0⟩ := okWide_struct Try.underlying36 (hval 0 36 v0 rfl rfl)
  have k0 := h0
  have lt0 : ∀ x ∈ p0, x.block < W.heap.size := by obtain ⟨m, hm⟩ := k0; exact DataW.trod_lt m _ _ _ hm
  obtain ⟨a00, len00, cap00, z00, a01, len01, cap01, z01, rfl, w00, w01⟩ := two_of hsz0 h0
  clear hA0 hval0
  refine (walk a00 len00 cap00 z00 a01 len01 cap01 z01 W w00 w01).mono fun e W' ⟨he, bel⟩ => ?_
  subst he
  exact ⟨_, rfl, _, _, _, [], _, [], hW', trodAll_mk1 (shut_bool Try.underlying4 _), (trodAll_cons_mk (Below.trod laidOut (by kernel_rfl) (of_decide_eq_true (by kernel_rfl)) k0 bel lt0) trodAll_mk0), rfl, bel.frame _, fun h => by cases h⟩

theorem over : Rows.weftNoneRow.holds Try.pinned (OpenSpec.ofChange Rows.weftNoneSpec) :=
  OpenClaim.holds_of_wide 7 Try.f7 rfl rfl rfl rfl rfl rfl rfl ⟨rfl, rfl, rfl, rfl, rfl⟩ rfl rfl rfl rfl rfl (by kernel_rfl) Try.func7 (by kernel_rfl)
    (of_decide_eq_true (by kernel_rfl)) (by unfold Func.isWrapper; first | (rw [if_pos (by decide +kernel)]; kernel_rfl) | (rw [if_neg (by decide +kernel)]; exact ⟨rfl, rfl⟩))
    (fun os started H enc _ => lifted os started H enc)

theorem proved : Rows.WeftNoneSaid := over
end Go.Proofs.Ytbbcemgcanclnaa.weftNone
