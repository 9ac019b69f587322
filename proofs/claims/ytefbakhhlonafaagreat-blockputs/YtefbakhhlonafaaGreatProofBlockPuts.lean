/-
  PROVED: 'BlockPuts' answers true for every input, and leaves its arguments as they were.
  Conditions: none.
-/
import Derived.Test.YtefbakhhlonafaaGreatRows
import Derived.Test.YtefbakhhlonafaaGreatLagM
import Derived.Test.YtefbakhhlonafaaGreatArgsBk
import Derived.Test.YtefbakhhlonafaaGreatBlkL3

namespace Go.Proofs.YtefbakhhlonafaaGreat.blockPuts
open Go.ChangeShapes Go.WideShapes Go.ChangeAt Go.RowKit Go.Proofs.BlkM Go.Proofs.BlkB
set_option linter.unusedVariables false

theorem own : ownKnob Tryz.prog.godebug = none := by kernel_rfl
theorem laidOut : laidOutB Tryz.prog = true := by kernel_rfl

theorem walk (I00 I01 I02 I04 I05 I06 : Int) (a03 : Option Addr) (len03 cap03 : Nat) (z03 : List Int) (a07 : Option Addr) (len07 cap07 : Nat) (z07 : List Int) (a08 : Option Addr) (len08 cap08 : Nat) (z08 : List Int) (a1 : Int) (a2 : Int) (w : World) (w00 : (Lit.int .i64 I00).wf = true) (w01 : (Lit.int .i64 I01).wf = true) (w02 : (Lit.int .i64 I02).wf = true) (w04 : (Lit.int .i64 I04).wf = true) (w05 : (Lit.int .i64 I05).wf = true) (w06 : (Lit.int .i64 I06).wf = true) (w03 : IsRow .i64 w a03 len03 cap03 z03) (w07 : IsRow .i64 w a07 len07 cap07 z07) (w08 : IsRow .i64 w a08 len08 cap08 z08) (w1 : (Lit.int .i64 a1).wf = true) (w2 : (Lit.int .i64 a2).wf = true) :
    Calls Tryz.prog 3 #[.agg #[.int .i64 I00, .int .i64 I01, .int .i64 I02, .slice a03 len03 cap03, .int .i64 I04, .int .i64 I05, .int .i64 I06, .slice a07 len07 cap07, .slice a08 len08 cap08], .int .i64 a1, .int .i64 a2] w fun e w' => e = .returned (.bool true) ∧ Below w.heap.size w w' := by
  refine blockPuts ⟨I00, I01, I02, [], I04, I05, I06, [], []⟩ a03 a07 a08 len03 cap03 len07 cap07 len08 cap08 a1 a2 w ⟨i64_in_b w01, i64_in_b w02, i64_in_b w04, i64_in_b w05, i64_in_b w06⟩ (fun hl => ?_)
  simp only [Bool.and_eq_true, decide_eq_true_eq] at hl
  exact blk_in w03 w07 w08 (by omega) (by omega) (by omega)

set_option maxRecDepth 100000 in
theorem lifted (os : Os) (started : os.Started) (H : Type) (enc : TypeId × Value → H) :
    ReturnsInHanded {} Tryz.checked os 3 .any (Rows.blockPutsSpec.pre6 enc Tryz.prog Tryz.f3 Rows.blockPutsRow.domain false) (Rows.blockPutsSpec.post enc Tryz.prog Tryz.f3 false true false false) := by
  refine returnsInHanded_of_change (C := Tryz.checked) own started (by kernel_rfl) Tryz.func3
    (ChangeSpec.witness6 (enc := enc) (C := Tryz.checked) false ⟨#[], #[.agg #[.int .i64 0, .int .i64 0, .int .i64 0, .slice none 0 0, .int .i64 0, .int .i64 0, .int .i64 0, .slice none 0 0, .slice none 0 0], .int .i64 0, .int .i64 0], []⟩ 8 (by kernel_rfl) (by kernel_rfl) (by kernel_rfl) (by kernel_rfl)) ?_
  intro W base args ds gs before hval0 hW hcnd _
  have hval : ∀ (j : Nat) t v, Tryz.f3.params[j]? = some t → args[j]? = some v → Value.okWide Tryz.prog W .any base t v := hval0
  have hW' := hW
  obtain ⟨p, q, hA0, hV, rfl, hfz, hnd⟩ := hW
  have hA : DataW.TrodAll enc Tryz.prog W 0 (fun _ => true) true Tryz.f3.params.toList args.toList ds p := hA0
  rw [Tryz.params3] at hA hval
  obtain ⟨v0, vs0, d0, ds0, p0, q0, hargs, rfl, rfl, h0, r0⟩ := trodAll_cons hA
  obtain ⟨v1, vs1, d1, ds1, p1, q1, rfl, rfl, rfl, h1, r1⟩ := trodAll_cons r0
  obtain ⟨v2, vs2, d2, ds2, p2, q2, rfl, rfl, rfl, h2, r2⟩ := trodAll_cons r1
  obtain ⟨rfl, rfl, rfl⟩ := trodAll_nil r2
  obtain rfl : args = #[v0, v1, v2] := by cases args; simp_all
  obtain ⟨rfl, rfl⟩ := trodVars_none hV
  obtain ⟨cs0, rfl, hsz0⟩ := okWide_struct Tryz.underlying24 (hval 0 24 v0 rfl rfl)
  have k0 := h0
  have lt0 : ∀ x ∈ p0, x.block < W.heap.size := by obtain ⟨m, hm⟩ := k0; exact DataW.trod_lt m _ _ _ hm
  obtain ⟨I00, I01, I02, a03, len03, cap03, z03, I04, I05, I06, a07, len07, cap07, z07, a08, len08, cap08, z08, rfl, w00, w01, w02, w03, w04, w05, w06, w07, w08⟩ := block_of hsz0 h0
  obtain ⟨a1, rfl, rfl, rfl, w1⟩ := open_int Tryz.underlying3 (hval 1 3 v1 rfl rfl) h1
  obtain ⟨a2, rfl, rfl, rfl, w2⟩ := open_int Tryz.underlying3 (hval 2 3 v2 rfl rfl) h2
  clear hA0 hval0
  refine (walk I00 I01 I02 I04 I05 I06 a03 len03 cap03 z03 a07 len07 cap07 z07 a08 len08 cap08 z08 a1 a2 W w00 w01 w02 w04 w05 w06 w03 w07 w08 w1 w2).mono fun e W' ⟨he, bel⟩ => ?_
  subst he
  exact ⟨_, rfl, _, _, _, [], _, [], hW', trodAll_mk1 (shut_bool Tryz.underlying4 _), (trodAll_cons_mk (Below.trod laidOut (by kernel_rfl) (of_decide_eq_true (by kernel_rfl)) k0 bel lt0) (trodAll_cons_mk (shut_int Tryz.underlying3 w1) (trodAll_cons_mk (shut_int Tryz.underlying3 w2) trodAll_mk0))), rfl, bel.frame _, fun h => by cases h⟩

theorem over : Rows.blockPutsRow.holds Tryz.pinned (OpenSpec.ofChange Rows.blockPutsSpec) :=
  OpenClaim.holds_of_wide 3 Tryz.f3 rfl rfl rfl rfl rfl rfl rfl ⟨rfl, rfl, rfl, rfl, rfl⟩ rfl rfl rfl rfl rfl (by kernel_rfl) Tryz.func3 (by kernel_rfl)
    (of_decide_eq_true (by kernel_rfl)) (by unfold Func.isWrapper; first | (rw [if_pos (by decide +kernel)]; kernel_rfl) | (rw [if_neg (by decide +kernel)]; exact ⟨rfl, rfl⟩))
    (fun os started H enc _ => lifted os started H enc)

theorem proved : Rows.BlockPutsSaid := over
end Go.Proofs.YtefbakhhlonafaaGreat.blockPuts
