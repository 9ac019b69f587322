import Derived.Test.YtbbcemgcanclnaaWefC1
import Derived.Test.YtbbcemgcanclnaaWefF5
namespace Go.Proofs.Ytbbcemgcanclnaa
open Go.RowKit Go.Proofs Go.Proofs.PipeM Go.Proofs.PipeA Go.Proofs.WefM
set_option maxRecDepth 100000

theorem eqIn_int0 (d : Nat) (W : World) (a : Int) : (Op.equalIn (d + 1) 3 (.int .i64 a) (.int .i64 0)).run Try.prog W = .ok (a == 0) W := by
  cases h : (a == 0) with
  | false => exact eqIn_int_no d W a 0 h
  | true =>
    have : a = 0 := by simpa using h
    subst this
    exact eqIn_int d W 0
theorem eqIn_gains (d : Nat) (W : World) (a b c : Int) : (Op.equalIn (d + 2) 57 (.agg #[.int .i64 a, .int .i64 b, .int .i64 c]) (.agg #[.int .i64 0, .int .i64 0, .int .i64 0])).run Try.prog W = .ok ((a == 0) && (b == 0) && (c == 0)) W := by
  have h := eqIn_int0 d W
  rw [Op.equalIn]
  cases ha : (a == 0) <;> cases hb : (b == 0) <;> cases hc : (c == 0) <;>
    simp [run_underlying Try.underlying57, show List.range' 0 3 = [0, 1, 2] from rfl, List.forIn_cons, h, ha, hb, hc, go_sem]
theorem eqIn_arr0 (d : Nat) (W : World) (a b c : Int) : (Op.equalIn (d + 2) 22 (.agg #[.int .i64 a, .int .i64 b, .int .i64 c]) (.agg #[.int .i64 0, .int .i64 0, .int .i64 0])).run Try.prog W = .ok ((a == 0) && (b == 0) && (c == 0)) W := by
  have h := eqIn_int0 d W
  rw [Op.equalIn]
  cases ha : (a == 0) <;> cases hb : (b == 0) <;> cases hc : (c == 0) <;>
    simp [run_underlying Try.underlying22, show List.range' 0 3 = [0, 1, 2] from rfl, List.forIn_cons, h, ha, hb, hc, go_sem]
theorem eqIn_weave0 (d : Nat) (W : World) (m a b c : Int) : (Op.equalIn (d + 3) 24 (.agg #[.bool false, .int .i64 m, .int .i64 a, .int .i64 b, .int .i64 c]) (.agg #[.bool false, .int .i64 0, .int .i64 0, .int .i64 0, .int .i64 0])).run Try.prog W = .ok ((m == 0) && ((a == 0) && (b == 0) && (c == 0))) W := by
  have h3 := eqIn_arr0 d W a b c
  have hs : Try.prog.stoodInHeld 24 = false := by kernel_rfl
  generalize ((a == 0) && (b == 0) && (c == 0)) = z at h3 ⊢
  rw [Op.equalIn]
  cases hm : (m == 0) <;> cases z <;>
    simp [run_underlying Try.underlying24, hs, h3, hm, go_sem]
theorem noneG_eq (x : Wv) : ((x.g0 == 0) && (x.g1 == 0) && (x.g2 == 0)) = noneG x := rfl
theorem neq_gains (x : Wv) (W : World) : (binOp .neq 57 (.agg #[.int .i64 x.g0, .int .i64 x.g1, .int .i64 x.g2]) (.agg #[.int .i64 0, .int .i64 0, .int .i64 0])).run Try.prog W = .ok (.bool (!noneG x)) W := by
  have h : (Op.equal 57 (.agg #[.int .i64 x.g0, .int .i64 x.g1, .int .i64 x.g2]) (.agg #[.int .i64 0, .int .i64 0, .int .i64 0])).run Try.prog W = .ok (noneG x) W := eqIn_gains 9998 W x.g0 x.g1 x.g2
  simp [binOp, h, go_sem]
theorem guard_gains (W : World) (x y : Operand) (u v : Array Value) : (eqGuard .neq 57 x y (.agg u) (.agg v)).run Try.prog W = .ok () W := by
  have h : Try.prog.eqGuardType Try.prog.depth 57 = false := by kernel_rfl
  simp [eqGuard, h, go_sem]
theorem bin_weave0 (x : Wv) (W : World) (hs : x.some = false) : (binOp .eql 24 (.agg #[.bool false, .int .i64 x.master, .int .i64 x.g0, .int .i64 x.g1, .int .i64 x.g2]) (.agg #[.bool false, .int .i64 0, .int .i64 0, .int .i64 0, .int .i64 0])).run Try.prog W = .ok (.bool (goodW x 8)) W := by
  have h : (Op.equal 24 (.agg #[.bool false, .int .i64 x.master, .int .i64 x.g0, .int .i64 x.g1, .int .i64 x.g2]) (.agg #[.bool false, .int .i64 0, .int .i64 0, .int .i64 0, .int .i64 0])).run Try.prog W = .ok (goodW x 8) W := by
    have := eqIn_weave0 9997 W x.master x.g0 x.g1 x.g2
    rw [noneG_eq, Bool.and_comm] at this
    unfold goodW
    rw [hs]
    exact this
  simp [binOp, h, go_sem]

/-- Three numbers in a box. -/
theorem ints_box3 (w : World) (a b c : Int) (t : TypeId) : IntsAt (w.alloc (.cells #[.int .i64 a, .int .i64 b, .int .i64 c] t)) (some ⟨w.heap.size, 0, none⟩) [a, b, c] := by
  have h := box3_new w a b c t
  intro j hj
  simp only [List.length_cons, List.length_nil] at hj
  have h3 : j = 0 ∨ j = 1 ∨ j = 2 := by omega
  rcases h3 with rfl | rfl | rfl
  · exact ⟨_, 0, rfl, h.lt, h.c0⟩
  · exact ⟨_, 0, rfl, h.lt, h.c1⟩
  · exact ⟨_, 0, rfl, h.lt, h.c2⟩

set_option maxHeartbeats 800000 in
theorem cAreGood (x : Wv) (w : World) :
    Calls Try.prog 39 #[gnV x] w fun e w' => e = .returned (.bool (!noneG x && (gIn x.g0 && (gIn x.g1 && gIn x.g2)))) ∧ Below w.heap.size w w' := by
  have HB := Lib.hid (box_below w (.cells #[.int .i64 x.g0, .int .i64 x.g1, .int .i64 x.g2] 57))
  have hA : ([x.g0, x.g1, x.g2].all gIn) = (gIn x.g0 && (gIn x.g1 && gIn x.g2)) := by simp
  have HC := Lib.hid (cAnyNoGain (some ⟨w.heap.size, 0, none⟩) 3 [x.g0, x.g1, x.g2] _ (by simp) (ints_box3 w x.g0 x.g1 x.g2 57))
  rw [hA] at HC
  obtain ⟨W0, hW0⟩ : ∃ W0, W0 = w.alloc (.cells #[.int .i64 x.g0, .int .i64 x.g1, .int .i64 x.g2] 57) := ⟨_, rfl⟩
  rw [← hW0] at HC
  simp only [List.length_cons, List.length_nil] at HC
  have hq : ∀ W, (binOp .neq 57 (.agg #[.int .i64 x.g0, .int .i64 x.g1, .int .i64 x.g2]) (.agg #[.int .i64 0, .int .i64 0, .int .i64 0])).run Try.prog W = .ok (.bool (!noneG x)) W := neq_gains x
  have hg : ∀ (W : World) (y z : Operand), (eqGuard .neq 57 y z (.agg #[.int .i64 x.g0, .int .i64 x.g1, .int .i64 x.g2]) (.agg #[.int .i64 0, .int .i64 0, .int .i64 0])).run Try.prog W = .ok () W := fun W y z => guard_gains W y z _ _
  have HW0 := Lib.hid hW0
  unfold gnV
  generalize (gIn x.g0 && (gIn x.g1 && gIn x.g2)) = d at *
  generalize hn : noneG x = n at *
  clear hA hn hW0
  cases n with
  | true =>
    clear HC
    go_enter Try.func39, Try.ntmps39
    go_wp2
    go_ret
    exact ⟨rfl, HB.out⟩
  | false =>
    go_enter Try.func39, Try.ntmps39
    go_wp2_with fail
    rw [← HW0.out]
    refine HC.out.mono ?_
    rintro e w1 ⟨rfl, rfl⟩
    go_wp2
    go_ret
    exact ⟨by simp, by rw [HW0.out]; exact HB.out⟩
end Go.Proofs.Ytbbcemgcanclnaa
