import Derived.Test.YtbbcemgcanclnaaWefF1
namespace Go.Proofs.Ytbbcemgcanclnaa
open Go.RowKit Go.Proofs Go.Proofs.PipeM Go.Proofs.PipeA Go.Proofs.WefM
set_option maxRecDepth 100000
theorem eqIn_int (d : Nat) (W : World) (a : Int) : (Op.equalIn (d + 1) 3 (.int .i64 a) (.int .i64 a)).run Try.prog W = .ok true W := by
  simp [Op.equalIn, run_underlying Try.underlying3]
theorem eqIn_bool (d : Nat) (W : World) (a : Bool) : (Op.equalIn (d + 1) 4 (.bool a) (.bool a)).run Try.prog W = .ok true W := by
  simp [Op.equalIn, run_underlying Try.underlying4]
theorem eqIn_arr (d : Nat) (W : World) (a b c : Int) : (Op.equalIn (d + 2) 22 (.agg #[.int .i64 a, .int .i64 b, .int .i64 c]) (.agg #[.int .i64 a, .int .i64 b, .int .i64 c])).run Try.prog W = .ok true W := by
  have h := eqIn_int d W
  rw [Op.equalIn]
  simp [run_underlying Try.underlying22, show List.range' 0 3 = [0, 1, 2] from rfl, List.forIn_cons, h, go_sem]
theorem eqIn_weave (d : Nat) (W : World) (s : Bool) (a b c e : Int) : (Op.equalIn (d + 3) 24 (.agg #[.bool s, .int .i64 a, .int .i64 b, .int .i64 c, .int .i64 e]) (.agg #[.bool s, .int .i64 a, .int .i64 b, .int .i64 c, .int .i64 e])).run Try.prog W = .ok true W := by
  have h3 := eqIn_arr d W
  have hs : Try.prog.stoodInHeld 24 = false := by kernel_rfl
  rw [Op.equalIn]
  simp [run_underlying Try.underlying24, hs, h3, go_sem]
theorem eq_weave (W : World) (s : Bool) (a b c e : Int) : (Op.equal 24 (.agg #[.bool s, .int .i64 a, .int .i64 b, .int .i64 c, .int .i64 e]) (.agg #[.bool s, .int .i64 a, .int .i64 b, .int .i64 c, .int .i64 e])).run Try.prog W = .ok true W := eqIn_weave 9997 W s a b c e
theorem guard_weave (W : World) (x y : Operand) (u v : Array Value) : (eqGuard .eql 24 x y (.agg u) (.agg v)).run Try.prog W = .ok () W := by
  have h : Try.prog.eqGuardType Try.prog.depth 24 = false := by kernel_rfl
  simp [eqGuard, h, go_sem]
theorem bin_weave (W : World) (s : Bool) (a b c e : Int) : (binOp .eql 24 (.agg #[.bool s, .int .i64 a, .int .i64 b, .int .i64 c, .int .i64 e]) (.agg #[.bool s, .int .i64 a, .int .i64 b, .int .i64 c, .int .i64 e])).run Try.prog W = .ok (.bool true) W := by
  simp [binOp, eq_weave, go_sem]
theorem eqIn_int_no (d : Nat) (W : World) (a b : Int) (h : (a == b) = false) : (Op.equalIn (d + 1) 3 (.int .i64 a) (.int .i64 b)).run Try.prog W = .ok false W := by
  simp only [Op.equalIn]
  simp [run_underlying Try.underlying3, h]
theorem eqIn_arr_no (d : Nat) (W : World) (g : Int) (hg : (g == 0) = false) : (Op.equalIn (d + 2) 22 (.agg #[.int .i64 0, .int .i64 g, .int .i64 0]) (.agg #[.int .i64 0, .int .i64 0, .int .i64 0])).run Try.prog W = .ok false W := by
  have h2 := eqIn_int_no d W g 0 hg
  rw [Op.equalIn]
  simp [run_underlying Try.underlying22, show List.range' 0 3 = [0, 1, 2] from rfl, List.forIn_cons, h2, go_sem]
theorem neq_arr (W : World) (a b c : Int) : (binOp .neq 22 (.agg #[.int .i64 a, .int .i64 b, .int .i64 c]) (.agg #[.int .i64 a, .int .i64 b, .int .i64 c])).run Try.prog W = .ok (.bool false) W := by
  have h : (Op.equal 22 (.agg #[.int .i64 a, .int .i64 b, .int .i64 c]) (.agg #[.int .i64 a, .int .i64 b, .int .i64 c])).run Try.prog W = .ok true W := eqIn_arr 9998 W a b c
  simp [binOp, h, go_sem]
theorem neq_arr_no (W : World) (g : Int) (hg : (g == 0) = false) : (binOp .neq 22 (.agg #[.int .i64 0, .int .i64 g, .int .i64 0]) (.agg #[.int .i64 0, .int .i64 0, .int .i64 0])).run Try.prog W = .ok (.bool true) W := by
  have h : (Op.equal 22 (.agg #[.int .i64 0, .int .i64 g, .int .i64 0]) (.agg #[.int .i64 0, .int .i64 0, .int .i64 0])).run Try.prog W = .ok false W := eqIn_arr_no 9998 W g hg
  simp [binOp, h, go_sem]
theorem guard_arr (W : World) (x y : Operand) (u v : Array Value) : (eqGuard .neq 22 x y (.agg u) (.agg v)).run Try.prog W = .ok () W := by
  have h : Try.prog.eqGuardType Try.prog.depth 22 = false := by kernel_rfl
  simp [eqGuard, h, go_sem]
end Go.Proofs.Ytbbcemgcanclnaa
