import Derived.Test.YtbbcemgcanclnaaRefReader2
import Derived.Lib.Hide
namespace Go.Proofs.Ytbbcemgcanclnaa
open Go.RowKit Go.Proofs Go.Proofs.PipeM Go.Proofs.PipeA
set_option maxRecDepth 100000

theorem Box2.put {w : World} {b : Nat} {v0 v1 v2 u0 u1 u2 : Value} (h : Box2 w b v0 v1 v2 u0 u1 u2) (x0 x1 x2 : Value) :
    Box2 (((w.setCell ⟨b, 0, none⟩ x0).setCell ⟨b, 1, none⟩ x1).setCell ⟨b, 2, none⟩ x2) b x0 x1 x2 u0 u1 u2 := by
  obtain ⟨q0, q1, q2⟩ := set3_cells h.c0 h.c1 h.c2 x0 x1 x2
  refine ⟨by simpa using h.lt, q0, q1, q2, ?_, ?_, ?_, ?_, ?_, ?_, ?_, ?_, ?_⟩
  all_goals simp [World.cell?_setCell_other, h.d0, h.d1, h.d2, h.f0, h.f1, h.f2, h.g0, h.g1, h.g2]
/-- The number that comes, in two's complement. -/
def MR.intV (m : MR) (n : Nat) : Int := if (m.take n).1.fail = 0 ∧ 2 ^ (n - 1) ≤ (m.take n).2 then ((m.take n).2 : Int) - ((2 ^ n : Nat) : Int) else (m.take n).2
theorem take_lt (m : MR) (n : Nat) : (m.take n).2 < 2 ^ n := by
  have h0 : 0 < 2 ^ n := Nat.two_pow_pos n
  unfold MR.take
  split
  · exact h0
  · split
    · exact h0
    · split
      · exact h0
      · have := num_lt (m.bits.take (n : Int).toNat)
        refine Nat.lt_of_lt_of_le this (Nat.pow_le_pow_right (by decide) ?_)
        rw [List.length_take]
        omega

set_option maxHeartbeats 1600000 in
theorem mInt (m : MR) (n : Nat) (w : World) (hn1 : 1 ≤ n) (hn : n ≤ 48) (hb : m.bits.length ≤ 1000000000) :
    Calls Try.prog 35 #[m.val, .int .i64 n] w (MRes (m.take n).1 (m.intV n) w) := by
  have HTK0 := fun W => Lib.hid (mTake m n W hb)
  have hlt := take_lt m n
  have HI : Hid (m.intV n = if (m.take n).1.fail = 0 ∧ 2 ^ (n - 1) ≤ (m.take n).2 then ((m.take n).2 : Int) - ((2 ^ n : Nat) : Int) else (m.take n).2) := rfl
  have HP1 := fun W => Lib.hid (refPower (n - 1) W (by omega))
  have HP2 := fun W => Lib.hid (refPower n W (by omega))
  have h48 : 2 ^ n ≤ 2 ^ 48 := Nat.pow_le_pow_right (by decide) hn
  obtain ⟨e1, he1⟩ : ∃ e1, e1 = n - 1 := ⟨_, rfl⟩
  rw [← he1] at HP1 HI
  have hwm : IntKind.i64.wrap ((n : Int) - 1) = (e1 : Int) := by rw [IntWalk.i64_in _ (by omega)]; omega
  have t1 : decide ((n : Int) < 1) = false := decide_eq_false (by omega)
  obtain ⟨l, all, fail⟩ := m
  generalize MR.take ⟨l, all, fail⟩ n = tk at *
  obtain ⟨⟨l', all', fail'⟩, v⟩ := tk
  have HTK : ∀ W, Hid (Calls Try.prog 34 #[.agg #[.string (str l), .int .i64 all, .int .i64 fail], .int .i64 n] W fun r w' => r = .returned (.tuple #[.agg #[.string (str l'), .int .i64 all', .int .i64 fail'], .int .i64 v]) ∧ Below W.heap.size W w') := HTK0
  show Calls Try.prog 35 #[.agg #[.string (str l), .int .i64 all, .int .i64 fail], .int .i64 n] w fun r w' => r = .returned (.tuple #[.agg #[.string (str l'), .int .i64 all', .int .i64 fail'], .int .i64 (MR.intV ⟨l, all, fail⟩ n)]) ∧ Below w.heap.size w w'
  simp only at hlt HI
  clear HTK0
  generalize MR.intV ⟨l, all, fail⟩ n = iv at *
  generalize str l = s at *
  generalize str l' = s' at *
  generalize 2 ^ n = P2 at *
  generalize 2 ^ e1 = P1 at *
  have HB0 := Lib.hid (Box2.of w (.string s) (.int .i64 all) (.int .i64 fail) (.string ⟨#[]⟩) (.int .i64 0) (.int .i64 0) 44)
  have HBEL := Lib.hid (below2 w (.cells #[.string s, .int .i64 all, .int .i64 fail] 44) (.cells #[.string ⟨#[]⟩, .int .i64 0, .int .i64 0] 44))
  clear he1 hb
  have HCA : fail' ≠ 0 ∨ fail' = 0 ∧ P1 ≤ v ∨ fail' = 0 ∧ v < P1 := by omega
  rcases HCA with hf | ⟨hf, hp⟩ | ⟨hf, hp⟩
  · have t2 : (fail' == 0) = false := beq_eq_false_iff_ne.2 hf
    have HV : Hid (iv = v) := by show _ = _; rw [HI.out, if_neg (by omega)]
    clear hf HI
    go_enter Try.func35, Try.ntmps35
    go_wp2_with fail
    refine (HTK _).out.mono ?_
    rintro e w1 ⟨rfl, hb1⟩
    have HB1 := Lib.hid (HB0.out.below hb1)
    have HB2 := Lib.hid (HB1.out.put (.string s') (.int .i64 all') (.int .i64 fail'))
    have HB3 : Hid (Below w.heap.size w w1) := HBEL.out.trans (hb1.mono HBEL.out.size)
    obtain ⟨_, c0, c1, c2, d0, d1, d2, f0, f1, f2, g0, g1, g2⟩ := HB1.out
    obtain ⟨_, x0, x1, x2, y0, y1, y2, z0, z1, z2, z3, z4, z5⟩ := HB2.out
    clear hb1
    go_wp2
    obtain ⟨q0, q1, q2⟩ := set3_cells y0 y1 y2 (.string s') (.int .i64 all') (.int .i64 fail')
    refine bodyPost_ret (v := .tuple #[.agg #[.string s', .int .i64 all', .int .i64 fail'], .int .i64 v]) (by simp [results, Try.results35, go_sem, q0, q1, q2]) rfl ?_
    exact ⟨by rw [HV.out], below_set3 (below_set3 HB3.out _ (by omega) _ _ _) _ (by omega) _ _ _⟩
  · subst hf
    have t3 : decide (P1 ≤ v) = true := decide_eq_true hp
    have HV : Hid (iv = (v : Int) - (P2 : Int)) := by show _ = _; rw [HI.out, if_pos ⟨rfl, hp⟩]
    have hwv : IntKind.i64.wrap ((v : Int) - (P2 : Int)) = iv := by rw [HV.out]; exact IntWalk.i64_in _ (by omega)
    clear hp HI HV
    go_enter Try.func35, Try.ntmps35
    go_wp2_with fail
    refine (HTK _).out.mono ?_
    rintro e w1 ⟨rfl, hb1⟩
    have HB1 := Lib.hid (HB0.out.below hb1)
    have HB2 := Lib.hid (HB1.out.put (.string s') (.int .i64 all') (.int .i64 0))
    have HB3 : Hid (Below w.heap.size w w1) := HBEL.out.trans (hb1.mono HBEL.out.size)
    obtain ⟨_, c0, c1, c2, d0, d1, d2, f0, f1, f2, g0, g1, g2⟩ := HB1.out
    obtain ⟨_, x0, x1, x2, y0, y1, y2, z0, z1, z2, z3, z4, z5⟩ := HB2.out
    clear hb1
    go_wp2_with fail
    refine (HP1 _).out.mono ?_
    rintro e w2 ⟨rfl, rfl⟩
    go_wp2_with fail
    refine (HP2 _).out.mono ?_
    rintro e w3 ⟨rfl, rfl⟩
    go_wp2
    obtain ⟨q0, q1, q2⟩ := set3_cells y0 y1 y2 (.string s') (.int .i64 all') (.int .i64 0)
    refine bodyPost_ret (v := .tuple #[.agg #[.string s', .int .i64 all', .int .i64 0], .int .i64 iv]) (by simp [results, Try.results35, go_sem, q0, q1, q2]) rfl ?_
    exact ⟨rfl, below_set3 (below_set3 HB3.out _ (by omega) _ _ _) _ (by omega) _ _ _⟩
  · subst hf
    have t3 : decide (P1 ≤ v) = false := decide_eq_false (by omega)
    have HV : Hid (iv = v) := by show _ = _; rw [HI.out, if_neg (by omega)]
    clear hp HI
    go_enter Try.func35, Try.ntmps35
    go_wp2_with fail
    refine (HTK _).out.mono ?_
    rintro e w1 ⟨rfl, hb1⟩
    have HB1 := Lib.hid (HB0.out.below hb1)
    have HB2 := Lib.hid (HB1.out.put (.string s') (.int .i64 all') (.int .i64 0))
    have HB3 : Hid (Below w.heap.size w w1) := HBEL.out.trans (hb1.mono HBEL.out.size)
    obtain ⟨_, c0, c1, c2, d0, d1, d2, f0, f1, f2, g0, g1, g2⟩ := HB1.out
    obtain ⟨_, x0, x1, x2, y0, y1, y2, z0, z1, z2, z3, z4, z5⟩ := HB2.out
    clear hb1
    go_wp2_with fail
    refine (HP1 _).out.mono ?_
    rintro e w2 ⟨rfl, rfl⟩
    go_wp2
    obtain ⟨q0, q1, q2⟩ := set3_cells y0 y1 y2 (.string s') (.int .i64 all') (.int .i64 0)
    refine bodyPost_ret (v := .tuple #[.agg #[.string s', .int .i64 all', .int .i64 0], .int .i64 v]) (by simp [results, Try.results35, go_sem, q0, q1, q2]) rfl ?_
    exact ⟨by rw [HV.out], below_set3 (below_set3 HB3.out _ (by omega) _ _ _) _ (by omega) _ _ _⟩
end Go.Proofs.Ytbbcemgcanclnaa
