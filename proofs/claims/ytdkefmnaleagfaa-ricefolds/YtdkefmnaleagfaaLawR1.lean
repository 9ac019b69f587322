import Derived.Test.YtdkefmnaleagfaaRiceC3
namespace Go.Proofs.Ytdkefmnaleagfaa
open Go.RowKit Go.Proofs Go.Proofs.PipeM Go.Proofs.PipeA

set_option maxHeartbeats 800000 in
theorem awake2 (w : World) : Calls Try.prog 10 #[] w fun e w' => e = .returned (.bool true) ∧ Below w.heap.size w w' := by
  go_enter Try.func10, Try.ntmps10
  go_wp2_with fail
  refine (cPut w.heap.size (.slice none 0 0) [] [] (-1) 0 _ (by simp) (wr_fresh w)).mono ?_
  rintro e w1 ⟨rfl, v1, zs1, hi1, hk1, ho1⟩
  have H1 := Lib.hid hi1
  have K1 := Lib.hid hk1
  have O1 := Lib.hid ho1
  clear hi1 hk1 ho1
  rw [show codeOk (-1) 0 = true from by decide]
  go_wp2_with fail
  refine (cPut w.heap.size v1 _ zs1 5 2 _ (by decide) H1.out).mono ?_
  rintro e w2 ⟨rfl, hw2⟩
  have hw2' := Wrote.next K1.out O1.out hw2
  have HB := Lib.hid (wrote_below hw2')
  obtain ⟨v3, zs3, hi3, hk3, ho3⟩ := hw2'
  have H3 := Lib.hid hi3
  have c1 : w2.cell? ⟨w.heap.size, 1, none⟩ = some (.int .i64 7) := hi3.c1
  rw [show codeOk 5 2 = true from by decide]
  clear hi3 hk3 ho3 hw2
  go_wp2_with fail
  refine (wLen _ _ _ c1).mono ?_
  rintro e w3 ⟨rfl, rfl⟩
  go_wp2_with fail
  refine (wBytes w.heap.size v3 _ zs3 _ (by decide) H3.out).mono ?_
  rintro e w4 ⟨g, rfl, hown4, hb4⟩
  have hcv := conv_row hown4
  have hzs : zs3 = [76] := H3.out.packs.unique ⟨by simp, by decide⟩
  have hstr : bstr zs3 = ⟨#[76]⟩ := by rw [hzs]; rfl
  rw [hstr] at hcv
  have HB4 := Lib.hid hb4
  clear hown4 hb4 hzs hstr
  go_wp2_with fail
  refine (cCost 5 2 _).mono ?_
  rintro e w5 ⟨rfl, hb5⟩
  have HB5 := Lib.hid hb5
  rw [show (((codeOf 5 2).length : Nat) : Int) = 5 from by decide]
  clear hb5
  go_wp2
  go_ret
  have h45 : Below w.heap.size w w4 := HB.out.trans (HB4.out.mono HB.out.size)
  exact ⟨rfl, h45.trans (HB5.out.mono h45.size)⟩

set_option maxHeartbeats 800000 in
theorem folds (n : Int) (w : World) : Calls Try.prog 3 #[.int .i64 n] w fun e w' => e = .returned (.bool true) ∧ Below w.heap.size w w' := by
  by_cases h1 : n < -8589934592
  · have t1 : decide (n < -8589934592) = true := decide_eq_true h1
    go_enter Try.func3, Try.ntmps3
    go_wp2_with fail
    refine (awake2 w).mono ?_
    rintro e w1 ⟨rfl, hb1⟩
    have HB1 := Lib.hid hb1
    clear hb1
    go_wp2_with fail
    refine (awake2 w1).mono ?_
    rintro e w2 ⟨rfl, hb2⟩
    have HB2 := Lib.hid hb2
    clear hb2
    go_wp2
    go_ret
    exact ⟨rfl, HB1.out.trans (HB2.out.mono HB1.out.size)⟩
  · have t1 : decide (n < -8589934592) = false := decide_eq_false h1
    by_cases h2 : 8589934591 < n
    · have t2 : decide (8589934591 < n) = true := decide_eq_true h2
      go_enter Try.func3, Try.ntmps3
      go_wp2_with fail
      refine (awake2 w).mono ?_
      rintro e w1 ⟨rfl, hb1⟩
      have HB1 := Lib.hid hb1
      clear hb1
      go_wp2_with fail
      refine (awake2 w1).mono ?_
      rintro e w2 ⟨rfl, hb2⟩
      have HB2 := Lib.hid hb2
      clear hb2
      go_wp2
      go_ret
      exact ⟨rfl, HB1.out.trans (HB2.out.mono HB1.out.size)⟩
    · have t2 : decide (8589934591 < n) = false := decide_eq_false h2
      have hr : InR n := ⟨by omega, by omega⟩
      have hz := foldN_lt hr
      have HC := fun W => Lib.hid (cFold n W hr)
      have HF := fun W => Lib.hid (refFold n W hr)
      have HU := fun W => Lib.hid (cUnfold (foldN n) W hz)
      rw [unfold_fold] at HU
      obtain ⟨z, hzz⟩ : ∃ z, z = foldN n := ⟨_, rfl⟩
      rw [← hzz] at HC HF HU hz
      clear hzz hr
      go_enter Try.func3, Try.ntmps3
      go_wp2_with fail
      refine (awake2 w).mono ?_
      rintro e w1 ⟨rfl, hb1⟩
      have HB1 := Lib.hid hb1
      clear hb1
      go_wp2_with fail
      refine (HC _).out.mono ?_
      rintro e w2 ⟨rfl, hb2⟩
      have HB2 : Hid (Below w.heap.size w w2) := HB1.out.trans (hb2.mono HB1.out.size)
      clear hb2
      have t3 : ((z : Int) == (z : Int)) = true := by simp
      have t4 : (0 : Int) ≤ (z : Int) := by omega
      go_wp2_with fail
      refine (HF _).out.mono ?_
      rintro e w3 ⟨rfl, rfl⟩
      go_wp2_with fail
      refine (HU _).out.mono ?_
      rintro e w4 ⟨rfl, hb4⟩
      have HB4 : Hid (Below w.heap.size w w4) := HB2.out.trans (hb4.mono HB2.out.size)
      clear hb4
      have t5 : (n == n) = true := by simp
      go_wp2
      go_ret
      exact ⟨rfl, HB4.out⟩
end Go.Proofs.Ytdkefmnaleagfaa
