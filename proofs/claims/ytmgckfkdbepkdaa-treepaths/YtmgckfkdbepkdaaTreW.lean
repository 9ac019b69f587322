import Derived.Test.YtmgckfkdbepkdaaTreL0
import Derived.Test.YtmgckfkdbepkdaaTreN
import Derived.Lib.Hide
namespace Go.Proofs.Ytmgckfkdbepkdaa
open Go.RowKit Go.Proofs Go.Proofs.PipeA Go.Proofs.TreM
set_option maxRecDepth 100000

theorem cIsSize (n : Int) (w : World) :
    Calls Try.prog 35 #[.int .i64 n] w fun e w' => e = .returned (.bool (sizeB n)) ∧ w = w' := by
  cases h : sizeB n with
  | true =>
    obtain ⟨m, rfl, h1, h2⟩ := sizeB_of h
    have t2 : decide ((m : Int) ≤ 1024) = true := decide_eq_true (by omega)
    clear h h2
    go_enter Try.func35, Try.ntmps35
    go_wp2
    go_ret
    exact ⟨rfl, rfl⟩
  | false =>
    rcases sizeB_no h with h1 | ⟨h1, h2⟩
    · clear h
      go_enter Try.func35, Try.ntmps35
      go_wp2
      go_ret
      exact ⟨rfl, rfl⟩
    · have t2 : decide (n ≤ 1024) = false := decide_eq_false (by omega)
      clear h h2
      go_enter Try.func35, Try.ntmps35
      go_wp2
      go_ret
      exact ⟨rfl, rfl⟩

set_option maxHeartbeats 800000 in
theorem cMay (k size : Nat) (w : World) (hk : k ≤ 100000) (hs : size ≤ 1024) :
    Calls Try.prog 30 #[.int .i64 size, .int .i64 k] w fun e w' => e = .returned (.bool (may k size)) ∧ w = w' := by
  have HI := Lib.hid (cIsSize size w)
  cases h : sizeB (size : Int) with
  | false =>
    have HM : Hid (may k size = false) := by
      show _ = _
      have h0 : size = 0 := by rcases sizeB_no h with h | h <;> omega
      subst h0; simp [may]
    rw [h] at HI
    clear h
    rw [HM.out]
    go_enter Try.func30, Try.ntmps30
    go_wp2_with fail
    refine HI.out.mono ?_
    rintro e w1 ⟨rfl, rfl⟩
    go_wp2
    go_ret
    exact ⟨rfl, rfl⟩
  | true =>
    rw [h] at HI
    have h0 : 0 < size := by obtain ⟨m, h1, h2, _⟩ := sizeB_of h; omega
    clear h
    rcases may_cases k size with ⟨h1, h2⟩ | ⟨h1, h2, h3⟩ | ⟨h1, h2, h3, h4⟩ | ⟨h1, h2, h3, h4⟩
    · subst h1
      rw [h2]
      clear h2
      by_cases h3 : ((size : Int) % 32 == 0) = true
      · go_enter Try.func30, Try.ntmps30
        go_wp2_with fail
        refine HI.out.mono ?_
        rintro e w1 ⟨rfl, rfl⟩
        go_wp2
        go_ret
        exact ⟨rfl, rfl⟩
      · rw [Bool.not_eq_true] at h3
        go_enter Try.func30, Try.ntmps30
        go_wp2_with fail
        refine HI.out.mono ?_
        rintro e w1 ⟨rfl, rfl⟩
        go_wp2
        go_ret
        exact ⟨rfl, rfl⟩
    · omega
    · rw [h4]
      clear h4
      go_enter Try.func30, Try.ntmps30
      go_wp2_with fail
      refine HI.out.mono ?_
      rintro e w1 ⟨rfl, rfl⟩
      go_wp2
      go_ret
      exact ⟨rfl, rfl⟩
    · rw [h4]
      clear h4
      go_enter Try.func30, Try.ntmps30
      go_wp2_with fail
      refine HI.out.mono ?_
      rintro e w1 ⟨rfl, rfl⟩
      go_wp2
      go_ret
      exact ⟨rfl, rfl⟩
end Go.Proofs.Ytmgckfkdbepkdaa
