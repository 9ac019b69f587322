import Derived.Test.YtcgkalfclammfabLagC1
namespace Go.Proofs.Ytcgkalfclammfab
open Go.RowKit Go.Proofs Go.Proofs.PipeA Go.Proofs.LagM
set_option maxRecDepth 100000

theorem goodT_cases (a g : Int) : (a = 0 ∧ g = 0 ∧ goodT a g = true) ∨
    ((a ≠ 0 ∨ g ≠ 0) ∧ a < 1 ∧ goodT a g = false) ∨ ((a ≠ 0 ∨ g ≠ 0) ∧ 1 ≤ a ∧ 255 < a ∧ goodT a g = false) ∨
    ((a ≠ 0 ∨ g ≠ 0) ∧ 1 ≤ a ∧ a ≤ 255 ∧ g < 1 ∧ goodT a g = false) ∨ ((a ≠ 0 ∨ g ≠ 0) ∧ 1 ≤ a ∧ a ≤ 255 ∧ 1 ≤ g ∧ 15 < g ∧ goodT a g = false) ∨
    ((a ≠ 0 ∨ g ≠ 0) ∧ 1 ≤ a ∧ a ≤ 255 ∧ 1 ≤ g ∧ g ≤ 15 ∧ goodT a g = true) := by
  have hT : goodT a g = true ↔ (a = 0 ∧ g = 0) ∨ (1 ≤ a ∧ a ≤ 255 ∧ 1 ≤ g ∧ g ≤ 15) := by
    unfold goodT
    simp only [Bool.or_eq_true, Bool.and_eq_true, decide_eq_true_eq]
    omega
  cases h : goodT a g
  · have : ¬ ((a = 0 ∧ g = 0) ∨ (1 ≤ a ∧ a ≤ 255 ∧ 1 ≤ g ∧ g ≤ 15)) := fun hc => by rw [hT.2 hc] at h; cases h
    simp only [Bool.false_eq_true, and_false, and_true, false_or, or_false]
    omega
  · have := hT.1 h
    simp only [Bool.true_eq_false, and_false, and_true, false_or]
    omega

set_option maxHeartbeats 800000 in
theorem cGood (a g : Int) (w : World) : Calls Try.prog 11 #[termV a g] w fun e w' => e = .returned (.bool (goodT a g)) ∧ Below w.heap.size w w' := by
  unfold termV
  have HB := Lib.hid (box_below w (.cells #[.int .i64 a, .int .i64 g] 23))
  rcases goodT_cases a g with ⟨h1, h2, h3⟩ | ⟨h0, h1, h3⟩ | ⟨h0, h1, h2, h3⟩ | ⟨h0, h1, h2, h4, h3⟩ | ⟨h0, h1, h2, h4, h5, h3⟩ | ⟨h0, h1, h2, h4, h5, h3⟩
  · subst h1 h2
    rw [h3]
    clear h3
    go_enter Try.func11, Try.ntmps11
    go_wp2
    go_ret
    exact ⟨rfl, HB.out⟩
  all_goals
    rw [h3]
    clear h3
    by_cases e1 : a = 0
    · first
      | (exfalso; omega)
      | (subst e1
         have t1 : (g == (0 : Int)) = false := by rw [beq_eq_false_iff_ne]; omega
         clear h0
         go_enter Try.func11, Try.ntmps11
         go_wp2
         go_ret
         exact ⟨rfl, HB.out⟩)
    · have t1 : (a == (0 : Int)) = false := by rw [beq_eq_false_iff_ne]; exact e1
      clear h0 e1
      go_enter Try.func11, Try.ntmps11
      go_wp2
      go_ret
      first
      | exact ⟨rfl, HB.out⟩
      | exact ⟨by rw [decide_eq_false (by omega)]; rfl, HB.out⟩
      | exact ⟨by rw [decide_eq_true (by omega)]; rfl, HB.out⟩

/-- What is wrong with a term, or with numbers. -/
def CheckIs (a g : Int) (l : List Int) (w : World) (e : Ending) (w' : World) : Prop := e = .returned (.int .i64 (codeT a g l)) ∧ Below w.heap.size w w'

set_option maxHeartbeats 800000 in
theorem cCheck (a g : Int) (ao : Option Addr) (cap : Nat) (l : List Int) (w : World) (hl : l.length ≤ 9223372036854775807) (hi : IntsAt w ao l) :
    Calls Try.prog 20 #[termV a g, .slice ao l.length cap] w (CheckIs a g l w) := by
  have HC := fun W h => Lib.hid (cContains ao cap l W hl h)
  have HI := Lib.hid hi
  have HG := fun W => Lib.hid (cGood a g W)
  unfold termV at HG ⊢
  have hb := box_below w (.cells #[.int .i64 a, .int .i64 g] 23)
  have HB := Lib.hid hb
  clear hi hb
  cases hg : goodT a g with
  | false =>
    have HF : Hid (∀ W, Below w.heap.size w W → CheckIs a g l w (.returned (.int .i64 1)) W) := fun W hW => ⟨by rw [codeT_good hg], hW⟩
    rw [hg] at HG
    clear hg
    go_enter Try.func20, Try.ntmps20
    go_wp2_with fail
    refine (HG _).out.mono ?_
    rintro e w1 ⟨rfl, hb1⟩
    have HB1 := Lib.hid (HB.out.trans (hb1.mono HB.out.size))
    clear hb1
    go_wp2
    go_ret
    exact HF.out _ HB1.out
  | true =>
    rw [hg] at HG
    cases ha : l.all inB with
    | false =>
      have HF : Hid (∀ W, Below w.heap.size w W → CheckIs a g l w (.returned (.int .i64 9)) W) := fun W hW => ⟨by rw [codeT_all hg ha], hW⟩
      rw [ha] at HC
      clear hg ha
      go_enter Try.func20, Try.ntmps20
      go_wp2_with fail
      refine (HG _).out.mono ?_
      rintro e w1 ⟨rfl, hb1⟩
      have HB1 := Lib.hid (HB.out.trans (hb1.mono HB.out.size))
      have HC1 := Lib.hid (HC w1 (HI.out.below HB1.out)).out
      clear hb1 HC
      go_wp2_with fail
      refine HC1.out.mono ?_
      rintro e w2 ⟨rfl, rfl⟩
      go_wp2
      go_ret
      exact HF.out _ HB1.out
    | true =>
      have HF : Hid (∀ W, Below w.heap.size w W → CheckIs a g l w (.returned (.int .i64 0)) W) := fun W hW => ⟨by rw [codeT_of hg ha], hW⟩
      rw [ha] at HC
      clear hg ha
      go_enter Try.func20, Try.ntmps20
      go_wp2_with fail
      refine (HG _).out.mono ?_
      rintro e w1 ⟨rfl, hb1⟩
      have HB1 := Lib.hid (HB.out.trans (hb1.mono HB.out.size))
      have HC1 := Lib.hid (HC w1 (HI.out.below HB1.out)).out
      clear hb1 HC
      go_wp2_with fail
      refine HC1.out.mono ?_
      rintro e w2 ⟨rfl, rfl⟩
      go_wp2
      go_ret
      exact HF.out _ HB1.out

set_option maxHeartbeats 800000 in
theorem cTaken (a g n : Int) (w : World) (hg : 0 ≤ g ∧ g ≤ 15) (hn : -1099511627776 ≤ n ∧ n ≤ 1099511627776) :
    Calls Try.prog 22 #[termV a g, .int .i64 n] w fun e w' => e = .returned (.int .i64 (tk g n)) ∧ Below w.heap.size w w' := by
  have HB := Lib.hid (box_below w (.cells #[.int .i64 a, .int .i64 g] 23))
  have hpb : -16492674416640 ≤ n * g ∧ n * g ≤ 16492674416640 := LagM.prod_bound hg hn
  have HW : Hid (wrap64 (n * g) / 16 = tk g n) := by show _ = _; rw [show wrap64 (n * g) = n * g from IntWalk.wrap64_in _ (by omega)]; rfl
  unfold termV
  clear hg hn hpb
  go_enter Try.func22, Try.ntmps22
  go_wp2
  go_ret
  refine ⟨?_, HB.out⟩
  show Ending.returned (Value.int .i64 (wrap64 (n * g) / 16)) = _
  rw [HW.out]
end Go.Proofs.Ytcgkalfclammfab
