import Derived.Test.YtengpeaagfilmaaLatC5
import Derived.Test.YtengpeaagfilmaaLatF
namespace Go.Proofs.Ytengpeaagfilmaa
open Go.RowKit Go.Proofs Go.Proofs.PipeA Go.Proofs.LatM
set_option maxRecDepth 100000

theorem one_ints (w : World) (n : Int) : IntsAt (w.alloc (.cells #[.int .i64 n] 3)) (some ⟨w.heap.size, 0, none⟩) [n] := by
  intro j hj
  obtain rfl : j = 0 := by simp at hj; omega
  exact ⟨_, _, rfl, by simp, by simp⟩
theorem tame_one : Tame [-8192] [100] := ⟨by simp, by simp, by simp, by simp⟩

set_option maxHeartbeats 1600000 in
theorem awake (w : World) : Calls Try.prog 9 #[] w fun e w' => e = .returned (.bool true) ∧ Below w.heap.size w w' := by
  have HC : Hid (Calls Try.prog 12 #[.slice (some ⟨w.heap.size, 0, none⟩) 1 1] (w.alloc (.cells #[.int .i64 0] 3)) (OwnIs [-8192] (w.alloc (.cells #[.int .i64 0] 3)))) := by
    have := cCoefs (some ⟨w.heap.size, 0, none⟩) 1 [0] (w.alloc (.cells #[.int .i64 0] 3)) (by decide) (one_ints w 0)
    rwa [show cf [0] [(0 : Int)].length = [-8192] by decide] at this
  have HP := fun ao bo cap cap2 W h1 h2 => Lib.hid (cPredict ao bo cap cap2 [-8192] [100] W tame_one h1 h2)
  have hpv : pred [-8192] [100] = 50 := by decide
  rw [hpv] at HP
  have HB0 := Lib.hid (box_below w (.cells #[.int .i64 0] 3))
  clear hpv
  go_enter Try.func9, Try.ntmps9
  go_wp2_with fail
  refine HC.out.mono ?_
  rintro e w1 ⟨ao, cap, rfl, hi, _, _, hb⟩
  obtain ⟨b, off, rfl, hblt, hcell⟩ := hi 0 (by simp)
  simp only [List.getElem_cons_zero, Nat.add_zero] at hcell
  have HP1 := HP (some ⟨b, off, none⟩) (some ⟨w1.heap.size, 0, none⟩) cap 1 (w1.alloc (.cells #[.int .i64 100] 3)) (hi.below (box_below _ _)) (one_ints w1 100)
  have HB1 : Hid (Below w.heap.size w (w1.alloc (.cells #[.int .i64 100] 3))) := by
    have h1 : Below w.heap.size w w1 := HB0.out.trans (hb.mono (by simp))
    exact h1.alloc h1.size _
  clear hi hb HC HP HB0
  simp only [List.length_cons, List.length_nil, Nat.zero_add] at HP1 ⊢
  go_wp2_with fail
  refine HP1.out.mono ?_
  rintro e w2 ⟨rfl, k, hw2⟩
  have HB2 : Hid (Below w.heap.size w w2) := by rw [hw2]; exact below_drewN HB1.out k
  clear hw2 HB1
  go_wp2
  go_ret
  exact ⟨rfl, HB2.out⟩

theorem rnd_near (p : Int) : -8192 ≤ p - rnd p * 16384 ∧ p - rnd p * 16384 < 8192 := by unfold rnd; omega

set_option maxHeartbeats 1600000 in
theorem latticeRounds (p : Int) (w : World) (h0 : -9223372036854775808 ≤ p) (h1 : p ≤ 9223372036854775807) :
    Calls Try.prog 5 #[.int .i64 p] w fun e w' => e = .returned (.bool true) ∧ Below w.heap.size w w' := by
  have HA := fun W => Lib.hid (awake W)
  by_cases hp : p > 1152921504606846976
  · have t1 : decide (p > 1152921504606846976) = true := decide_eq_true hp
    clear hp
    go_enter Try.func5, Try.ntmps5
    go_wp2_with fail
    refine (HA _).out.mono ?_
    rintro e w1 ⟨rfl, hb1⟩
    go_wp2_with fail
    refine (HA _).out.mono ?_
    rintro e w2 ⟨rfl, hb2⟩
    go_wp2
    go_ret
    exact ⟨rfl, hb1.trans (hb2.mono hb1.size)⟩
  · by_cases hq : p < -1152921504606846976
    · go_enter Try.func5, Try.ntmps5
      go_wp2_with fail
      refine (HA _).out.mono ?_
      rintro e w1 ⟨rfl, hb1⟩
      go_wp2_with fail
      refine (HA _).out.mono ?_
      rintro e w2 ⟨rfl, hb2⟩
      go_wp2
      go_ret
      exact ⟨rfl, hb1.trans (hb2.mono hb1.size)⟩
    · have HC := fun W => Lib.hid (cRound p W h0 h1)
      have HR := fun W => Lib.hid (rRound p W (by omega) (by omega))
      have hn := rnd_near p
      have hbd : -281474976710656 ≤ rnd p ∧ rnd p ≤ 281474976710656 := by unfold rnd; omega
      generalize rnd p = n at HC HR hn hbd
      go_enter Try.func5, Try.ntmps5
      go_wp2_with fail
      refine (HA _).out.mono ?_
      rintro e w1 ⟨rfl, hb1⟩
      have HB := Lib.hid hb1
      clear hb1
      go_wp2_with fail
      refine (HC _).out.mono ?_
      rintro e w2 ⟨rfl, rfl⟩
      go_wp2_with fail
      refine (HR _).out.mono ?_
      rintro e w2 ⟨rfl, rfl⟩
      go_wp2
      go_ret
      exact ⟨rfl, HB.out⟩
end Go.Proofs.Ytengpeaagfilmaa
