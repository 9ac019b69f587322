import Derived.Test.YtengpeaagfilmaaLatC1
namespace Go.Proofs.Ytengpeaagfilmaa
open Go.RowKit Go.Proofs Go.Proofs.PipeA Go.Proofs.LatM
set_option maxRecDepth 100000

theorem cSize (n : Int) (w : World) (h : -1000000000 ≤ n ∧ n ≤ 1000000000) :
    Calls Try.prog 24 #[.int .i64 n] w fun e w' => e = .returned (.int .i64 (n.natAbs : Int)) ∧ w = w' := by
  by_cases h0 : n < 0
  · have t : decide (n < 0) = true := decide_eq_true h0
    go_enter Try.func24, Try.ntmps24
    go_wp2
    go_ret
    exact ⟨by simp; omega, rfl⟩
  · have t : decide (n < 0) = false := decide_eq_false h0
    go_enter Try.func24, Try.ntmps24
    go_wp2
    go_ret
    exact ⟨by simp; omega, rfl⟩

theorem u64_gap {a b : Int} (h0 : 0 ≤ b - a) (h1 : b - a ≤ 9223372036854775807) : IntKind.u64.wrap (IntKind.u64.wrap b - IntKind.u64.wrap a) = b - a := by
  simp [IntKind.wrap, IntKind.bits, IntKind.signed]; omega

set_option maxHeartbeats 400000 in
theorem cApart (a b : Int) (w : World) (ha : -1000000000 ≤ a ∧ a ≤ 1000000000) (hb : -1000000000 ≤ b ∧ b ≤ 1000000000) :
    Calls Try.prog 32 #[.int .i64 a, .int .i64 b] w fun e w' => e = .returned (.int .u64 ((a - b).natAbs : Int)) ∧ w = w' := by
  rcases Int.lt_trichotomy a b with h | rfl | h
  · have e1 : IntKind.u64.wrap (IntKind.u64.wrap b - IntKind.u64.wrap a) = ((a - b).natAbs : Int) := by rw [u64_gap (by omega) (by omega)]; omega
    generalize ((a - b).natAbs : Int) = d at e1
    go_enter Try.func32, Try.ntmps32
    go_wp2
    go_ret
    exact ⟨rfl, rfl⟩
  · have e1 : ((a - a).natAbs : Int) = 0 := by omega
    rw [e1]
    go_enter Try.func32, Try.ntmps32
    go_wp2
    all_goals (go_ret; exact ⟨rfl, rfl⟩)
  · have e1 : IntKind.u64.wrap (IntKind.u64.wrap a - IntKind.u64.wrap b) = ((a - b).natAbs : Int) := by rw [u64_gap (by omega) (by omega)]; omega
    generalize ((a - b).natAbs : Int) = d at e1
    go_enter Try.func32, Try.ntmps32
    go_wp2
    go_ret
    exact ⟨rfl, rfl⟩

theorem dist_bound (p : Nat) {want i : Int} (hw : -1048576 ≤ want ∧ want ≤ 1048576) (hi : -64 ≤ i ∧ i ≤ 63) : dist p want i ≤ 2000000 := by
  have := refl_bound p hi
  unfold dist
  omega

set_option maxHeartbeats 1600000 in
theorem cNear (p : Nat) (want : Int) (w : World) (hp : p ≤ 100) (hw : -1048576 ≤ want ∧ want ≤ 1048576) :
    Calls Try.prog 23 #[.int .i64 (p : Int), .int .i64 want] w fun e w' => ∃ n : Int, e = .returned (.int .i64 n) ∧ Best p want n 64 ∧ w = w' := by
  have HR := fun i W (hi : -64 ≤ i ∧ i ≤ 63) => Lib.hid (cReflectionOf p i W hp hi)
  have HA := fun i W (hi : -64 ≤ i ∧ i ≤ 63) => Lib.hid (cApart (refl p i) want W (by have := refl_bound p hi; omega) (by omega))
  have HR0 := fun W => HR (-64) W (by omega)
  have HA0 := fun W => HA (-64) W (by omega)
  have HD := fun i (hi : -64 ≤ i ∧ i ≤ 63) => Lib.hid (dist_bound p hw hi)
  have hd0 := (HD (-64) (by omega)).out
  rw [show (refl p (-64) - want).natAbs = dist p want (-64) from rfl] at HA0
  have HB := Lib.hid (best_first p want)
  have HE : Hid (∃ g, g = dist p want (-64)) := ⟨_, rfl⟩
  obtain ⟨g0, hg0⟩ := HE.out
  rw [← hg0] at HA0 hd0
  have HG := Lib.hid hg0
  clear hg0 HE
  go_enter Try.func23, Try.ntmps23
  go_wp2_with fail
  refine (HR0 _).out.mono ?_
  rintro e w1 ⟨rfl, rfl⟩
  go_wp2_with fail
  refine (HA0 _).out.mono ?_
  rintro e w1 ⟨rfl, rfl⟩
  go_wp2
  go_loopg [5, 6, 7, 8] 127 (fun gk n g c q wr => ∃ (i m : Int) (d : Nat), -63 ≤ i ∧ i ≤ 64 ∧ (gk : Int) + i = 64 ∧ c = .int .i64 i ∧ n = .int .i64 m ∧ g = .int .u64 (d : Int) ∧ d ≤ 2000000 ∧ Hid (d = dist p want m) ∧ Hid (Best p want m i) ∧ w = wr)
  case atStart => exact ⟨-63, -64, g0, by omega, by omega, by omega, rfl, rfl, rfl, hd0, HG, HB, rfl⟩
  case round =>
    obtain ⟨i, m, d, hi1, hi2, hgk, rfl, rfl, rfl, hd, HDE, HBE, rfl⟩ := hrel
    have HGK := Lib.hid hgk
    clear hgk
    by_cases hlt : i ≤ 63
    · have hR := fun W => HR i W (by omega)
      have hA := fun W => HA i W (by omega)
      rw [show (refl p i - want).natAbs = dist p want i from rfl] at hA
      have hdi := (HD i (by omega)).out
      obtain ⟨di, hdi2⟩ : ∃ di, di = dist p want i := ⟨_, rfl⟩
      rw [← hdi2] at hA hdi
      have HDI := Lib.hid hdi2
      clear hdi2
      go_wp2_with fail
      refine (hR _).out.mono ?_
      rintro e w1 ⟨rfl, rfl⟩
      go_wp2_with fail
      refine (hA _).out.mono ?_
      rintro e w1 ⟨rfl, rfl⟩
      by_cases hc : di < d
      · have HB2 : Hid (Best p want i (i + 1)) := best_new HBE.out (by rw [← HDI.out, ← HDE.out]; exact hc)
        have t : decide (di < d) = true := decide_eq_true hc
        clear hc
        go_wp2
        go_roundg (gk - 1)
        case rel => exact ⟨i + 1, i, di, by omega, by omega, by have := HGK.out; omega, by go_num, rfl, rfl, hdi, HDI, HB2, rfl⟩
        case measure => have := HGK.out; omega
      · have HB2 : Hid (Best p want m (i + 1)) := best_same HBE.out (by rw [← HDI.out, ← HDE.out]; omega)
        have t : decide (di < d) = false := decide_eq_false hc
        clear hc
        go_wp2
        go_roundg (gk - 1)
        case rel => exact ⟨i + 1, m, d, by omega, by omega, by have := HGK.out; omega, by go_num, rfl, rfl, hd, HDE, HB2, rfl⟩
        case measure => have := HGK.out; omega
    · obtain rfl : i = 64 := by omega
      go_wp2
      go_ret
      exact ⟨m, rfl, HBE.out, rfl⟩
end Go.Proofs.Ytengpeaagfilmaa
