import Derived.Test.YtefbakhhlonafaaSlideC1

section
namespace Go.Proofs.Ytefbakhhlonafaa
open Go.RowKit Go.Proofs Go.Proofs.PipeM Go.Proofs.PipeA
set_option maxRecDepth 100000

def pair (ao : Option Addr) (kl cap : Nat) (P : Int) : Obj := .cells #[.int .i64 P, .slice ao kl cap] 75

theorem partsOk_split (n : Nat) (P : Int) (ks : List Int) : partsOk n P ks = (lenOk n && powOk n P && decide (ks.length = 2 ^ P.toNat) && ks.all kOk) := by
  unfold partsOk lenOk powOk
  rw [Bool.eq_iff_iff]
  simp only [Bool.and_eq_true, decide_eq_true_eq]
  constructor
  · rintro ⟨⟨h1, h2, h3, h4, h5, h6⟩, h7⟩
    exact ⟨⟨⟨⟨by omega, by omega⟩, h3, h4, h5⟩, h6⟩, h7⟩
  · rintro ⟨⟨⟨⟨h1, h2⟩, h3, h4, h5⟩, h6⟩, h7⟩
    exact ⟨⟨by omega, by omega, h3, h4, h5, h6⟩, h7⟩

set_option maxHeartbeats 1600000 in
theorem cGood (n : Nat) (P : Int) (ao : Option Addr) (cap : Nat) (ks : List Int) (w : World) (hn : n ≤ 1000000000) (hl : ks.length ≤ 1000000000) (hi : IntsAt w ao ks) :
    Calls Try.prog 88 #[.int .i64 n, .agg #[.int .i64 P, .slice ao ks.length cap]] w fun e w' => e = .returned (.bool (partsOk n P ks)) ∧ Below w.heap.size w w' := by
  have HS := Lib.hid (partsOk_split n P ks)
  have HL := fun W => Lib.hid (cIsLen n W)
  have HP := fun W => Lib.hid (cIsPow n P W hn)
  have HA := fun W (h : Below w.heap.size w W) => Lib.hid (cAllPar ao cap ks W hl (hi.below h))
  have HB := Lib.hid (box_below w (pair ao ks.length cap P))
  clear hi
  obtain ⟨kl, hkl⟩ : ∃ kl, kl = ks.length := ⟨_, rfl⟩
  rw [← hkl] at hl HS HA HB ⊢
  have HKL := Lib.hid hkl
  clear hkl
  unfold pair at HB
  cases h1 : lenOk (n : Int)
  · rw [h1] at HL HS
    clear HP HA h1
    go_enter Try.func88, Try.ntmps88
    go_wp2_with fail
    have c0 : (w.alloc (.cells #[.int .i64 P, .slice ao kl cap] 75)).cell? ⟨w.heap.size, 0, none⟩ = some (.int .i64 P) := by simp
    have c1 : (w.alloc (.cells #[.int .i64 P, .slice ao kl cap] 75)).cell? ⟨w.heap.size, 1, none⟩ = some (.slice ao kl cap) := by simp
    generalize w.alloc (.cells #[.int .i64 P, .slice ao kl cap] 75) = W at HB c0 c1 ⊢
    generalize hBB : w.heap.size = B at c0 c1 ⊢
    clear hBB
    go_quiet ((go_at_call 97; exact quiet_left (HL _).out))
    have HBQ := Lib.hid (below_drewN HB.out nq)
    go_wp2
    go_ret
    exact ⟨by rw [HS.out]; rfl, HBQ.out⟩
  · rw [h1] at HL HS
    clear h1
    cases h2 : powOk n P
    · rw [h2] at HP HS
      clear HA h2
      go_enter Try.func88, Try.ntmps88
      go_wp2_with fail
      have c0 : (w.alloc (.cells #[.int .i64 P, .slice ao kl cap] 75)).cell? ⟨w.heap.size, 0, none⟩ = some (.int .i64 P) := by simp
      have c1 : (w.alloc (.cells #[.int .i64 P, .slice ao kl cap] 75)).cell? ⟨w.heap.size, 1, none⟩ = some (.slice ao kl cap) := by simp
      generalize w.alloc (.cells #[.int .i64 P, .slice ao kl cap] 75) = W at HB c0 c1 ⊢
      generalize hBB : w.heap.size = B at c0 c1 ⊢
      clear hBB
      go_quiet (first | (go_at_call 97; exact quiet_left (HL _).out) | (go_at_call 100; exact quiet_left (HP _).out))
      have HBQ := Lib.hid (below_drewN HB.out nq)
      go_wp2
      go_ret
      exact ⟨by rw [HS.out]; rfl, HBQ.out⟩
    · have hP : 0 ≤ P ∧ P ≤ 3 := by unfold powOk at h2; have := of_decide_eq_true h2; exact ⟨this.1, this.2.1⟩
      rw [h2] at HP HS
      clear h2
      obtain ⟨p, rfl⟩ := Int.eq_ofNat_of_zero_le hP.1
      have hp3 : p ≤ 3 := by omega
      clear hP
      rw [Int.toNat_natCast] at HS
      have hm8 : 2 ^ p ≤ 8 := Nat.le_trans (Nat.pow_le_pow_right (by decide) hp3) (by decide)
      have E4 : IntKind.i64.wrap ((2 : Int) ^ p) = ((2 ^ p : Nat) : Int) := by
        have : ((2 : Int) ^ p) = ((2 ^ p : Nat) : Int) := by rw [Int.natCast_pow]; rfl
        rw [this]
        generalize 2 ^ p = m at hm8
        exact IntWalk.i64_in _ ⟨by omega, by omega⟩
      obtain ⟨m, hm⟩ : ∃ m, m = 2 ^ p := ⟨_, rfl⟩
      rw [← hm] at HS hm8 E4
      clear hm
      by_cases h3 : kl = m
      · rw [decide_eq_true h3] at HS
        have t3 : ((kl : Int) == (m : Int)) = true := by rw [beq_iff_eq, h3]
        clear h3
        go_enter Try.func88, Try.ntmps88
        go_wp2_with fail
        have c0 : (w.alloc (.cells #[.int .i64 p, .slice ao kl cap] 75)).cell? ⟨w.heap.size, 0, none⟩ = some (.int .i64 p) := by simp
        have c1 : (w.alloc (.cells #[.int .i64 p, .slice ao kl cap] 75)).cell? ⟨w.heap.size, 1, none⟩ = some (.slice ao kl cap) := by simp
        generalize w.alloc (.cells #[.int .i64 p, .slice ao kl cap] 75) = W at HB c0 c1 ⊢
        generalize hBB : w.heap.size = B at c0 c1 ⊢
        clear hBB
        go_region_with (first
          | (go_at_call 97; refine (HL _).out.mono ?_; rintro e w1 ⟨rfl, rfl⟩)
          | (go_at_call 100; refine (HP _).out.mono ?_; rintro e w1 ⟨rfl, rfl⟩)
          | (go_at_call 98; refine (HA _ (HB.out.trans ((keeps_drew W).below HB.out.size (by simp)))).out.mono ?_; rintro e w2 ⟨rfl, hb2⟩))
        all_goals
          have HB2 := Lib.hid hb2
          clear hb2
          go_wp2
          go_ret
          exact ⟨by rw [HS.out]; rfl, HB.out.trans (((keeps_drew W).below HB.out.size (by simp)).trans (HB2.out.mono HB.out.size))⟩
      · rw [decide_eq_false h3] at HS
        have t3 : ((kl : Int) == (m : Int)) = false := by rw [beq_eq_false_iff_ne]; omega
        clear h3 HA
        go_enter Try.func88, Try.ntmps88
        go_wp2_with fail
        have c0 : (w.alloc (.cells #[.int .i64 p, .slice ao kl cap] 75)).cell? ⟨w.heap.size, 0, none⟩ = some (.int .i64 p) := by simp
        have c1 : (w.alloc (.cells #[.int .i64 p, .slice ao kl cap] 75)).cell? ⟨w.heap.size, 1, none⟩ = some (.slice ao kl cap) := by simp
        generalize w.alloc (.cells #[.int .i64 p, .slice ao kl cap] 75) = W at HB c0 c1 ⊢
        generalize hBB : w.heap.size = B at c0 c1 ⊢
        clear hBB
        go_quiet (first | (go_at_call 97; exact quiet_left (HL _).out) | (go_at_call 100; exact quiet_left (HP _).out))
        have HBQ := Lib.hid (below_drewN HB.out nq)
        go_wp2
        go_ret
        exact ⟨by rw [HS.out]; rfl, HBQ.out⟩
end Go.Proofs.Ytefbakhhlonafaa
end

section
namespace Go.Proofs.Ytefbakhhlonafaa
open Go.RowKit Go.Proofs Go.Proofs.PipeM Go.Proofs.PipeA
set_option maxRecDepth 100000

theorem listOk_split (l : List Int) : listOk l = (lenOk l.length && l.all nOk) := by
  unfold listOk lenOk
  rw [Bool.and_comm]
  congr 1
  exact decide_eq_decide.2 ⟨fun h => ⟨by omega, by omega⟩, fun h => ⟨by omega, by omega⟩⟩

set_option maxHeartbeats 1600000 in
theorem cIsList (ao : Option Addr) (cap : Nat) (l : List Int) (w : World) (hl : l.length ≤ 1000000000) (hi : IntsAt w ao l) :
    Calls Try.prog 87 #[.slice ao l.length cap] w fun e w' => e = .returned (.bool (listOk l)) ∧ Below w.heap.size w w' := by
  have HS := Lib.hid (listOk_split l)
  have HL := fun W => Lib.hid (cIsLen l.length W)
  have HA := Lib.hid (cAllNum ao cap l w hl hi)
  clear hi
  obtain ⟨kl, hkl⟩ : ∃ kl, kl = l.length := ⟨_, rfl⟩
  rw [← hkl] at hl HS HA HL ⊢
  clear hkl
  cases h1 : lenOk (kl : Int)
  · rw [h1] at HL HS
    clear h1
    go_enter Try.func87, Try.ntmps87
    go_wp2_with (go_at_call 97; refine (HL _).out.mono ?_; rintro e w1 ⟨rfl, rfl⟩)
    go_ret
    exact ⟨by rw [HS.out]; rfl, Below.refl _ _⟩
  · rw [h1] at HL HS
    clear h1
    go_enter Try.func87, Try.ntmps87
    go_wp2_with (first | (go_at_call 97; refine (HL _).out.mono ?_; rintro e w1 ⟨rfl, rfl⟩) | (go_at_call 98; refine HA.out.mono ?_; rintro e w1 ⟨rfl, hb⟩))
    go_ret
    exact ⟨by rw [HS.out]; rfl, hb⟩

set_option maxHeartbeats 1600000 in
theorem cMayTell (lo ao : Option Addr) (lcap cap : Nat) (l : List Int) (P : Int) (ks : List Int) (w : World) (hl : l.length ≤ 1000000) (hk : ks.length ≤ 1000000) (hi : IntsAt w lo l) (hj : IntsAt w ao ks) :
    Calls Try.prog 71 #[.slice lo l.length lcap, .agg #[.int .i64 P, .slice ao ks.length cap]] w fun e w' => e = .returned (.bool (slideOk l P ks)) ∧ Below w.heap.size w w' := by
  have HS : Hid (slideOk l P ks = (listOk l && partsOk l.length P ks)) := by show _ = _; unfold slideOk; rw [Bool.and_comm]
  have HL := fun o => Lib.hid (cIsList lo lcap l (w.alloc o) (by omega) (hi.below (box_below w o)))
  have HG := fun W (h : Below w.heap.size w W) => Lib.hid (cGood l.length P ao cap ks W (by omega) (by omega) (hj.below h))
  have HB := fun o => Lib.hid (box_below w o)
  clear hi hj
  obtain ⟨kl, hkl⟩ : ∃ kl, kl = ks.length := ⟨_, rfl⟩
  obtain ⟨ll, hll⟩ : ∃ ll, ll = l.length := ⟨_, rfl⟩
  rw [← hkl] at hk HG ⊢
  rw [← hll] at hl HG HL HS ⊢
  clear hkl hll
  cases h1 : listOk l
  · rw [h1] at HL HS
    clear h1
    go_enter Try.func71, Try.ntmps71
    go_wp2_with (go_at_call 87; refine (HL _).out.mono ?_; rintro e w1 ⟨rfl, hb⟩)
    go_ret
    exact ⟨by rw [HS.out]; rfl, (HB _).out.trans (hb.mono (HB _).out.size)⟩
  · rw [h1] at HL HS
    clear h1
    go_enter Try.func71, Try.ntmps71
    go_wp2_with fail
    refine (HL _).out.mono ?_
    rintro e w1 ⟨rfl, hb⟩
    have HB1 := Lib.hid ((HB _).out.trans (hb.mono (HB _).out.size))
    have c0 : w1.cell? ⟨w.heap.size, 0, none⟩ = some (.int .i64 P) := (hb.cell (p := ⟨w.heap.size, 0, none⟩) (by simp)).trans (by simp)
    have c1 : w1.cell? ⟨w.heap.size, 1, none⟩ = some (.slice ao kl cap) := (hb.cell (p := ⟨w.heap.size, 1, none⟩) (by simp)).trans (by simp)
    clear hb
    have HG1 := HG w1 HB1.out
    clear HG HL HB
    go_wp2_with fail
    refine HG1.out.mono ?_
    rintro e w2 ⟨rfl, hb⟩
    have HB2 := Lib.hid hb
    clear hb
    go_wp2
    go_ret
    exact ⟨by rw [HS.out]; rfl, HB1.out.trans (HB2.out.mono HB1.out.size)⟩
end Go.Proofs.Ytefbakhhlonafaa
end
