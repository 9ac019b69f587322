import Derived.Test.YtnpngahpadchpaaSlideC1b
namespace Go.Proofs.Ytnpngahpadchpaa
open Go.RowKit Go.Proofs Go.Proofs.PipeM Go.Proofs.PipeA
set_option maxRecDepth 100000

theorem listOk_split (l : List Int) : listOk l = (lenOk l.length && l.all nOk) := by
  unfold listOk lenOk
  rw [Bool.and_comm]
  congr 1
  exact decide_eq_decide.2 ⟨fun h => ⟨by omega, by omega⟩, fun h => ⟨by omega, by omega⟩⟩

set_option maxHeartbeats 1600000 in
theorem cIsList (ao : Option Addr) (cap : Nat) (l : List Int) (w : World) (hl : l.length ≤ 1000000000) (hi : IntsAt w ao l) :
    Calls Try.prog 55 #[.slice ao l.length cap] w fun e w' => e = .returned (.bool (listOk l)) ∧ Below w.heap.size w w' := by
  have HS := Lib.hid (listOk_split l)
  have HL := fun W => Lib.hid (cIsLen l.length W)
  have HA := Lib.hid (cAllNum ao cap l w hl hi)
  clear hi
  obtain ⟨kl, hkl⟩ : ∃ kl, kl = l.length := ⟨_, rfl⟩
  rw [← hkl] at hl HS HA HL ⊢
  clear hkl
  cases h1 : lenOk (kl : Int)
  · rw [h1] at HL HS
    clear h1
    go_enter Try.func55, Try.ntmps55
    go_wp2_with (go_at_call 41; refine (HL _).out.mono ?_; rintro e w1 ⟨rfl, rfl⟩)
    go_ret
    exact ⟨by rw [HS.out]; rfl, Below.refl _ _⟩
  · rw [h1] at HL HS
    clear h1
    go_enter Try.func55, Try.ntmps55
    go_wp2_with (first | (go_at_call 41; refine (HL _).out.mono ?_; rintro e w1 ⟨rfl, rfl⟩) | (go_at_call 43; refine HA.out.mono ?_; rintro e w1 ⟨rfl, hb⟩))
    go_ret
    exact ⟨by rw [HS.out]; rfl, hb⟩

set_option maxHeartbeats 1600000 in
theorem cMayTell (lo ao : Option Addr) (lcap cap : Nat) (l : List Int) (P : Int) (ks : List Int) (w : World) (hl : l.length ≤ 1000000) (hk : ks.length ≤ 1000000) (hi : IntsAt w lo l) (hj : IntsAt w ao ks) :
    Calls Try.prog 36 #[.slice lo l.length lcap, .agg #[.int .i64 P, .slice ao ks.length cap]] w fun e w' => e = .returned (.bool (slideOk l P ks)) ∧ Below w.heap.size w w' := by
  have HS : Hid (slideOk l P ks = (listOk l && partsOk l.length P ks)) := by show _ = _; unfold slideOk; rw [Bool.and_comm]
  have HL := fun o => Lib.hid (cIsList lo lcap l (w.alloc o) (by omega) (hi.below (box_below w o)))
  have HG := fun W (h : Below w.heap.size w W) => Lib.hid (cGood l.length P ao cap ks W (by omega) (by omega) (hj.below h))
  have HB := fun o => Lib.hid (box_below w o)
  clear hi hj
  obtain ⟨kl, hkl⟩ : ∃ kl, kl = ks.length := ⟨_, rfl⟩
  obtain ⟨ll, hll⟩ : ∃ ll, ll = l.length := ⟨_, rfl⟩
  rw [← hkl] at hk HG ⊢
  rw [← hll] at hl HG HL HS ⊢
  clear hkl hll
  cases h1 : listOk l
  · rw [h1] at HL HS
    clear h1
    go_enter Try.func36, Try.ntmps36
    go_wp2_with (go_at_call 55; refine (HL _).out.mono ?_; rintro e w1 ⟨rfl, hb⟩)
    go_ret
    exact ⟨by rw [HS.out]; rfl, (HB _).out.trans (hb.mono (HB _).out.size)⟩
  · rw [h1] at HL HS
    clear h1
    go_enter Try.func36, Try.ntmps36
    go_wp2_with fail
    refine (HL _).out.mono ?_
    rintro e w1 ⟨rfl, hb⟩
    have HB1 := Lib.hid ((HB _).out.trans (hb.mono (HB _).out.size))
    have c0 : w1.cell? ⟨w.heap.size, 0, none⟩ = some (.int .i64 P) := (hb.cell (p := ⟨w.heap.size, 0, none⟩) (by simp)).trans (by simp)
    have c1 : w1.cell? ⟨w.heap.size, 1, none⟩ = some (.slice ao kl cap) := (hb.cell (p := ⟨w.heap.size, 1, none⟩) (by simp)).trans (by simp)
    clear hb
    have HG1 := HG w1 HB1.out
    clear HG HL HB
    go_wp2_with fail
    refine HG1.out.mono ?_
    rintro e w2 ⟨rfl, hb⟩
    have HB2 := Lib.hid hb
    clear hb
    go_wp2
    go_ret
    exact ⟨by rw [HS.out]; rfl, HB1.out.trans (HB2.out.mono HB1.out.size)⟩
end Go.Proofs.Ytnpngahpadchpaa
