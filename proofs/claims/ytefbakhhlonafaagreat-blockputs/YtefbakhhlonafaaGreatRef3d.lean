import Derived.Test.YtefbakhhlonafaaGreatSlideC1
import Derived.RangeFuncNested
import Derived.RangeFuncBound
import Derived.RangeFuncCalls
import Derived.RangeFuncLeaves
import Derived.Shelf.Abstract
import Derived.Shelf.RegionOpen
import Derived.WalkKit
import Derived.OwnWalkIn
import Derived.TacticsInMore
import Derived.LoopNIn
import Derived.LoopIn
import Derived.Test.YtefbakhhlonafaaGreatFxLatC1

section
namespace Go.Proofs.YtefbakhhlonafaaGreat
open Go.RowKit Go.Proofs Go.Proofs.PipeM Go.Proofs.PipeA
set_option maxRecDepth 100000

def pair (ao : Option Addr) (kl cap : Nat) (P : Int) : Obj := .cells #[.int .i64 P, .slice ao kl cap] 101

theorem partsOk_split (n : Nat) (P : Int) (ks : List Int) : partsOk n P ks = (lenOk n && powOk n P && decide (ks.length = 2 ^ P.toNat) && ks.all kOk) := by
  unfold partsOk lenOk powOk
  rw [Bool.eq_iff_iff]
  simp only [Bool.and_eq_true, decide_eq_true_eq]
  constructor
  · rintro ⟨⟨h1, h2, h3, h4, h5, h6⟩, h7⟩
    exact ⟨⟨⟨⟨by omega, by omega⟩, h3, h4, h5⟩, h6⟩, h7⟩
  · rintro ⟨⟨⟨⟨h1, h2⟩, h3, h4, h5⟩, h6⟩, h7⟩
    exact ⟨⟨by omega, by omega, h3, h4, h5, h6⟩, h7⟩

set_option maxHeartbeats 1600000 in
theorem cGood (n : Nat) (P : Int) (ao : Option Addr) (cap : Nat) (ks : List Int) (w : World) (hn : n ≤ 1000000000) (hl : ks.length ≤ 1000000000) (hi : IntsAt w ao ks) :
    Calls Tryz.prog 104 #[.int .i64 n, .agg #[.int .i64 P, .slice ao ks.length cap]] w fun e w' => e = .returned (.bool (partsOk n P ks)) ∧ Below w.heap.size w w' := by
  have HS := Lib.hid (partsOk_split n P ks)
  have HL := fun W => Lib.hid (cIsLen n W)
  have HP := fun W => Lib.hid (cIsPow n P W hn)
  have HA := fun W (h : Below w.heap.size w W) => Lib.hid (cAllPar ao cap ks W hl (hi.below h))
  have HB := Lib.hid (box_below w (pair ao ks.length cap P))
  clear hi
  obtain ⟨kl, hkl⟩ : ∃ kl, kl = ks.length := ⟨_, rfl⟩
  rw [← hkl] at hl HS HA HB ⊢
  have HKL := Lib.hid hkl
  clear hkl
  unfold pair at HB
  cases h1 : lenOk (n : Int)
  · rw [h1] at HL HS
    clear HP HA h1
    go_enter Tryz.func104, Tryz.ntmps104
    go_wp2_with fail
    have c0 : (w.alloc (.cells #[.int .i64 P, .slice ao kl cap] 101)).cell? ⟨w.heap.size, 0, none⟩ = some (.int .i64 P) := by simp
    have c1 : (w.alloc (.cells #[.int .i64 P, .slice ao kl cap] 101)).cell? ⟨w.heap.size, 1, none⟩ = some (.slice ao kl cap) := by simp
    generalize w.alloc (.cells #[.int .i64 P, .slice ao kl cap] 101) = W at HB c0 c1 ⊢
    generalize hBB : w.heap.size = B at c0 c1 ⊢
    clear hBB
    go_quiet ((go_at_call 110; exact quiet_left (HL _).out))
    have HBQ := Lib.hid (below_drewN HB.out nq)
    go_wp2
    go_ret
    exact ⟨by rw [HS.out]; rfl, HBQ.out⟩
  · rw [h1] at HL HS
    clear h1
    cases h2 : powOk n P
    · rw [h2] at HP HS
      clear HA h2
      go_enter Tryz.func104, Tryz.ntmps104
      go_wp2_with fail
      have c0 : (w.alloc (.cells #[.int .i64 P, .slice ao kl cap] 101)).cell? ⟨w.heap.size, 0, none⟩ = some (.int .i64 P) := by simp
      have c1 : (w.alloc (.cells #[.int .i64 P, .slice ao kl cap] 101)).cell? ⟨w.heap.size, 1, none⟩ = some (.slice ao kl cap) := by simp
      generalize w.alloc (.cells #[.int .i64 P, .slice ao kl cap] 101) = W at HB c0 c1 ⊢
      generalize hBB : w.heap.size = B at c0 c1 ⊢
      clear hBB
      go_quiet (first | (go_at_call 110; exact quiet_left (HL _).out) | (go_at_call 111; exact quiet_left (HP _).out))
      have HBQ := Lib.hid (below_drewN HB.out nq)
      go_wp2
      go_ret
      exact ⟨by rw [HS.out]; rfl, HBQ.out⟩
    · have hP : 0 ≤ P ∧ P ≤ 3 := by unfold powOk at h2; have := of_decide_eq_true h2; exact ⟨this.1, this.2.1⟩
      rw [h2] at HP HS
      clear h2
      obtain ⟨p, rfl⟩ := Int.eq_ofNat_of_zero_le hP.1
      have hp3 : p ≤ 3 := by omega
      clear hP
      rw [Int.toNat_natCast] at HS
      have hm8 : 2 ^ p ≤ 8 := Nat.le_trans (Nat.pow_le_pow_right (by decide) hp3) (by decide)
      have E4 : IntKind.i64.wrap ((2 : Int) ^ p) = ((2 ^ p : Nat) : Int) := by
        have : ((2 : Int) ^ p) = ((2 ^ p : Nat) : Int) := by rw [Int.natCast_pow]; rfl
        rw [this]
        generalize 2 ^ p = m at hm8
        exact IntWalk.i64_in _ ⟨by omega, by omega⟩
      obtain ⟨m, hm⟩ : ∃ m, m = 2 ^ p := ⟨_, rfl⟩
      rw [← hm] at HS hm8 E4
      clear hm
      by_cases h3 : kl = m
      · rw [decide_eq_true h3] at HS
        have t3 : ((kl : Int) == (m : Int)) = true := by rw [beq_iff_eq, h3]
        clear h3
        go_enter Tryz.func104, Tryz.ntmps104
        go_wp2_with fail
        have c0 : (w.alloc (.cells #[.int .i64 p, .slice ao kl cap] 101)).cell? ⟨w.heap.size, 0, none⟩ = some (.int .i64 p) := by simp
        have c1 : (w.alloc (.cells #[.int .i64 p, .slice ao kl cap] 101)).cell? ⟨w.heap.size, 1, none⟩ = some (.slice ao kl cap) := by simp
        generalize w.alloc (.cells #[.int .i64 p, .slice ao kl cap] 101) = W at HB c0 c1 ⊢
        generalize hBB : w.heap.size = B at c0 c1 ⊢
        clear hBB
        go_region_with (first
          | (go_at_call 110; refine (HL _).out.mono ?_; rintro e w1 ⟨rfl, rfl⟩)
          | (go_at_call 111; refine (HP _).out.mono ?_; rintro e w1 ⟨rfl, rfl⟩)
          | (go_at_call 121; refine (HA _ (HB.out.trans ((keeps_drew W).below HB.out.size (by simp)))).out.mono ?_; rintro e w2 ⟨rfl, hb2⟩))
        all_goals
          have HB2 := Lib.hid hb2
          clear hb2
          go_wp2
          go_ret
          exact ⟨by rw [HS.out]; rfl, HB.out.trans (((keeps_drew W).below HB.out.size (by simp)).trans (HB2.out.mono HB.out.size))⟩
      · rw [decide_eq_false h3] at HS
        have t3 : ((kl : Int) == (m : Int)) = false := by rw [beq_eq_false_iff_ne]; omega
        clear h3 HA
        go_enter Tryz.func104, Tryz.ntmps104
        go_wp2_with fail
        have c0 : (w.alloc (.cells #[.int .i64 p, .slice ao kl cap] 101)).cell? ⟨w.heap.size, 0, none⟩ = some (.int .i64 p) := by simp
        have c1 : (w.alloc (.cells #[.int .i64 p, .slice ao kl cap] 101)).cell? ⟨w.heap.size, 1, none⟩ = some (.slice ao kl cap) := by simp
        generalize w.alloc (.cells #[.int .i64 p, .slice ao kl cap] 101) = W at HB c0 c1 ⊢
        generalize hBB : w.heap.size = B at c0 c1 ⊢
        clear hBB
        go_quiet (first | (go_at_call 110; exact quiet_left (HL _).out) | (go_at_call 111; exact quiet_left (HP _).out))
        have HBQ := Lib.hid (below_drewN HB.out nq)
        go_wp2
        go_ret
        exact ⟨by rw [HS.out]; rfl, HBQ.out⟩
end Go.Proofs.YtefbakhhlonafaaGreat
end

section
namespace Go.Proofs.YtefbakhhlonafaaGreat
open Go.RowKit Go.Proofs Go.Proofs.PipeM Go.Proofs.PipeA
set_option maxRecDepth 100000

theorem listOk_split (l : List Int) : listOk l = (lenOk l.length && l.all nOk) := by
  unfold listOk lenOk
  rw [Bool.and_comm]
  congr 1
  exact decide_eq_decide.2 ⟨fun h => ⟨by omega, by omega⟩, fun h => ⟨by omega, by omega⟩⟩

set_option maxHeartbeats 1600000 in
theorem cIsList (ao : Option Addr) (cap : Nat) (l : List Int) (w : World) (hl : l.length ≤ 1000000000) (hi : IntsAt w ao l) :
    Calls Tryz.prog 103 #[.slice ao l.length cap] w fun e w' => e = .returned (.bool (listOk l)) ∧ Below w.heap.size w w' := by
  have HS := Lib.hid (listOk_split l)
  have HL := fun W => Lib.hid (cIsLen l.length W)
  have HA := Lib.hid (cAllNum ao cap l w hl hi)
  clear hi
  obtain ⟨kl, hkl⟩ : ∃ kl, kl = l.length := ⟨_, rfl⟩
  rw [← hkl] at hl HS HA HL ⊢
  clear hkl
  cases h1 : lenOk (kl : Int)
  · rw [h1] at HL HS
    clear h1
    go_enter Tryz.func103, Tryz.ntmps103
    go_wp2_with (go_at_call 110; refine (HL _).out.mono ?_; rintro e w1 ⟨rfl, rfl⟩)
    go_ret
    exact ⟨by rw [HS.out]; rfl, Below.refl _ _⟩
  · rw [h1] at HL HS
    clear h1
    go_enter Tryz.func103, Tryz.ntmps103
    go_wp2_with (first | (go_at_call 110; refine (HL _).out.mono ?_; rintro e w1 ⟨rfl, rfl⟩) | (go_at_call 121; refine HA.out.mono ?_; rintro e w1 ⟨rfl, hb⟩))
    go_ret
    exact ⟨by rw [HS.out]; rfl, hb⟩

set_option maxHeartbeats 1600000 in
theorem cMayTell (lo ao : Option Addr) (lcap cap : Nat) (l : List Int) (P : Int) (ks : List Int) (w : World) (hl : l.length ≤ 1000000) (hk : ks.length ≤ 1000000) (hi : IntsAt w lo l) (hj : IntsAt w ao ks) :
    Calls Tryz.prog 81 #[.slice lo l.length lcap, .agg #[.int .i64 P, .slice ao ks.length cap]] w fun e w' => e = .returned (.bool (slideOk l P ks)) ∧ Below w.heap.size w w' := by
  have HS : Hid (slideOk l P ks = (listOk l && partsOk l.length P ks)) := by show _ = _; unfold slideOk; rw [Bool.and_comm]
  have HL := fun o => Lib.hid (cIsList lo lcap l (w.alloc o) (by omega) (hi.below (box_below w o)))
  have HG := fun W (h : Below w.heap.size w W) => Lib.hid (cGood l.length P ao cap ks W (by omega) (by omega) (hj.below h))
  have HB := fun o => Lib.hid (box_below w o)
  clear hi hj
  obtain ⟨kl, hkl⟩ : ∃ kl, kl = ks.length := ⟨_, rfl⟩
  obtain ⟨ll, hll⟩ : ∃ ll, ll = l.length := ⟨_, rfl⟩
  rw [← hkl] at hk HG ⊢
  rw [← hll] at hl HG HL HS ⊢
  clear hkl hll
  cases h1 : listOk l
  · rw [h1] at HL HS
    clear h1
    go_enter Tryz.func81, Tryz.ntmps81
    go_wp2_with (go_at_call 103; refine (HL _).out.mono ?_; rintro e w1 ⟨rfl, hb⟩)
    go_ret
    exact ⟨by rw [HS.out]; rfl, (HB _).out.trans (hb.mono (HB _).out.size)⟩
  · rw [h1] at HL HS
    clear h1
    go_enter Tryz.func81, Tryz.ntmps81
    go_wp2_with fail
    refine (HL _).out.mono ?_
    rintro e w1 ⟨rfl, hb⟩
    have HB1 := Lib.hid ((HB _).out.trans (hb.mono (HB _).out.size))
    have c0 : w1.cell? ⟨w.heap.size, 0, none⟩ = some (.int .i64 P) := (hb.cell (p := ⟨w.heap.size, 0, none⟩) (by simp)).trans (by simp)
    have c1 : w1.cell? ⟨w.heap.size, 1, none⟩ = some (.slice ao kl cap) := (hb.cell (p := ⟨w.heap.size, 1, none⟩) (by simp)).trans (by simp)
    clear hb
    have HG1 := HG w1 HB1.out
    clear HG HL HB
    go_wp2_with fail
    refine HG1.out.mono ?_
    rintro e w2 ⟨rfl, hb⟩
    have HB2 := Lib.hid hb
    clear hb
    go_wp2
    go_ret
    exact ⟨by rw [HS.out]; rfl, HB1.out.trans (HB2.out.mono HB1.out.size)⟩
end Go.Proofs.YtefbakhhlonafaaGreat
end

section
namespace Go.Proofs.YtefbakhhlonafaaGreat
open Go.RowKit Go.Shelf Go.Proofs Go.Proofs.PipeM Go.Proofs.PipeA
set_option maxRecDepth 100000

attribute [local go_sem] Oper.semAt_some

/-- The part of a list, as a slice. -/
def partV (g off size cap j : Nat) : Value := .slice (some ⟨g, off + j * size, none⟩) size (cap - j * size)

set_option maxHeartbeats 800000 in
theorem cPart (g off n cap p size j : Nat) (w : World) (hp : p ≤ 3) (hn : n = size * 2 ^ p) (hj : j < 2 ^ p) (hs : 1 ≤ size) (hn1 : n ≤ 1024) (hcap : n ≤ cap) :
    Calls Tryz.prog 106 #[.agg #[.slice (some ⟨g, off, none⟩) n cap, .int .i64 p], .int .i64 j] w fun e w' =>
      e = .returned (partV g off size cap j) ∧ w' = w.alloc (.cells #[.slice (some ⟨g, off, none⟩) n cap, .int .i64 p] 118) := by
  have e1 : (n : Int) / 2 ^ p = (size : Int) := by
    rw [hn, Int.natCast_mul, Int.natCast_pow]
    exact Int.mul_ediv_cancel _ (by have := Nat.two_pow_pos p; have h2 : ((2 ^ p : Nat) : Int) ≠ 0 := by omega
                                    rw [Int.natCast_pow] at h2; exact h2)
  have hjs : (j + 1) * size ≤ n := by
    rw [hn, Nat.mul_comm size]; exact Nat.mul_le_mul_right _ hj
  have hjs2 : j * size + size ≤ n := by rw [Nat.add_mul, Nat.one_mul] at hjs; exact hjs
  have hp3 : p = 0 ∨ p = 1 ∨ p = 2 ∨ p = 3 := by omega
  have hj8 : j < 8 := Nat.lt_of_lt_of_le hj (Nat.le_trans (Nat.pow_le_pow_right (by decide) hp) (by decide))
  unfold partV
  obtain ⟨a, ha⟩ : ∃ a, a = j * size := ⟨_, rfl⟩
  obtain ⟨b, hb⟩ : ∃ b, b = j * size + size := ⟨_, rfl⟩
  have e2 : (j : Int) * (size : Int) = (a : Int) := by rw [ha, Int.natCast_mul]
  have e3 : ((j : Int) + 1) * (size : Int) = (b : Int) := by rw [hb, Int.add_mul, Int.natCast_add, Int.natCast_mul, Int.one_mul]
  have hab : a ≤ b := by omega
  have hba : b - a = size := by omega
  have hbn : b ≤ n := by omega
  have hac : a < cap := by omega
  rw [← ha]
  clear hjs hn hj ha hb hp3 hjs2
  go_enter Tryz.func106, Tryz.ntmps106
  go_wp2
  go_ret
  exact ⟨rfl, rfl⟩

/-- What the iterator over parts keeps: how many there are, and what tells each. -/
def partsF (c t : Nat) : Value := .func (.func 124) #[] #[.pointer (some ⟨c, 0, none⟩), .pointer (some ⟨t, 0, none⟩)]
def tellV (ao : Option Addr) (n cap p : Nat) : Value := .func (.func 106) #[.agg #[.slice ao n cap, .int .i64 p]] #[]
structure PartsAt (w : World) (c t : Nat) (ao : Option Addr) (n cap p : Nat) : Prop where
  hc : w.heap[c]? = some (.cells #[.int .i64 ((2 ^ p : Nat) : Int)] 3)
  ht : w.heap[t]? = some (.cells #[tellV ao n cap p] 134)

def PartsIs (ao : Option Addr) (n cap p : Nat) (w : World) (e : Ending) (w' : World) : Prop :=
  ∃ c t, e = .returned (partsF c t) ∧ PartsAt w' c t ao n cap p ∧ w.heap.size ≤ c ∧ w.heap.size ≤ t ∧ c < w'.heap.size ∧ t < w'.heap.size ∧ Below w.heap.size w w'

theorem PartsIs.drew {ao : Option Addr} {n cap p : Nat} {w w0 w' : World} {e : Ending} (h : PartsIs ao n cap p w e w') (hb : Below w0.heap.size w0 w) : PartsIs ao n cap p w0 e w'.drew := by
  obtain ⟨c, t, he, ha, h1, h2, h3, h4, h5⟩ := h
  exact ⟨c, t, he, ⟨ha.hc, ha.ht⟩, Nat.le_trans hb.size h1, Nat.le_trans hb.size h2, h3, h4, hb.trans ((h5.mono hb.size).trans ⟨rfl, rfl, rfl, Nat.le_refl _, fun _ _ => rfl⟩)⟩
theorem PartsIs.below {ao : Option Addr} {n cap p : Nat} {w w0 w' : World} {e : Ending} (h : PartsIs ao n cap p w e w') (hb : Below w0.heap.size w0 w) : PartsIs ao n cap p w0 e w' := by
  obtain ⟨c, t, he, ha, h1, h2, h3, h4, h5⟩ := h
  exact ⟨c, t, he, ha, Nat.le_trans hb.size h1, Nat.le_trans hb.size h2, h3, h4, hb.trans (h5.mono hb.size)⟩

set_option maxHeartbeats 800000 in
theorem cEach (ao : Option Addr) (n cap p : Nat) (w : World) :
    Calls Tryz.prog 105 #[.int .i64 ((2 ^ p : Nat) : Int), tellV ao n cap p] w (PartsIs ao n cap p w) := by
  have hmf : ∀ (fn : Fn) (first cap : Array Value) (w : World), (Instr.makeFunc fn first cap).run Tryz.prog w = .ok (.func fn first cap) w := fun _ _ _ _ => rfl
  have HA : Hid (PartsIs ao n cap p w (.returned (partsF w.heap.size (w.heap.size + 1))) ((w.alloc (.cells #[.int .i64 ((2 ^ p : Nat) : Int)] 3)).alloc (.cells #[tellV ao n cap p] 134))) := by
    refine ⟨_, _, rfl, ⟨?_, ?_⟩, Nat.le_refl _, Nat.le_succ _, by simp; omega, by simp, ((Below.refl w.heap.size w).alloc (Nat.le_refl _) _).alloc (by simp) _⟩
    · exact (Below.heap_alloc _ _ _ (by simp)).trans (World.alloc_heap_new w _)
    · have := World.alloc_heap_new (w.alloc (.cells #[.int .i64 ((2 ^ p : Nat) : Int)] 3)) (.cells #[tellV ao n cap p] 134)
      rwa [World.size_alloc] at this
  unfold tellV partsF at HA
  unfold tellV
  have hm : ∃ m : Nat, Hid (m = 2 ^ p) := ⟨_, rfl⟩
  obtain ⟨m, HM⟩ := hm
  rw [← HM.out] at HA ⊢
  go_enter Tryz.func105, Tryz.ntmps105
  go_wp2
  go_ret
  simpa using HA.out

set_option maxHeartbeats 800000 in
theorem cParts (ao : Option Addr) (n cap p : Nat) (w : World) (hp : p ≤ 3) :
    Calls Tryz.prog 82 #[.agg #[.slice ao n cap, .int .i64 p]] w (PartsIs ao n cap p w) := by
  have hmf : ∀ (fn : Fn) (first cap : Array Value) (w : World), (Instr.makeFunc fn first cap).run Tryz.prog w = .ok (.func fn first cap) w := fun _ _ _ _ => rfl
  have HE := fun W => Lib.hid (cEach ao n cap p W)
  unfold tellV at HE
  have HB := Lib.hid (box_below w (.cells #[.slice ao n cap, .int .i64 p] 118))
  have E4 : Hid (IntKind.i64.wrap ((2 : Int) ^ p) = ((2 ^ p : Nat) : Int)) := by
    show _ = _
    have hm8 : 2 ^ p ≤ 8 := Nat.le_trans (Nat.pow_le_pow_right (by decide) hp) (by decide)
    have : ((2 : Int) ^ p) = ((2 ^ p : Nat) : Int) := by rw [Int.natCast_pow]; rfl
    rw [this]
    generalize 2 ^ p = m at hm8
    exact IntWalk.i64_in _ ⟨by omega, by omega⟩
  go_enter Tryz.func82, Tryz.ntmps82
  go_wp2_with fail
  have c0 : (w.alloc (.cells #[.slice ao n cap, .int .i64 p] 118)).cell? ⟨w.heap.size, 0, none⟩ = some (.slice ao n cap) := by simp
  have c1 : (w.alloc (.cells #[.slice ao n cap, .int .i64 p] 118)).cell? ⟨w.heap.size, 1, none⟩ = some (.int .i64 p) := by simp
  generalize w.alloc (.cells #[.slice ao n cap, .int .i64 p] 118) = W at HB c0 c1 ⊢
  generalize hBB : w.heap.size = B at c0 c1 ⊢
  clear hBB
  go_region_with (go_at_call 105; rw [E4.out]; refine (HE _).out.mono ?_; rintro e w1 ⟨c, t, rfl, hpa⟩; unfold partsF)
  all_goals
    go_wp2
    go_ret
    exact PartsIs.below ⟨c, t, rfl, hpa⟩ (HB.out.trans ((keeps_drew W).below HB.out.size (by simp)))
end Go.Proofs.YtefbakhhlonafaaGreat
end

section
namespace Go.Proofs.YtefbakhhlonafaaGreat
open Go.RowKit Go.Shelf Go.Proofs Go.Proofs.PipeM Go.Proofs.PipeA
set_option maxRecDepth 100000

attribute [local go_sem] Oper.semAt_some

/-- What a round keeps: the iterator's two boxes. -/
def KpB (c t : Nat) (W W' : World) : Prop := W'.heap[c]? = W.heap[c]? ∧ W'.heap[t]? = W.heap[t]?
theorem kpB_t {c t : Nat} {A B C : World} (h : KpB c t A B) (k : KpB c t B C) : KpB c t A C := ⟨k.1.trans h.1, k.2.trans h.2⟩
theorem kpB_b {c t n : Nat} (hc : c < n) (ht : t < n) (W : World) (l : Nat) (o o' : Obj) (hl : n ≤ l) (_ : W.heap[l]? = some o) (_ : o.isCells = false) (_ : o.isWalk = false) : KpB c t W (W.putObj l o') :=
  ⟨World.putObj_heap_other (by omega), World.putObj_heap_other (by omega)⟩
theorem kpB_keeps {bs : List Nat} {c t : Nat} {W W' : World} (h : Keeps bs W W') (hc : c < W.heap.size) (ht : t < W.heap.size) (hc2 : c ∉ bs) (ht2 : t ∉ bs) : KpB c t W W' := ⟨h.block c hc hc2, h.block t ht ht2⟩

theorem PartsAt.kept {w w' : World} {c t : Nat} {ao : Option Addr} {n cap p : Nat} (h : PartsAt w c t ao n cap p) (hk : KpB c t w w') : PartsAt w' c t ao n cap p := ⟨hk.1.trans h.hc, hk.2.trans h.ht⟩

def encP (g off size cap m : Nat) (j : Fin m) : Array Value := #[.int .i64 ((j.val : Nat) : Int), partV g off size cap j.val]

theorem abides_alloc {β : Type} {B : Nat} {J : β → World → Prop} (h : AbidesFrom B J) {s : β} {W : World} (hs : J s W) (o : Obj) : J s (W.alloc o) :=
  h s W _ none hs ⟨rfl, rfl, rfl, by simp, fun k hk _ => Below.heap_alloc _ _ _ hk⟩ (fun r e => by cases e)

set_option maxHeartbeats 3200000 in
theorem each1_stops (n g off len cap p size m c t : Nat) (w : World) (hn : 3 ≤ n) (hp : p ≤ 3) (hm : m = 2 ^ p) (hlen : len = size * m) (hs : 1 ≤ size) (hn1 : len ≤ 1024) (hcap : len ≤ cap) (hP : PartsAt w c t (some ⟨g, off, none⟩) len cap p) (hc : c < w.heap.size) (ht : t < w.heap.size) :
    SeqStopsK Fence.wide n Tryz.prog 124 #[.pointer (some ⟨c, 0, none⟩), .pointer (some ⟨t, 0, none⟩)] (encP g off size cap m) (KpB c t) (fun xs => xs.map (·.val) = List.range m) (fun xs => xs.map (·.val) = List.range xs.length) m w := fun l J Jx W hW hJ hJx hY h0 => by
  have hP0 : PartsAt W c t (some ⟨g, off, none⟩) len cap p := ⟨(hW.block c hc).trans hP.hc, (hW.block t ht).trans hP.ht⟩
  have hm8 : m ≤ 8 := by rw [hm]; exact Nat.le_trans (Nat.pow_le_pow_right (by decide) hp) (by decide)
  have HPC := fun j (hj : j < m) W => Lib.hid (cPart g off len cap p size j W hp (by rw [hlen, hm]) (by rw [← hm]; exact hj) hs hn1 hcap)
  have HP := Lib.hid hP0
  have HHJ := Lib.hid hJ
  have HY := Lib.hid hY
  have e0 : W.cell? ⟨c, 0, none⟩ = some (.int .i64 (m : Int)) := by simp [World.cell?, hP0.hc, hm]
  clear hP hP0 hW hlen hm hJ hY
  refine callsIn_of_wp Tryz.func124 rfl trivial ?_ rfl
  simp only [Tryz.ntmps124, List.size_toArray, List.length_cons, List.length_nil, Nat.reduceAdd, Nat.reduceSub, Array.replicate_succ, Array.replicate_zero, List.push_toArray, List.append_toArray, List.nil_append, List.cons_append]
  gi_wp2
  gi_loopw [6] (fun i wr => ∃ (k : Nat) (pre : List (Fin m)), k ≤ m ∧ i = .int .i64 k ∧ Hid (pre.map (·.val) = List.range k) ∧ Hid (J pre wr) ∧ Hid (KpB c t W wr))
    (fun i _ => m - (intOf i).toNat)
  case atStart => exact ⟨0, [], Nat.zero_le _, rfl, rfl, h0, ⟨rfl, rfl⟩⟩
  case round =>
    obtain ⟨k, pre, hk, rfl, HR, HJ, HK⟩ := hrel
    by_cases hlt : k < m
    · have e1 : wr.cell? ⟨t, 0, none⟩ = some (tellV (some ⟨g, off, none⟩) len cap p) := by simp [World.cell?, (HP.out.kept HK.out).ht]
      unfold tellV at e1
      have hpl : pre.length = k := by have := congrArg List.length HR.out; simpa using this
      obtain ⟨fn, tmps, assign, body, hy, hR⟩ := HY.out pre ⟨k, hlt⟩ (wr.alloc (.cells #[.slice (some ⟨g, off, none⟩) len cap, .int .i64 p] 118)) (abides_alloc HHJ.out HJ.out _) (by rw [hpl]; exact hlt)
      dsimp only [encP, partV] at hy
      have HRR := Lib.hid hR
      have HC := Lib.hid ((HPC k hlt wr).out)
      clear hpl hR
      unfold partV at HC
      gi_wp2_with fail
      refine ⟨trivial, fun _ => by omega, (callsIn_wide.2 HC.out).mono ?_⟩
      rintro e w2 ⟨rfl, rfl⟩
      gi_wp2_with fail
      refine ⟨fun _ => by omega, HRR.out.mono ?_⟩
      rintro e W3 (⟨rfl, hJ3, hk3⟩ | ⟨rfl, hJx3⟩)
      · have HJ3 := Lib.hid hJ3
        have HK3 : Hid (KpB c t W W3) := kpB_t HK.out (kpB_t ⟨?hc1, ?ht1⟩ hk3)
        case hc1 => exact Below.heap_alloc _ _ _ (by have := (HP.out.kept HK.out).hc; exact (Array.getElem?_eq_some_iff.1 this).1)
        case ht1 => exact Below.heap_alloc _ _ _ (by have := (HP.out.kept HK.out).ht; exact (Array.getElem?_eq_some_iff.1 this).1)
        have HR3 : Hid (((pre ++ [(⟨k, hlt⟩ : Fin m)]).map fun x : Fin m => x.val) = List.range (k + 1)) := by
          show _ = _
          rw [List.map_append, HR.out, List.range_succ]; rfl
        clear hJ3 hk3 hy
        gi_wp2
        go_roundw
        case rel => exact ⟨k + 1, _, by omega, by go_num, HR3, HJ3, HK3⟩
        case measure => simp [intOf]; omega
      · have HJX := Lib.hid hJx3
        have HRX : Hid (((pre ++ [(⟨k, hlt⟩ : Fin m)]).map fun x : Fin m => x.val) = List.range (pre ++ [(⟨k, hlt⟩ : Fin m)]).length) := by
          have hpk : pre.length = k := by have := congrArg List.length HR.out; simpa using this
          show _ = _
          rw [List.map_append, HR.out, List.length_append, hpk, List.length_singleton, List.range_succ]; rfl
        clear hJx3 hy
        gi_wp2
        refine bodyPost_ret (results_none rfl _ _ _) rfl ?_
        exact ⟨⟨_, rfl⟩, .inr ⟨_, HRX.out, HJX.out⟩⟩
    · obtain rfl : k = m := by omega
      gi_wp2
      go_end0
      exact ⟨⟨_, rfl⟩, .inl ⟨_, HR.out, HJ.out⟩⟩

/-- A block that holds cells. -/
def CellsAt (W : World) (b : Nat) : Prop := ∃ o, W.heap[b]? = some o ∧ o.isCells = true
theorem cellsAt_of {W : World} {b off : Nat} {x : Option Nat} {v : Value} (h : W.cell? ⟨b, off, x⟩ = some v) : CellsAt W b := by
  unfold World.cell? at h
  cases hh : W.heap[b]? with
  | none => simp [hh] at h
  | some o =>
    refine ⟨o, hh, ?_⟩
    cases o <;> simp_all [Obj.isCells]
theorem CellsAt.ne {W : World} {b r : Nat} {o : Obj} (h : CellsAt W b) (ho : W.heap[r]? = some o) (hc : o.isCells = false) : b ≠ r := by
  rintro rfl
  obtain ⟨o', h1, h2⟩ := h
  rw [h1] at ho
  cases ho
  rw [hc] at h2
  cases h2
theorem grown_keeps {W W' : World} {row : Option Nat} (h : W.grownBy W' row) : Keeps row.toList W W' :=
  ⟨h.os, h.tape, h.output, h.size, fun k hk hn => h.block k hk (fun e => hn (by simp [← e]))⟩
theorem keepsFrom_of {B : Nat} {bs : List Nat} {W W' : World} (h : Keeps bs W W') (hc : ∀ k ∈ bs, k < B ∨ CellsAt W k) : KeepsFrom B W W' :=
  ⟨h.size, fun k o hB hk ho => by
    have hlt : k < W.heap.size := (Array.getElem?_eq_some_iff.1 hk).1
    refine (h.block k hlt (fun hm => ?_)).trans hk
    rcases hc k hm with h1 | h1
    · omega
    · exact h1.ne hk ho rfl⟩
theorem own_cells {w : World} {base n size : Nat} {e : TypeId} {xs : List Value} {v : Value} (h : w.ownsRow base e size v n xs) : ∀ g, v.ownBlock = some g → CellsAt w g := by
  intro g hg
  rcases h.2 with ⟨rfl, rfl⟩ | ⟨g', cap, cur, rfl, hb, hh, _⟩
  · cases hg
  · simp [Value.ownBlock] at hg
    subst hg
    exact ⟨_, hh, rfl⟩

theorem keeps_setCell (w : World) (b off : Nat) (v : Value) : Keeps [b] w (w.setCell ⟨b, off, none⟩ v) :=
  ⟨rfl, rfl, rfl, by simp [World.setCell], fun k _ hn => Below.heap_setCell _ _ _ _ (fun e => hn (by simp [e]))⟩

/-- 'This was written' speaks of cells, and of what lay ahead, alone. -/
theorem own_wrote {β : Type} {w0 : World} {b : Nat} {v : Value} (f : β → List Bool) : OwnFrom w0.heap.size (fun s W => Wrote w0 b v (f s) W) := by
  intro s X Y row hs hg hr
  obtain ⟨v1, zs1, hw1, hk1, ho1⟩ := hs
  have hk := grown_keeps hg
  refine ⟨v1, zs1, hw1.keeps hk ?_ ?_, hk1.trans_new hk ?_, ho1⟩
  · intro hm
    cases row with
    | none => simp at hm
    | some r => obtain ⟨h1, o, h2, h3⟩ := hr r rfl; simp at hm; exact (cellsAt_of hw1.c0).ne h2 h3 hm
  · intro g hv hm
    cases row with
    | none => simp at hm
    | some r => obtain ⟨h1, o, h2, h3⟩ := hr r rfl; simp at hm; exact (own_cells hw1.own g hv).ne h2 h3 hm
  · intro x hx
    cases row with
    | none => simp at hx
    | some r => obtain ⟨h1, o, h2, h3⟩ := hr r rfl; simp at hx; right; omega

/-- So does 'all but these blocks is as it was'. -/
theorem own_keeps {β : Type} {w0 : World} {bs : List Nat} : OwnFrom w0.heap.size (fun (_ : β) W => Keeps bs w0 W) := by
  intro s X Y row hs hg hr
  refine hs.trans_new (grown_keeps hg) ?_
  intro x hx
  cases row with
  | none => simp at hx
  | some r => obtain ⟨h1, o, h2, h3⟩ := hr r rfl; simp at hx; right; omega

theorem own_cell {β : Type} {B : Nat} (p : Addr) (f : β → Value) : OwnFrom B (fun s W => W.cell? p = some (f s) ∧ W.frozen? p = false) :=
  Own.from (fun _ _ _ _ hs hg hr => ⟨cell_kept hs.1 hg hr, (frozen_kept hs.1 hg hr).trans hs.2⟩) B

/-- A region in a round is walked as it is outside of rounds, where nothing is deferred. -/
def noDefer (ops : Array Oper) : Bool := ops.toList.all fun o => match o.op with | .defer _ => false | _ => true
theorem noDefer_at {ops : Array Oper} (h : noDefer ops = true) {i : Nat} {o : Oper} (hi : ops[i]? = some o) : ∀ c, o.op ≠ .defer c := by
  intro c hc
  have hm : o ∈ ops.toList := by
    rw [← Array.getElem?_toList] at hi
    exact List.mem_of_getElem? hi
  have := List.all_eq_true.1 h o hm
  rw [hc] at this
  cases this
theorem wpAny_round {F : Fence} {n l : Nat} {P : Program} {md : Region.Mode} {ops : Array Oper} {Q : Exit → Act → World → Prop} (hro : F.round = none) (hnd : noDefer ops = true) : ∀ (fuel : Nat) (listed : Array Bool) (a : Act) (w : World),
    wpAnyIn F n P md ops Q fuel listed a w → wpAnyIn (F.inRound l) n P md ops Q fuel listed a w
  | 0, _, _, _, h => h
  | fuel + 1, listed, a, w, h => by
    refine ⟨h.1, fun i hi => ?_⟩
    have h2 := wpOpIn_mono (fun a w => wpAny_round (l := l) hro hnd fuel (listed.setIfInBounds i true) a w) (h.2 i hi)
    unfold wpOpIn at h2 ⊢
    cases ho : ops[i]? with
    | none => simp only [ho] at h2 ⊢; exact h2
    | some o =>
      simp only [ho] at h2 ⊢
      split
      · rename_i hw
        rw [if_pos hw] at h2
        unfold Oper.wpIn at h2 ⊢
        rw [Oper.semAt_eq _ _ _ (noDefer_at hnd ho)] at h2 ⊢
        exact h2
      · rename_i hw
        rw [if_neg hw] at h2
        exact h2
theorem regionR {n l id : Nat} {P : Program} {ops : Array Oper} {Q : Exit → Act → World → Prop} {a : Act} {w : World} (hm : P.follows .mixedOrders = true) (hnd : noDefer ops = true)
    (h : wpAnyIn Fence.wide n P .any ops Q ops.size (Array.replicate ops.size false) a w.drew) : (Code.region id ops true).wpIn (Fence.wide.inRound l) n P Q a w :=
  wpIn_region_any hm (wpAny_round rfl hnd _ _ _ _ h)
end Go.Proofs.YtefbakhhlonafaaGreat
end

section
namespace Go.Proofs.YtefbakhhlonafaaGreat
open Go.RowKit Go.Proofs Go.Proofs.PipeM Go.Proofs.PipeA

/-- What the document's bits of a list are. -/
def SlideIs (l : List Int) (P : Int) (ks : List Int) (w : World) (e : Ending) (w' : World) : Prop :=
  e = .returned (.tuple #[.string (str (slideBits l P ks)), .bool (slideOk l P ks)]) ∧ Below w.heap.size w w'

set_option maxHeartbeats 1600000 in
theorem refSlide_no (lo ao : Option Addr) (lcap cap : Nat) (l : List Int) (P : Int) (ks : List Int) (w : World) (hl : l.length ≤ 1000000) (hk : ks.length ≤ 1000000) (hi : IntsAt w lo l) (hj : IntsAt w ao ks) (h : slideOk l P ks = false) :
    Calls Tryz.prog 39 #[.slice lo l.length lcap, .agg #[.int .i64 P, .slice ao ks.length cap]] w (SlideIs l P ks w) := by
  have HS : Hid (slideBits l P ks = []) := by show _ = _; unfold slideBits; rw [h]; rfl
  have HO := Lib.hid h
  have HIb := fun o => Lib.hid (hi.below (box_below w o))
  have HJb := fun o => Lib.hid (hj.below (box_below w o))
  obtain ⟨b1, hb1⟩ : ∃ b1, b1 = partsOk l.length P ks := ⟨_, rfl⟩
  obtain ⟨b2, hb2⟩ : ∃ b2, b2 = listOk l := ⟨_, rfl⟩
  have HG := fun W hj => Lib.hid (refGood l.length P ao cap ks W (by omega) (by omega) hj)
  have HL := fun W hi => Lib.hid (refList lo lcap l W (by omega) hi)
  have hb : (b1 && b2) = false := by rw [hb1, hb2]; exact h
  rw [← hb1] at HG
  rw [← hb2] at HL
  clear h hb1 hb2 hi hj
  obtain ⟨len, hlen⟩ : ∃ len, len = l.length := ⟨_, rfl⟩
  rw [← hlen] at HG HL hl ⊢
  clear hlen
  go_enter Tryz.func39, Tryz.ntmps39
  go_wp2_with fail
  refine (HG _ (HJb _).out).out.mono ?_
  rintro e w1 ⟨rfl, hbel⟩
  have HI1 := Lib.hid ((HIb _).out.below hbel)
  have HB1 := Lib.hid ((box_below w _).trans (hbel.mono (box_below w _).size))
  clear hbel
  cases b1
  · go_wp2
    go_ret2
    exact ⟨by rw [HS.out, HO.out]; rfl, HB1.out⟩
  · obtain rfl : b2 = false := hb
    go_wp2_with fail
    refine (HL _ HI1.out).out.mono ?_
    rintro e w2 ⟨rfl, rfl⟩
    go_wp2
    go_ret2
    exact ⟨by rw [HS.out, HO.out]; rfl, HB1.out⟩
end Go.Proofs.YtefbakhhlonafaaGreat
end

section
namespace Go.Proofs.YtefbakhhlonafaaGreat
open Go.RowKit Go.Proofs Go.Proofs.PipeM Go.Proofs.PipeA

theorem slide_elem {l ks : List Int} {P : Int} (h : slideOk l P ks = true) : slideBits l P ks = low P.toNat 2 ++ elemBits (l.length / ks.length) ks l l.length := by
  obtain ⟨p, hP, h3, hk1, hk8, hk0, hl1, hl2, hs1, hs2, hsp, hks, hin⟩ := slide_parts h
  unfold slideBits listBits
  rw [if_pos h, elem_body _ (by omega) ks l hsp]

/-- What holds while the document puts a list. -/
def PutRel (w : World) (B : Nat) (lo ao : Option Addr) (kl cap : Nat) (l ks : List Int) (wr : World) : Prop :=
  Below w.heap.size w wr ∧ IntsAt wr lo l ∧ IntsAt wr ao ks ∧ wr.cell? ⟨B, 1, none⟩ = some (.slice ao kl cap) ∧ B < wr.heap.size

theorem PutRel.below {w : World} {B : Nat} {lo ao : Option Addr} {kl cap : Nat} {l ks : List Int} {wr w2 : World} (h : PutRel w B lo ao kl cap l ks wr) (hb : Below wr.heap.size wr w2) : PutRel w B lo ao kl cap l ks w2 :=
  ⟨h.1.trans (hb.mono h.1.size), h.2.1.below hb, h.2.2.1.below hb, by rw [hb.cell (p := ⟨B, 1, none⟩) h.2.2.2.2]; exact h.2.2.2.1, Nat.lt_of_lt_of_le h.2.2.2.2 hb.size⟩

theorem PutRel.drewN {w : World} {B : Nat} {lo ao : Option Addr} {kl cap : Nat} {l ks : List Int} {wr : World} (h : PutRel w B lo ao kl cap l ks wr) (m : Nat) : PutRel w B lo ao kl cap l ks (wr.drewN m) :=
  h.below (below_drewN (Below.refl _ _) m)

set_option maxHeartbeats 3200000 in
theorem refSlide_yes (lo ao : Option Addr) (lcap cap : Nat) (l : List Int) (P : Int) (ks : List Int) (w : World) (hi : IntsAt w lo l) (hj : IntsAt w ao ks) (h : slideOk l P ks = true) :
    Calls Tryz.prog 39 #[.slice lo l.length lcap, .agg #[.int .i64 P, .slice ao ks.length cap]] w (SlideIs l P ks w) := by
  obtain ⟨p, rfl, h3, hk1, hk8, hk0, hl1, hl2, hs1, hs2, hsp, hks, hin⟩ := slide_parts h
  have hh := h
  unfold slideOk at hh
  simp only [Bool.and_eq_true] at hh
  have HSE := Lib.hid (slide_elem h)
  have HO := Lib.hid h
  have HIb := fun o => Lib.hid (hi.below (box_below w o))
  have HJb := fun o => Lib.hid (hj.below (box_below w o))
  have HG := fun W hj => Lib.hid (refGood l.length p ao cap ks W (by omega) (by omega) hj)
  have HL := fun W hi => Lib.hid (refList lo lcap l W (by omega) hi)
  have HKS := Lib.hid hks
  have HIN := Lib.hid hin
  rw [hh.1] at HG
  rw [hh.2] at HL
  clear hh h hi hj hks hin hk1
  obtain ⟨size, hsize⟩ : ∃ size, size = l.length / ks.length := ⟨_, rfl⟩
  have hdiv : (l.length : Int) / (ks.length : Int) = (size : Int) := by rw [hsize]; omega
  rw [← hsize] at hs1 hs2 hsp HSE
  have HSP := Lib.hid hsp
  clear hsize hsp
  obtain ⟨len, hlen⟩ : ∃ len, len = l.length := ⟨_, rfl⟩
  obtain ⟨kl, hkl⟩ : ∃ kl, kl = ks.length := ⟨_, rfl⟩
  rw [← hlen] at HG HL hl1 hl2 hdiv ⊢
  rw [← hkl] at HG hk8 hk0 hdiv ⊢
  have HLEN := Lib.hid hlen
  have HKL := Lib.hid hkl
  clear hlen hkl
  go_enter Tryz.func39, Tryz.ntmps39
  go_wp2_with fail
  refine (HG _ (HJb _).out).out.mono ?_
  rintro e w1 ⟨rfl, hbel⟩
  have HI1 := Lib.hid ((HIb _).out.below hbel)
  have HJ1 := Lib.hid ((HJb _).out.below hbel)
  have HB1 := Lib.hid ((box_below w _).trans (hbel.mono (box_below w _).size))
  have c0 : w1.cell? ⟨w.heap.size, 0, none⟩ = some (.int .i64 p) := by rw [hbel.cell (by simp)]; simp
  have c1 : w1.cell? ⟨w.heap.size, 1, none⟩ = some (.slice ao kl cap) := by rw [hbel.cell (by simp)]; simp
  have hBl : w.heap.size < w1.heap.size := by have := hbel.size; simp at this; omega
  have HC1 := Lib.hid c1
  clear hbel HIb HJb HG
  go_wp2_with fail
  refine (HL _ HI1.out).out.mono ?_
  rintro e w2 ⟨rfl, rfl⟩
  clear HL
  go_wp2_with fail
  refine (refPut p 2 _ (by omega) (by omega)).mono ?_
  rintro e w2 ⟨rfl, hb2⟩
  have HI2 := Lib.hid (HI1.out.below hb2)
  have HJ2 := Lib.hid (HJ1.out.below hb2)
  have HB2 := Lib.hid (HB1.out.trans (hb2.mono HB1.out.size))
  have c1' : w2.cell? ⟨w.heap.size, 1, none⟩ = some (.slice ao kl cap) := by rw [hb2.cell (by simpa using hBl)]; exact HC1.out
  have hBl2 : w.heap.size < w2.heap.size := Nat.lt_of_lt_of_le hBl hb2.size
  have c2 := c1'
  clear c1 c0 hb2 HC1 HI1 HJ1 HB1 c1' hBl
  have HREL : Hid (PutRel w w.heap.size lo ao kl cap l ks w2) := ⟨HB2.out, HI2.out, HJ2.out, c2, hBl2⟩
  go_wp2
  clear HI2 HJ2 HB2 c2 hBl2 hdiv
  generalize w.heap.size = B at HREL ⊢
  go_loopg [6, 8, 9, 10, 11, 33] len (fun gk s a b d f i wr => ∃ c : Nat, c ≤ len ∧ gk + c = len ∧ i = .int .i64 c ∧ s = .string (str (low p 2 ++ elemBits size ks l c)) ∧ Hid (PutRel w B lo ao kl cap l ks wr))
  case atStart => exact ⟨0, Nat.zero_le _, by omega, rfl, by simp [elemBits], HREL⟩
  case round =>
    obtain ⟨c, hc, hgk, rfl, rfl, HT⟩ := hrel
    have HGK := Lib.hid hgk
    clear hgk HREL
    by_cases hlt : c < len
    · have hcl : c < l.length := by have := HLEN.out; omega
      obtain ⟨q, hq⟩ : ∃ q, q = c / size := ⟨_, rfl⟩
      have hqk : q < ks.length := by
        rw [hq]
        exact Nat.div_lt_of_lt_mul (by rw [← HSP.out]; exact hcl)
      have hqk2 : q < kl := by have := HKL.out; omega
      have hqd : (c : Int) / (size : Int) = (q : Int) := by rw [hq]; omega
      obtain ⟨g, off, rfl, hg, kcell⟩ := HT.out.2.2.1 q hqk
      obtain ⟨g2, off2, rfl, hg2, ncell⟩ := HT.out.2.1 c hcl
      have c1 := HT.out.2.2.2.1
      have hkr := HKS.out ks[q] (List.getElem_mem hqk)
      have hnr := HIN.out l[c] (List.getElem_mem hcl)
      have HSN : Hid (elemBits size ks l (c + 1) = elemBits size ks l c ++ ((if c % size = 0 then low ks[q].toNat 5 else []) ++ codeOf l[c] ks[q])) := by
        show _ = _
        rw [elemBits_succ, elemAt, ← hq]
        simp [List.getD, hqk, hcl]
      have hel := elemBits_len size ks l c
      obtain ⟨k, hk⟩ : ∃ k, k = ks[q] := ⟨_, rfl⟩
      obtain ⟨n, hn⟩ : ∃ n, n = l[c] := ⟨_, rfl⟩
      rw [← hk] at kcell hkr HSN
      rw [← hn] at ncell hnr HSN
      obtain ⟨kn, rfl⟩ := Int.eq_ofNat_of_zero_le hkr.1
      have hcol := codeOf_len n kn
      obtain ⟨s0, hs0⟩ : ∃ s0, s0 = low p 2 ++ elemBits size ks l c := ⟨_, rfl⟩
      have hsl : (str s0).size ≤ 70000 := by rw [str_size, hs0, List.length_append, low_length]; omega
      rw [← hs0]
      have HS0 := Lib.hid hs0
      clear hk hn hq hqk hcl hs0 hel
      have HTN := fun m => Lib.hid (HT.out.drewN m)
      have hsz0 : 1 ≤ size := hs1
      go_wp2_with fail
      go_quiet (fail)
      have HTQ := HTN nq
      clear HTN HT
      have ncell : (wr.drewN nq).cell? ⟨g2, off2 + c, none⟩ = some (.int .i64 n) := ncell
      generalize wr.drewN nq = W at HTQ ncell ⊢
      by_cases hm : c % size = 0
      · have t5 : ((c : Int) % (size : Int) == 0) = true := by rw [beq_iff_eq]; omega
        have HSN2 : Hid (str s0 ++ str (low kn 5) ++ str (codeOf n kn) = str (low p 2 ++ elemBits size ks l (c + 1))) := by
          show _ = _
          rw [HSN.out, HS0.out, if_pos hm, Int.toNat_natCast]
          simp only [str_append, ByteArray.append_assoc]
        have hs1l : (str s0 ++ str (low kn 5)).size ≤ 70010 := by rw [← str_append, str_size, List.length_append, low_length]; rw [str_size] at hsl; omega
        clear hm
        go_wp2_with fail
        refine (refPut kn 5 _ (by omega) (by omega)).mono ?_
        rintro e w4 ⟨rfl, hb4⟩
        have HT4 := Lib.hid (HTQ.out.below hb4)
        have ncell : w4.cell? ⟨g2, off2 + c, none⟩ = some (.int .i64 n) := by rw [hb4.cell (p := ⟨g2, off2 + c, none⟩) (World.block_lt_of_cell? _ _ ncell)]; exact ncell
        clear hb4
        have hks5 : (str (low kn 5)).size = 5 := by rw [str_size, low_length]
        go_wp2_with fail
        refine (refCode n kn _).mono ?_
        rintro e w5 ⟨rfl, hb5⟩
        have HT5 := Lib.hid (HT4.out.below hb5)
        clear hb5
        have hcs : (str (codeOf n kn)).size ≤ 59 := by rw [str_size]; exact hcol
        go_wp2
        go_roundg (gk - 1)
        case rel => exact ⟨c + 1, by omega, by have := HGK.out; omega, by go_num, by rw [← HSN2.out], HT5⟩
        case measure => have := HGK.out; omega
      · have t5 : ((c : Int) % (size : Int) == 0) = false := by rw [beq_eq_false_iff_ne]; omega
        have HSN2 : Hid (str s0 ++ str (codeOf n kn) = str (low p 2 ++ elemBits size ks l (c + 1))) := by
          show _ = _
          rw [HSN.out, HS0.out, if_neg hm]
          simp only [str_append, ByteArray.append_assoc, List.nil_append]
        clear hm
        go_wp2_with fail
        refine (refCode n kn _).mono ?_
        rintro e w5 ⟨rfl, hb5⟩
        have HT5 := Lib.hid (HTQ.out.below hb5)
        clear hb5
        have hcs : (str (codeOf n kn)).size ≤ 59 := by rw [str_size]; exact hcol
        go_wp2
        go_roundg (gk - 1)
        case rel => exact ⟨c + 1, by omega, by have := HGK.out; omega, by go_num, by rw [← HSN2.out], HT5⟩
        case measure => have := HGK.out; omega
    · obtain rfl : c = len := by omega
      go_wp2
      go_ret2
      exact ⟨by rw [HSE.out, HO.out, HLEN.out, Int.toNat_natCast]; rfl, HT.out.1⟩

theorem refSlide (lo ao : Option Addr) (lcap cap : Nat) (l : List Int) (P : Int) (ks : List Int) (w : World) (hl : l.length ≤ 1000000) (hk : ks.length ≤ 1000000) (hi : IntsAt w lo l) (hj : IntsAt w ao ks) :
    Calls Tryz.prog 39 #[.slice lo l.length lcap, .agg #[.int .i64 P, .slice ao ks.length cap]] w (SlideIs l P ks w) := by
  cases h : slideOk l P ks
  · exact refSlide_no lo ao lcap cap l P ks w hl hk hi hj h
  · exact refSlide_yes lo ao lcap cap l P ks w hi hj h
end Go.Proofs.YtefbakhhlonafaaGreat
end
