import Derived.RangeFuncNested
import Derived.RangeFuncBound
import Derived.RangeFuncCalls
import Derived.RangeFuncLeaves
import Derived.Shelf.Abstract
import Derived.Shelf.RegionOpen
import Derived.WalkKit
import Derived.OwnWalkIn
import Derived.TacticsInMore
import Derived.LoopNIn
import Derived.LoopIn
import Derived.Test.YtefbakhhlonafaaSlideC1

namespace Go.Proofs.Ytefbakhhlonafaa
open Go.RowKit Go.Shelf Go.Proofs Go.Proofs.PipeM Go.Proofs.PipeA
set_option maxRecDepth 100000

attribute [local go_sem] Oper.semAt_some

/-- The part of a list, as a slice. -/
def partV (g off size cap j : Nat) : Value := .slice (some ⟨g, off + j * size, none⟩) size (cap - j * size)

set_option maxHeartbeats 800000 in
theorem cPart (g off n cap p size j : Nat) (w : World) (hp : p ≤ 3) (hn : n = size * 2 ^ p) (hj : j < 2 ^ p) (hs : 1 ≤ size) (hn1 : n ≤ 1024) (hcap : n ≤ cap) :
    Calls Try.prog 90 #[.agg #[.slice (some ⟨g, off, none⟩) n cap, .int .i64 p], .int .i64 j] w fun e w' =>
      e = .returned (partV g off size cap j) ∧ w' = w.alloc (.cells #[.slice (some ⟨g, off, none⟩) n cap, .int .i64 p] 95) := by
  have e1 : (n : Int) / 2 ^ p = (size : Int) := by
    rw [hn, Int.natCast_mul, Int.natCast_pow]
    exact Int.mul_ediv_cancel _ (by have := Nat.two_pow_pos p; have h2 : ((2 ^ p : Nat) : Int) ≠ 0 := by omega
                                    rw [Int.natCast_pow] at h2; exact h2)
  have hjs : (j + 1) * size ≤ n := by
    rw [hn, Nat.mul_comm size]; exact Nat.mul_le_mul_right _ hj
  have hjs2 : j * size + size ≤ n := by rw [Nat.add_mul, Nat.one_mul] at hjs; exact hjs
  have hp3 : p = 0 ∨ p = 1 ∨ p = 2 ∨ p = 3 := by omega
  have hj8 : j < 8 := Nat.lt_of_lt_of_le hj (Nat.le_trans (Nat.pow_le_pow_right (by decide) hp) (by decide))
  unfold partV
  obtain ⟨a, ha⟩ : ∃ a, a = j * size := ⟨_, rfl⟩
  obtain ⟨b, hb⟩ : ∃ b, b = j * size + size := ⟨_, rfl⟩
  have e2 : (j : Int) * (size : Int) = (a : Int) := by rw [ha, Int.natCast_mul]
  have e3 : ((j : Int) + 1) * (size : Int) = (b : Int) := by rw [hb, Int.add_mul, Int.natCast_add, Int.natCast_mul, Int.one_mul]
  have hab : a ≤ b := by omega
  have hba : b - a = size := by omega
  have hbn : b ≤ n := by omega
  have hac : a < cap := by omega
  rw [← ha]
  clear hjs hn hj ha hb hp3 hjs2
  go_enter Try.func90, Try.ntmps90
  go_wp2
  go_ret
  exact ⟨rfl, rfl⟩

/-- What the iterator over parts keeps: how many there are, and what tells each. -/
def partsF (c t : Nat) : Value := .func (.func 102) #[] #[.pointer (some ⟨c, 0, none⟩), .pointer (some ⟨t, 0, none⟩)]
def tellV (ao : Option Addr) (n cap p : Nat) : Value := .func (.func 90) #[.agg #[.slice ao n cap, .int .i64 p]] #[]
structure PartsAt (w : World) (c t : Nat) (ao : Option Addr) (n cap p : Nat) : Prop where
  hc : w.heap[c]? = some (.cells #[.int .i64 ((2 ^ p : Nat) : Int)] 3)
  ht : w.heap[t]? = some (.cells #[tellV ao n cap p] 110)

def PartsIs (ao : Option Addr) (n cap p : Nat) (w : World) (e : Ending) (w' : World) : Prop :=
  ∃ c t, e = .returned (partsF c t) ∧ PartsAt w' c t ao n cap p ∧ w.heap.size ≤ c ∧ w.heap.size ≤ t ∧ c < w'.heap.size ∧ t < w'.heap.size ∧ Below w.heap.size w w'

theorem PartsIs.drew {ao : Option Addr} {n cap p : Nat} {w w0 w' : World} {e : Ending} (h : PartsIs ao n cap p w e w') (hb : Below w0.heap.size w0 w) : PartsIs ao n cap p w0 e w'.drew := by
  obtain ⟨c, t, he, ha, h1, h2, h3, h4, h5⟩ := h
  exact ⟨c, t, he, ⟨ha.hc, ha.ht⟩, Nat.le_trans hb.size h1, Nat.le_trans hb.size h2, h3, h4, hb.trans ((h5.mono hb.size).trans ⟨rfl, rfl, rfl, Nat.le_refl _, fun _ _ => rfl⟩)⟩
theorem PartsIs.below {ao : Option Addr} {n cap p : Nat} {w w0 w' : World} {e : Ending} (h : PartsIs ao n cap p w e w') (hb : Below w0.heap.size w0 w) : PartsIs ao n cap p w0 e w' := by
  obtain ⟨c, t, he, ha, h1, h2, h3, h4, h5⟩ := h
  exact ⟨c, t, he, ha, Nat.le_trans hb.size h1, Nat.le_trans hb.size h2, h3, h4, hb.trans (h5.mono hb.size)⟩

set_option maxHeartbeats 800000 in
theorem cEach (ao : Option Addr) (n cap p : Nat) (w : World) :
    Calls Try.prog 89 #[.int .i64 ((2 ^ p : Nat) : Int), tellV ao n cap p] w (PartsIs ao n cap p w) := by
  have hmf : ∀ (fn : Fn) (first cap : Array Value) (w : World), (Instr.makeFunc fn first cap).run Try.prog w = .ok (.func fn first cap) w := fun _ _ _ _ => rfl
  have HA : Hid (PartsIs ao n cap p w (.returned (partsF w.heap.size (w.heap.size + 1))) ((w.alloc (.cells #[.int .i64 ((2 ^ p : Nat) : Int)] 3)).alloc (.cells #[tellV ao n cap p] 110))) := by
    refine ⟨_, _, rfl, ⟨?_, ?_⟩, Nat.le_refl _, Nat.le_succ _, by simp; omega, by simp, ((Below.refl w.heap.size w).alloc (Nat.le_refl _) _).alloc (by simp) _⟩
    · exact (Below.heap_alloc _ _ _ (by simp)).trans (World.alloc_heap_new w _)
    · have := World.alloc_heap_new (w.alloc (.cells #[.int .i64 ((2 ^ p : Nat) : Int)] 3)) (.cells #[tellV ao n cap p] 110)
      rwa [World.size_alloc] at this
  unfold tellV partsF at HA
  unfold tellV
  have hm : ∃ m : Nat, Hid (m = 2 ^ p) := ⟨_, rfl⟩
  obtain ⟨m, HM⟩ := hm
  rw [← HM.out] at HA ⊢
  go_enter Try.func89, Try.ntmps89
  go_wp2
  go_ret
  simpa using HA.out

set_option maxHeartbeats 800000 in
theorem cParts (ao : Option Addr) (n cap p : Nat) (w : World) (hp : p ≤ 3) :
    Calls Try.prog 72 #[.agg #[.slice ao n cap, .int .i64 p]] w (PartsIs ao n cap p w) := by
  have hmf : ∀ (fn : Fn) (first cap : Array Value) (w : World), (Instr.makeFunc fn first cap).run Try.prog w = .ok (.func fn first cap) w := fun _ _ _ _ => rfl
  have HE := fun W => Lib.hid (cEach ao n cap p W)
  unfold tellV at HE
  have HB := Lib.hid (box_below w (.cells #[.slice ao n cap, .int .i64 p] 95))
  have E4 : Hid (IntKind.i64.wrap ((2 : Int) ^ p) = ((2 ^ p : Nat) : Int)) := by
    show _ = _
    have hm8 : 2 ^ p ≤ 8 := Nat.le_trans (Nat.pow_le_pow_right (by decide) hp) (by decide)
    have : ((2 : Int) ^ p) = ((2 ^ p : Nat) : Int) := by rw [Int.natCast_pow]; rfl
    rw [this]
    generalize 2 ^ p = m at hm8
    exact IntWalk.i64_in _ ⟨by omega, by omega⟩
  go_enter Try.func72, Try.ntmps72
  go_wp2_with fail
  have c0 : (w.alloc (.cells #[.slice ao n cap, .int .i64 p] 95)).cell? ⟨w.heap.size, 0, none⟩ = some (.slice ao n cap) := by simp
  have c1 : (w.alloc (.cells #[.slice ao n cap, .int .i64 p] 95)).cell? ⟨w.heap.size, 1, none⟩ = some (.int .i64 p) := by simp
  generalize w.alloc (.cells #[.slice ao n cap, .int .i64 p] 95) = W at HB c0 c1 ⊢
  generalize hBB : w.heap.size = B at c0 c1 ⊢
  clear hBB
  go_region_with (go_at_call 89; rw [E4.out]; refine (HE _).out.mono ?_; rintro e w1 ⟨c, t, rfl, hpa⟩; unfold partsF)
  all_goals
    go_wp2
    go_ret
    exact PartsIs.below ⟨c, t, rfl, hpa⟩ (HB.out.trans ((keeps_drew W).below HB.out.size (by simp)))
end Go.Proofs.Ytefbakhhlonafaa
