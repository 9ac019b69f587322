import Derived.Test.YtbbcemgcanclnaaWefC
namespace Go.Proofs.Ytbbcemgcanclnaa
open Go.RowKit Go.Proofs Go.Proofs.PipeM Go.Proofs.PipeA Go.Proofs.WefM
set_option maxRecDepth 100000

theorem ints_block {W : World} {b : Nat} {l : List Int} {t : TypeId} (h : W.heap[b]? = some (.cells (intsOf l).toArray t)) : IntsAt W (some ⟨b, 0, none⟩) l := by
  intro j hj
  refine ⟨b, 0, rfl, (Array.getElem?_eq_some_iff.1 h).1, ?_⟩
  rw [cell_of_heap h, Nat.zero_add]
  simp [intsOf, hj]
theorem ints_nilW (W : World) (ao : Option Addr) : IntsAt W ao [] := fun j hj => by simp at hj

set_option maxHeartbeats 1600000 in
theorem awake11 (w : World) : Calls Try.prog 8 #[] w fun e w' => e = .returned (.bool true) ∧ Below w.heap.size w w' := by
  obtain ⟨wa, hwa⟩ : ∃ wa, wa = (w.alloc (.cells #[.int .i64 16, .int .i64 32] 3)).alloc (.cells #[.int .i64 16, .int .i64 32] 3) := ⟨_, rfl⟩
  have hb : Below w.heap.size w wa := by rw [hwa]; exact below2 w _ _
  have h1 : wa.heap[w.heap.size]? = some (.cells #[.int .i64 16, .int .i64 32] 3) := by rw [hwa]; exact (Below.heap_alloc _ _ _ (by simp)).trans (heap_alloc_new w _)
  have h2 : wa.heap[w.heap.size + 1]? = some (.cells #[.int .i64 16, .int .i64 32] 3) := by rw [hwa]; have := heap_alloc_new (w.alloc (.cells #[.int .i64 16, .int .i64 32] 3)) (.cells #[.int .i64 16, .int .i64 32] 3); rwa [World.size_alloc] at this
  have HR := Lib.hid (cRestW ⟨true, 0, 0, 15, 0⟩ (some ⟨w.heap.size, 0, none⟩) (some ⟨w.heap.size + 1, 0, none⟩) 2 2 [16, 32] [16, 32] wa (by unfold WvIn I64; decide) (by simp) (by simp) (by simp) (by simp) (ints_block (l := [16, 32]) h1) (ints_block (l := [16, 32]) h2))
  unfold RowR at HR
  rw [show codeRest ⟨true, 0, 0, 15, 0⟩ [16, 32] [16, 32] = 0 by decide, show restL ⟨true, 0, 0, 15, 0⟩ [16, 32] [16, 32] = [1, 2] by decide] at HR
  have HB := Lib.hid hb
  unfold wvV at HR
  simp only [List.length_cons, List.length_nil, Nat.zero_add, Nat.reduceAdd] at HR
  clear hb h1 h2
  go_enter Try.func8, Try.ntmps8
  go_wp2_with fail
  rw [← hwa]
  refine HR.out.mono ?_
  rintro e w1 (⟨h, _⟩ | ⟨_, ao, cap, rfl, hi, _, _, hb1⟩)
  · exact absurd rfl h
  · have HB1 := Lib.hid (HB.out.trans (hb1.mono HB.out.size))
    have hb2 := box_below w1 (.cells #[.int .i64 1, .int .i64 2] 3)
    have h3 := heap_alloc_new w1 (.cells #[.int .i64 1, .int .i64 2] 3)
    have hS := refSame ao (some ⟨w1.heap.size, 0, none⟩) cap 2 [1, 2] [1, 2] (w1.alloc (.cells #[.int .i64 1, .int .i64 2] 3)) (by simp) (hi.below hb2) (ints_block (l := [1, 2]) h3)
    rw [decide_eq_true rfl] at hS
    have HS := Lib.hid hS
    have HB2 := Lib.hid (HB1.out.trans (hb2.mono HB1.out.size))
    simp only [List.length_cons, List.length_nil, Nat.zero_add, Nat.reduceAdd] at HS
    clear hi hb1 hb2 h3 hS hwa HR
    go_wp2_with fail
    refine HS.out.mono ?_
    rintro e w2 ⟨rfl, k, hw2⟩
    have HB3 : Hid (Below w.heap.size w w2) := by show Below _ _ _; rw [hw2]; exact below_drewN HB2.out k
    clear hw2
    go_wp2
    go_ret
    exact ⟨rfl, HB3.out⟩
end Go.Proofs.Ytbbcemgcanclnaa
