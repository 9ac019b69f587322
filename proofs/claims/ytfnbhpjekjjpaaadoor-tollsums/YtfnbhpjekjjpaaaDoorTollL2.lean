import Derived.Test.YtfnbhpjekjjpaaaDoorTollL1
import Derived.Deep.RegionHeld3
namespace Go.Proofs.YtfnbhpjekjjpaaaDoor
open Go.RowKit Go.Proofs Go.Proofs.TollM
set_option maxRecDepth 100000

theorem makeBytes (m : Nat) (hm : m ≤ 100000) : ∃ cs : Array Value, (∀ j, j < m → cs[j]? = some (.int .u8 0)) ∧ ∀ W, (Instr.makeSlice 22 (.int .i64 (m : Int)) (.int .i64 (m : Int))).run Tryd.prog W = .ok (.slice (some ⟨W.heap.size, 0, none⟩) m m) (W.alloc (.cells cs 5)) := by
  obtain ⟨i0, hi, hz0, hz1, hz2⟩ := info_parts info_u8
  refine ⟨madeCells (Value.cells (.int .u8 0)) (m * i0.size), ?_, fun W => ?_⟩
  · intro j hj
    rw [hz1]
    simp [madeCells, Value.cells, hj]
    rw [Nat.mod_one]; rfl
  · have := run_make (P := Tryd.prog) W 22 5 i0 (.int .u8 0) und_bytes hi hz0 .i64 .i64 m m (by omega) (Int.le_refl _) (by rw [hz2]; omega) (by omega)
    simpa using this

theorem zeros_at {W : World} {cs : Array Value} {m : Nat} (h : ∀ j, j < m → cs[j]? = some (.int .u8 0)) : BytesAt (W.alloc (.cells cs 5)) (some ⟨W.heap.size, 0, none⟩) (List.replicate m 0) := by
  intro j hj
  have hj' : j < m := by simpa using hj
  refine ⟨W.heap.size, 0, rfl, by simp, ?_⟩
  rw [Nat.zero_add, cell_new, h j hj']
  simp [List.getD, hj']

set_option maxHeartbeats 1000000 in
theorem tollSums (ao : Option Addr) (cap n : Nat) (zs : List Nat) (w : World) (hz : ∀ z ∈ zs, z < 256) (hc : BytesAt w ao zs) (hnil : ao = none → zs = []) (ht : Tab w) (hn : n < 65536) (hlen : zs.length ≤ maxLen) :
    Calls Tryd.prog 3 #[.slice ao zs.length cap, .int .u16 n] w fun e w' => e = .returned (.bool true) ∧ Below w.heap.size w w' := by
  have HZ := Lib.hid hz
  have HC := Lib.hid hc
  have HN := Lib.hid hnil
  have HT := Lib.hid ht
  clear hz hc hnil ht
  have hm : zs.length ≤ 9223372036854775807 := by unfold maxLen at hlen; omega
  clear hlen
  go_enter Tryd.func3, Tryd.ntmps3
  go_wp2_with fail
  refine (awake w HT.out).mono ?_
  rintro e w1 ⟨rfl, hb1⟩
  have HB1 := Lib.hid hb1
  clear hb1
  by_cases hbig : 1000 < zs.length
  · have t1 : decide ((1000 : Int) < (zs.length : Int)) = true := decide_eq_true (by omega)
    go_wp2_with fail
    refine (awake w1 (HT.out.below HB1.out)).mono ?_
    rintro e w2 ⟨rfl, hb2⟩
    have HB2 := Lib.hid hb2
    clear hb2
    go_wp2
    go_ret
    exact ⟨rfl, HB1.out.trans (HB2.out.mono HB1.out.size)⟩
  · have t1 : decide ((1000 : Int) < (zs.length : Int)) = false := decide_eq_false (by omega)
    have hl : zs.length ≤ 1000 := by omega
    have hbA : Below w1.heap.size w1 (w1.alloc (.cells #[] 5)) := (Below.refl _ _).alloc (Nat.le_refl _) _
    obtain ⟨g, cap', w2, hr, hown, hb2⟩ := run_copy (w := w1.alloc (.cells #[] 5)) (g := w1.heap.size) (ao := ao) (cap := cap) (ty := 22) (zs := zs) (heap_new _ _) (by omega) ((HC.out.below HB1.out).below hbA) HN.out
    have HBel : Hid (Below w.heap.size w w2) := HB1.out.trans ((hbA.mono HB1.out.size).trans (hb2.mono HB1.out.size))
    have HO := Lib.hid (bytes_own hown)
    clear hown hb2 hbA
    go_wp2_with (at_builtin; refine wpList_append_run rfl _ _ 22 rfl _ _ _ _ rfl rfl hr ?_)
    obtain ⟨k, hk, hkl⟩ : ∃ k : Nat, (n : Int) % 2000 = (k : Int) ∧ k < 2000 := ⟨n % 2000, by omega, by omega⟩
    have HC2 : Hid (BytesAt w2 ao zs) := HC.out.below HBel.out
    have HT2 : Hid (Tab w2) := HT.out.below HBel.out
    have hcv1 := conv_bytes (w := w2.drew) (cap := cap') (show BytesAt w2.drew _ zs from HO.out)
    have hcv2 := conv_bytes (w := w2.drew) (cap := cap) (show BytesAt w2.drew _ zs from HC2.out)
    have HS1 := Lib.hid (cSum _ cap' zs w2.drew (by omega) HZ.out HO.out HT2.out)
    have HS2 := Lib.hid (refSum _ cap zs w2.drew (by omega) HZ.out HC2.out)
    obtain ⟨cs, hcs, hmk⟩ := makeBytes k (by omega)
    have HS3 : Hid (Calls Tryd.prog 8 #[.slice (some ⟨w2.heap.size, 0, none⟩) k k] (w2.alloc (.cells cs 5)).drew fun e w' => e = .returned (.int .u32 ((sum (List.replicate k 0) : Nat) : Int)) ∧ w' = (w2.alloc (.cells cs 5)).drew) := Lib.hid (by
      have := refSum (some ⟨w2.heap.size, 0, none⟩) k (List.replicate k 0) (w2.alloc (.cells cs 5)).drew (by simp; omega) (by intro z hz; rw [List.eq_of_mem_replicate hz]; decide) (zeros_at (W := w2) hcs)
      rwa [List.length_replicate] at this)
    have HS4 := Lib.hid (fun W : World => cZeros k W (by omega))
    go_wp2
    rw [hk]
    go_region_with (first
      | (go_at_call 7; refine HS1.out.mono ?_; rintro e w3 ⟨rfl, rfl⟩)
      | (go_at_call_of 8 zs; refine HS2.out.mono ?_; rintro e w3 ⟨rfl, rfl⟩)
      | (go_at_call 8; refine HS3.out.mono ?_; rintro e w3 ⟨rfl, rfl⟩)
      | (go_at_call 9; refine (HS4.out _).mono ?_; rintro e w3 ⟨rfl, rfl⟩))
    all_goals
      go_wp2
      go_ret
      exact ⟨rfl, (HBel.out.alloc HBel.out.size _).drew⟩
end Go.Proofs.YtfnbhpjekjjpaaaDoor
