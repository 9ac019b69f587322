import Derived.Test.YtengpeaagfilmaaLatL7
namespace Go.Proofs.Ytengpeaagfilmaa
open Go.RowKit Go.Proofs Go.Proofs.PipeA Go.Proofs.LatM
set_option maxRecDepth 100000

theorem steps_count {c n m : Nat} (hc : c ≤ n) (h1 : ∀ j, j < c → decide (j + 1 < m) = true) (h2 : c = n ∨ decide (c + 1 < m) = false) : c + 1 = min (n + 1) (max m 1) := by
  have h3 : c = n ∨ m ≤ c + 1 := by
    rcases h2 with h | h
    · exact .inl h
    · have := of_decide_eq_false h; exact .inr (by omega)
  have h4 : c = 0 ∨ c < m := by
    by_cases h : c = 0
    · exact .inl h
    · have := of_decide_eq_true (h1 (c - 1) (by omega)); exact .inr (by omega)
  omega

set_option maxHeartbeats 3200000 in
theorem latticeSteps (ao : Option Addr) (cap : Nat) (l : List Int) (mo : Nat) (w : World) (hll : l.length ≤ 9223372036854775807) (hcap : l.length ≤ cap) (hmo : mo ≤ 255) (hi : IntsAt w ao l) :
    Calls Try.prog 4 #[.slice ao l.length cap, .int .u8 (mo : Int)] w fun e w' => e = .returned (.bool true) ∧ Below w.heap.size w w' := by
  have hmf : ∀ (fn : Fn) (first cap : Array Value) (w : World), (Instr.makeFunc fn first cap).run Try.prog w = .ok (.func fn first cap) w := fun _ _ _ _ => rfl
  have HA := fun W => Lib.hid (awake W)
  obtain ⟨w0, hw0⟩ : ∃ w0, w0 = w.alloc (.cells #[.slice ao l.length cap] 22) := ⟨_, rfl⟩
  have hbox0 : w0.heap[w.heap.size]? = some (.cells #[.slice ao l.length cap] 22) := by rw [hw0]; exact World.alloc_heap_new _ _
  have hb0 : Below w.heap.size w w0 := by rw [hw0]; exact box_below _ _
  have hlt0 := (Array.getElem?_eq_some_iff.1 hbox0).1
  have HW0 := Lib.hid hw0
  have HB0 := Lib.hid hb0
  have HBX0 := Lib.hid hbox0
  have HI := Lib.hid hi
  clear hw0 hbox0 hb0 hi
  cases hgd : goodL l with
  | false =>
    have HGD := Lib.hid hgd
    clear hgd
    go_enter Try.func4, Try.ntmps4
    go_wp2_with fail
    rw [← HW0.out]
    refine (HA _).out.mono ?_
    rintro e w1 ⟨rfl, hb1⟩
    have kl := box_cell ((hb1.block _ hlt0).trans HBX0.out)
    have hb01 : Below w.heap.size w w1 := HB0.out.trans (hb1.mono (by omega))
    have HR := Lib.hid (rGood ao cap l w1 hll (HI.out.below hb01))
    rw [HGD.out] at HR
    have HB1 := Lib.hid hb01
    clear hb1 hb01
    go_wp2_with fail
    refine HR.out.mono ?_
    rintro e w2 ⟨rfl, rfl⟩
    go_wp2_with fail
    refine (HA _).out.mono ?_
    rintro e w2 ⟨rfl, hb2⟩
    go_wp2
    go_ret
    exact ⟨rfl, HB1.out.trans (hb2.mono HB1.out.size)⟩
  | true =>
    have HGD := Lib.hid hgd
    have hl16 := good_len hgd
    clear hgd
    obtain ⟨m, hm⟩ : ∃ m, m = mo % 20 := ⟨_, rfl⟩
    have hm20 : m < 20 := by omega
    have hmi : (mo : Int) % 20 = (m : Int) := by omega
    clear hm
    go_enter Try.func4, Try.ntmps4
    go_wp2_with fail
    rw [← HW0.out]
    refine (HA _).out.mono ?_
    rintro e w1 ⟨rfl, hb1⟩
    have hbx1 := (hb1.block _ hlt0).trans HBX0.out
    have kl := box_cell hbx1
    have hb01 : Below w.heap.size w w1 := HB0.out.trans (hb1.mono (by omega))
    have HR := Lib.hid (rGood ao cap l w1 hll (HI.out.below hb01))
    rw [HGD.out] at HR
    have HB1 := Lib.hid hb01
    have HBX1 := Lib.hid hbx1
    have hlt1 := (Array.getElem?_eq_some_iff.1 hbx1).1
    clear hb1 hb01 hbx1
    go_wp2_with fail
    refine HR.out.mono ?_
    rintro e w2 ⟨rfl, rfl⟩
    obtain ⟨wx, hwx⟩ : ∃ wx, wx = ((w1.alloc (.cells #[.int .i64 0] 3)).alloc (.cells #[.int .i64 (m : Int)] 3)).alloc (.cells #[.bool true] 4) := ⟨_, rfl⟩
    have hb5 := (below2 w1 (.cells #[.int .i64 0] 3) (.cells #[.int .i64 (m : Int)] 3)).alloc (by simp; omega) (.cells #[.bool true] 4)
    rw [← hwx] at hb5
    have hszx : wx.heap.size = w1.heap.size + 3 := by rw [hwx]; simp
    have hLS : LS w w.heap.size w1.heap.size (w1.heap.size + 1) (w1.heap.size + 1 + 1) ao cap m l 0 wx := by
      refine ⟨?_, ?_, (hb5.block _ hlt1).trans HBX1.out, ?_, HB1.out.trans (hb5.mono HB1.out.size)⟩
      · rw [hwx]; have := World.alloc_heap_new ((w1.alloc (.cells #[.int .i64 0] 3)).alloc (.cells #[.int .i64 (m : Int)] 3)) (.cells #[.bool true] 4); simpa using this
      · rw [hwx]; exact (Below.heap_alloc _ _ _ (by simp; omega)).trans ((Below.heap_alloc _ _ _ (by simp)).trans (World.alloc_heap_new _ _))
      · rw [hwx]; refine (Below.heap_alloc _ _ _ (by simp)).trans ?_; have := World.alloc_heap_new (w1.alloc (.cells #[.int .i64 0] 3)) (.cells #[.int .i64 (m : Int)] 3); simpa using this
    have kx := box_cell hLS.l
    have HLS := Lib.hid hLS
    have HST := Lib.hid (cSteps ao cap l wx HGD.out (HI.out.below hLS.below))
    have HWX := Lib.hid hwx
    rw [hwx] at kx
    clear hLS hb5 hwx kl
    go_wp2_with fail
    rw [← HWX.out]
    refine HST.out.mono ?_
    rintro e w2 ⟨B, H, rfl, hS, hB, hH, hb2⟩
    have HLS2 := Lib.hid (HLS.out.mono hb2)
    have HCL := Lib.hid (steps2_calls w.heap.size w1.heap.size (w1.heap.size + 1) (w1.heap.size + 1 + 1) B H l w2 [w1.heap.size + 1 + 1, w1.heap.size] (LS w w.heap.size w1.heap.size (w1.heap.size + 1) (w1.heap.size + 1 + 1) ao cap m l) (fun j => decide (j + 1 < m)) HGD.out hS (by simp; omega) (by simp; omega)
      (by have := hb2.size; simp; omega) (fun j A C h hb => h.mono hb)
      (steps1 w _ _ _ _ ao cap m l 0 none 0 w2 (Nat.zero_le _) hcap HGD.out (Nat.le_refl _) (by omega) (by omega) (by omega) HI.out HLS2.out (fun j hj => by simp [cf] at hj) _ ⟨fun _ => .bool true, 0, fun t ht => by omega, fun h => by omega, fun _ => rfl, fun h => by omega, fun j hj => by omega, fun h => by omega⟩)
      (fun c g cap1 cur W1 hc hcap1 hL hi1 hcur hg => steps1 w _ _ _ _ ao cap m l (c + 1) (some ⟨g, 0, none⟩) cap1 W1 (by omega) hcap HGD.out (Nat.le_refl _) (by omega) (by omega) (by omega) HI.out hL hi1 _
        ⟨fun j => .int .i64 ((cf l (c + 1)).getD j 0), g, fun t ht => rfl, fun h => rfl, fun h => by omega, fun h => by have := hb2.size; omega, fun j hj => by
          obtain ⟨b', off', he, _, hcl⟩ := hi1 j (by rw [cf_length]; exact hj)
          simp only [Option.some.injEq, Addr.mk.injEq, and_true] at he
          obtain ⟨rfl, rfl⟩ := he
          rw [Nat.zero_add] at hcl
          exact ⟨by rw [hcl]; show _ = some (Value.int IntKind.i64 ((cf l (c + 1)).getD j 0)); rw [getD_at (by rw [cf_length]; exact hj)], frozen_of_heap hcur j⟩, fun _ => (Array.getElem?_eq_some_iff.1 hcur).1⟩))
    clear hS hb2 HST HLS kx HWX
    go_wp2_with fail
    refine HCL.out.mono ?_
    rintro e w3 ⟨⟨v, rfl⟩, c, hc, hL3, hc1, hc2⟩
    have hcnt := steps_count hc hc1 hc2
    have HB3 := Lib.hid hL3.below
    have kok := box_cell hL3.ok
    have kn := box_cell hL3.n
    have kl := box_cell hL3.l
    have km := box_cell hL3.m
    have hcn : ((c + 1 : Nat) : Int) = min ((l.length : Int) + 1) (max (m : Int) 1) := by omega
    clear hc1 hc2 hL3 HLS2 HCL
    generalize ((c + 1 : Nat) : Int) = N at kn hcn
    have HN := Lib.hid hcn
    clear hcn hcnt
    go_wp2
    all_goals
      rename_i h1
      first | rw [if_pos h] at h1 | rw [if_neg (by omega)] at h1
      have hN := HN.out
      go_ret
      refine ⟨?_, HB3.out⟩
      simp
      omega
end Go.Proofs.Ytengpeaagfilmaa
