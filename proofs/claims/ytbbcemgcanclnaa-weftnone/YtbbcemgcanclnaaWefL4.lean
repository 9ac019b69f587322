import Derived.Test.YtbbcemgcanclnaaWefL2
namespace Go.Proofs.Ytbbcemgcanclnaa
open Go.RowKit Go.Proofs Go.Proofs.PipeM Go.Proofs.PipeA Go.Proofs.WefM
set_option maxRecDepth 100000

set_option maxHeartbeats 3200000 in
theorem weftNone_much (ao bo : Option Addr) (n k cap cap2 : Nat) (w : World) (h : 80 < n ∨ (n ≤ 80 ∧ n ≠ k)) :
    Calls Try.prog 7 #[.agg #[.slice ao n cap, .slice bo k cap2]] w fun e w' => e = .returned (.bool true) ∧ Below w.heap.size w w' := by
  have HAW := fun W => Lib.hid (awake11 W)
  obtain ⟨W0, hW0⟩ : ∃ W0, W0 = w.alloc (.cells #[.slice ao n cap, .slice bo k cap2] 36) := ⟨_, rfl⟩
  have hbw : Below w.heap.size w W0 := by rw [hW0]; exact box_below w _
  have hn1 : W0.heap[w.heap.size]? = some (.cells #[.slice ao n cap, .slice bo k cap2] 36) := by rw [hW0]; exact heap_alloc_new w _
  have hlt1 : w.heap.size < W0.heap.size := (Array.getElem?_eq_some_iff.1 hn1).1
  have KT : Hid (∀ W, Below W0.heap.size W0 W → W.cell? ⟨w.heap.size, 0, none⟩ = some (.slice ao n cap) ∧ W.cell? ⟨w.heap.size, 1, none⟩ = some (.slice bo k cap2)) := fun W h => ⟨(h.cell (p := ⟨w.heap.size, 0, none⟩) hlt1).trans (cell_of_heap hn1 0), (h.cell (p := ⟨w.heap.size, 1, none⟩) hlt1).trans (cell_of_heap hn1 1)⟩
  have HW0 := Lib.hid hW0
  have HB0 := Lib.hid hbw
  clear hW0 hbw hn1 hlt1
  rcases h with h | ⟨h, h2⟩
  · have t1i : decide ((80 : Int) < (n : Int)) = true := decide_eq_true (by omega)
    have t1n : decide (80 < n) = true := decide_eq_true h
    clear h
    go_enter Try.func7, Try.ntmps7
    go_wp2_with fail
    rw [← HW0.out]
    refine (HAW _).out.mono ?_
    rintro e w1 ⟨rfl, hb1⟩
    obtain ⟨k0, k1⟩ := KT.out w1 hb1
    have HB1 := Lib.hid hb1
    clear hb1
    go_wp2_with fail
    refine (HAW _).out.mono ?_
    rintro e w3 ⟨rfl, hb3⟩
    have HB3 := Lib.hid (HB0.out.trans ((HB1.out.trans (hb3.mono HB1.out.size)).mono HB0.out.size))
    clear hb3
    go_wp2
    go_ret
    exact ⟨rfl, HB3.out⟩
  · have t1i : decide ((80 : Int) < (n : Int)) = false := decide_eq_false (by omega)
    have t1n : decide (80 < n) = false := decide_eq_false (by omega)
    have t2i : ((n : Int) != (k : Int)) = true := by rw [bne_iff_ne]; omega
    have t2n : (n != k) = true := by rw [bne_iff_ne]; exact h2
    clear h h2
    go_enter Try.func7, Try.ntmps7
    go_wp2_with fail
    rw [← HW0.out]
    refine (HAW _).out.mono ?_
    rintro e w1 ⟨rfl, hb1⟩
    obtain ⟨k0, k1⟩ := KT.out w1 hb1
    have HB1 := Lib.hid hb1
    clear hb1
    go_wp2_with fail
    refine (HAW _).out.mono ?_
    rintro e w3 ⟨rfl, hb3⟩
    have HB3 := Lib.hid (HB0.out.trans ((HB1.out.trans (hb3.mono HB1.out.size)).mono HB0.out.size))
    clear hb3
    go_wp2
    go_ret
    exact ⟨rfl, HB3.out⟩

set_option maxHeartbeats 6400000 in
theorem weftNone_few (ao bo : Option Addr) (cap cap2 : Nat) (own m : List Int) (w : World) (hl : own.length ≤ 80) (hlm : own.length = m.length) (hc : own.length ≤ cap) (hc2 : m.length ≤ cap2) (hi : IntsAt w ao own) (hj : IntsAt w bo m) :
    Calls Try.prog 7 #[.agg #[.slice ao own.length cap, .slice bo m.length cap2]] w fun e w' => e = .returned (.bool true) ∧ Below w.heap.size w w' := by
  have HAW := fun W => Lib.hid (awake11 W)
  have hx : WvIn ⟨false, 0, 0, 0, 0⟩ := by unfold WvIn I64; decide
  obtain ⟨W0, hW0⟩ : ∃ W0, W0 = w.alloc (.cells #[.slice ao own.length cap, .slice bo m.length cap2] 36) := ⟨_, rfl⟩
  have hbw : Below w.heap.size w W0 := by rw [hW0]; exact box_below w _
  have hn1 : W0.heap[w.heap.size]? = some (.cells #[.slice ao own.length cap, .slice bo m.length cap2] 36) := by rw [hW0]; exact heap_alloc_new w _
  have hlt1 : w.heap.size < W0.heap.size := (Array.getElem?_eq_some_iff.1 hn1).1
  have KT : Hid (∀ W, Below W0.heap.size W0 W → W.cell? ⟨w.heap.size, 0, none⟩ = some (.slice ao own.length cap) ∧ W.cell? ⟨w.heap.size, 1, none⟩ = some (.slice bo m.length cap2)) := fun W h => ⟨(h.cell (p := ⟨w.heap.size, 0, none⟩) hlt1).trans (cell_of_heap hn1 0), (h.cell (p := ⟨w.heap.size, 1, none⟩) hlt1).trans (cell_of_heap hn1 1)⟩
  have HI0 : Hid (∀ W, Below W0.heap.size W0 W → IntsAt W ao own) := fun W hb => (hi.below hbw).below hb
  have HJ0 : Hid (∀ W, Below W0.heap.size W0 W → IntsAt W bo m) := fun W hb => (hj.below hbw).below hb
  have HRD : Hid (∀ W, Below W0.heap.size W0 W → Calls Try.prog 10 #[.agg #[.bool false, .int .i64 0, .int .i64 0, .int .i64 0, .int .i64 0], .slice ao own.length cap, .slice bo m.length cap2] W fun e w' => ∃ v, e = .returned (.tuple #[v, .int .i64 (codeRest ⟨false, 0, 0, 0, 0⟩ own m)]) ∧ Below W.heap.size W w') := fun W hb => by
    refine (rRestW ⟨false, 0, 0, 0, 0⟩ ao bo cap cap2 own m W (by omega) (by omega) (HI0.out W hb) (HJ0.out W hb)).mono ?_
    rintro e w' (⟨_, rfl, h⟩ | ⟨h0, ro, rc, rfl, _, _, _, h⟩)
    · exact ⟨_, rfl, h⟩
    · exact ⟨_, by rw [h0], h⟩
  have HRP : Hid (codeRest ⟨false, 0, 0, 0, 0⟩ own m = 0 → ∀ W, Below W0.heap.size W0 W → Calls Try.prog 9 #[.agg #[.bool false, .int .i64 0, .int .i64 0, .int .i64 0, .int .i64 0], .slice ao own.length cap, .slice bo m.length cap2] W fun e w' => ∃ ro rc, e = .returned (.tuple #[.slice ro own.length rc, .int .i64 0]) ∧ IntsAt w' ro own ∧ Below W.heap.size W w') := fun h0 W hb => by
    have := cRestW ⟨false, 0, 0, 0, 0⟩ ao bo cap cap2 own m W hx (by omega) (by omega) hc hc2 (HI0.out W hb) (HJ0.out W hb)
    unfold RowR at this
    rw [h0, restL_none _ rfl] at this
    refine this.mono ?_
    rintro e w' (⟨hne, _⟩ | ⟨_, ro, rc, rfl, g1, _, _, g2⟩)
    · exact absurd rfl hne
    · exact ⟨ro, rc, rfl, g1, g2⟩
  have HBP : Hid (codeRest ⟨false, 0, 0, 0, 0⟩ own m = 0 → ∀ W, Below W0.heap.size W0 W → Calls Try.prog 12 #[.agg #[.bool false, .int .i64 0, .int .i64 0, .int .i64 0, .int .i64 0], .slice ao own.length cap, .slice bo m.length cap2, .int .i64 8388607] W fun e w' => ∃ ro rc, e = .returned (.tuple #[.slice ro own.length rc, .int .i64 0]) ∧ IntsAt w' ro own ∧ Below W.heap.size W w') := fun h0 W hb => by
    have hz := (codeRest_zero h0).2.2.1
    have hk := back_ok h0
    rw [restL_none _ rfl] at hk
    have := cBackW ⟨false, 0, 0, 0, 0⟩ ao bo cap cap2 own m 8388607 W hx (by unfold I64; decide) (fun y hy => by have := all_S hz y hy; unfold I64; omega) (by omega) (by omega) hc hc2 (HI0.out W hb) (HJ0.out W hb)
    unfold RowR at this
    rw [hk, backL_none _ rfl] at this
    refine this.mono ?_
    rintro e w' (⟨hne, _⟩ | ⟨_, ro, rc, rfl, g1, _, _, g2⟩)
    · exact absurd rfl hne
    · exact ⟨ro, rc, rfl, g1, g2⟩
  have HSO : Hid (∀ W a b c1 c2, IntsAt W a own → IntsAt W b own → Calls Try.prog 11 #[.slice a own.length c1, .slice b own.length c2] W fun e w' => e = .returned (.bool true) ∧ Below W.heap.size W w') := fun W a b c1 c2 h1 h2 => sameW a b c1 c2 own W (by omega) h1 h2
  have HBX := Lib.hid hbw
  have HW0 := Lib.hid hW0
  have t1 : decide ((80 : Int) < (own.length : Int)) = false := decide_eq_false (by omega)
  have t1n : decide (80 < own.length) = false := decide_eq_false (by omega)
  have t2 : ((own.length : Int) != (m.length : Int)) = false := by rw [bne_eq_false_iff_eq]; omega
  have t2n : (own.length != m.length) = false := by rw [bne_eq_false_iff_eq]; exact hlm
  clear hi hj hx hl hlm hc hc2 hn1 hW0 hbw hlt1
  generalize codeRest ⟨false, 0, 0, 0, 0⟩ own m = cd at *
  generalize own.length = n at *
  generalize m.length = k at *
  go_enter Try.func7, Try.ntmps7
  go_wp2_with fail
  rw [← HW0.out]
  refine (HAW _).out.mono ?_
  rintro e w1 ⟨rfl, hb1⟩
  obtain ⟨k0, k1⟩ := KT.out w1 hb1
  have HR1 := Lib.hid hb1
  have HD := Lib.hid (HRD.out w1 hb1)
  clear hb1
  go_wp2_with fail
  refine HD.out.mono ?_
  rintro e w2 ⟨v, rfl, hb2⟩
  have HR2 := Lib.hid (HR1.out.trans (hb2.mono HR1.out.size))
  clear hb2 k0 k1 HD
  by_cases hcd : cd = 0
  rotate_left
  · have u1 : (cd != 0) = true := bne_iff_ne.2 hcd
    clear hcd HRP HBP
    go_wp2
    go_ret
    exact ⟨rfl, HBX.out.trans (HR2.out.mono HBX.out.size)⟩
  · subst hcd
    obtain ⟨k0, k1⟩ := KT.out w2 HR2.out
    have HP := Lib.hid (HRP.out (by trivial) w2 HR2.out)
    go_wp2_with fail
    refine HP.out.mono ?_
    rintro e w3 ⟨ro, rc, rfl, hi3, hb3⟩
    have HR3 := Lib.hid (HR2.out.trans (hb3.mono HR2.out.size))
    have HL3 := Lib.hid hi3
    have HB := Lib.hid (HBP.out (by trivial) w3 HR3.out)
    clear hi3 hb3 k0 k1 HP
    obtain ⟨k0, k1⟩ := KT.out w3 HR3.out
    go_wp2_with fail
    refine HB.out.mono ?_
    rintro e w4 ⟨so, sc, rfl, hi4, hb4⟩
    have HR4 := Lib.hid (HR3.out.trans (hb4.mono HR3.out.size))
    have HS4 := Lib.hid (HSO.out w4 ro ao rc cap (HL3.out.below hb4) (HI0.out _ HR4.out))
    have HL4 := Lib.hid hi4
    clear hi4 hb4 k0 k1 HB
    obtain ⟨k0, k1⟩ := KT.out w4 HR4.out
    go_wp2_with fail
    refine HS4.out.mono ?_
    rintro e w5 ⟨rfl, hb5⟩
    have HR5 := Lib.hid (HR4.out.trans (hb5.mono HR4.out.size))
    have HS5 := Lib.hid (HSO.out w5 so ao sc cap (HL4.out.below hb5) (HI0.out _ HR5.out))
    clear hb5 k0 k1
    obtain ⟨k0, k1⟩ := KT.out w5 HR5.out
    go_wp2_with fail
    refine HS5.out.mono ?_
    rintro e w6 ⟨rfl, hb6⟩
    have HR6 := Lib.hid (HR5.out.trans (hb6.mono HR5.out.size))
    clear hb6 k0 k1
    go_wp2
    go_ret
    exact ⟨rfl, HBX.out.trans (HR6.out.mono HBX.out.size)⟩

theorem weftNone (ao bo : Option Addr) (cap cap2 : Nat) (own m : List Int) (w : World) (hc : own.length ≤ cap) (hc2 : m.length ≤ cap2) (hi : IntsAt w ao own) (hj : IntsAt w bo m) :
    Calls Try.prog 7 #[.agg #[.slice ao own.length cap, .slice bo m.length cap2]] w fun e w' => e = .returned (.bool true) ∧ Below w.heap.size w w' := by
  by_cases h1 : 80 < own.length
  · exact weftNone_much ao bo own.length m.length cap cap2 w (.inl h1)
  · by_cases h2 : own.length = m.length
    · exact weftNone_few ao bo cap cap2 own m w (by omega) h2 hc hc2 hi hj
    · exact weftNone_much ao bo own.length m.length cap cap2 w (.inr ⟨by omega, h2⟩)
end Go.Proofs.Ytbbcemgcanclnaa
