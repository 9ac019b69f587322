import Derived.Test.YtbbcemgcanclnaaWefL2
import Derived.Test.YtbbcemgcanclnaaWefE
import Derived.Deep.RegionHeld3
namespace Go.Proofs.Ytbbcemgcanclnaa
open Go.RowKit Go.Proofs Go.Proofs.PipeM Go.Proofs.PipeA Go.Proofs.WefM
set_option maxRecDepth 100000

set_option maxHeartbeats 3200000 in
theorem weftBest_much (ao bo : Option Addr) (n k cap cap2 : Nat) (w : World) (h : 60 < n ∨ (n ≤ 60 ∧ n ≠ k)) :
    Calls Try.prog 6 #[.agg #[.slice ao n cap, .slice bo k cap2]] w fun e w' => e = .returned (.bool true) ∧ Below w.heap.size w w' := by
  have HAW := fun W => Lib.hid (awake11 W)
  obtain ⟨W0, hW0⟩ : ∃ W0, W0 = w.alloc (.cells #[.slice ao n cap, .slice bo k cap2] 36) := ⟨_, rfl⟩
  have hbw : Below w.heap.size w W0 := by rw [hW0]; exact box_below w _
  have hn1 : W0.heap[w.heap.size]? = some (.cells #[.slice ao n cap, .slice bo k cap2] 36) := by rw [hW0]; exact heap_alloc_new w _
  have hlt1 : w.heap.size < W0.heap.size := (Array.getElem?_eq_some_iff.1 hn1).1
  have KT : Hid (∀ W, Below W0.heap.size W0 W → W.cell? ⟨w.heap.size, 0, none⟩ = some (.slice ao n cap) ∧ W.cell? ⟨w.heap.size, 1, none⟩ = some (.slice bo k cap2)) := fun W h => ⟨(h.cell (p := ⟨w.heap.size, 0, none⟩) hlt1).trans (cell_of_heap hn1 0), (h.cell (p := ⟨w.heap.size, 1, none⟩) hlt1).trans (cell_of_heap hn1 1)⟩
  have HW0 := Lib.hid hW0
  have HB0 := Lib.hid hbw
  clear hW0 hbw hn1 hlt1
  rcases h with h | ⟨h, h2⟩
  · have t1i : decide ((60 : Int) < (n : Int)) = true := decide_eq_true (by omega)
    have t1n : decide (60 < n) = true := decide_eq_true h
    clear h
    go_enter Try.func6, Try.ntmps6
    go_wp2_with fail
    rw [← HW0.out]
    refine (HAW _).out.mono ?_
    rintro e w1 ⟨rfl, hb1⟩
    obtain ⟨k0, k1⟩ := KT.out w1 hb1
    have HB1 := Lib.hid hb1
    clear hb1
    go_wp2_with fail
    refine (HAW _).out.mono ?_
    rintro e w3 ⟨rfl, hb3⟩
    have HB3 := Lib.hid (HB0.out.trans ((HB1.out.trans (hb3.mono HB1.out.size)).mono HB0.out.size))
    clear hb3
    go_wp2
    go_ret
    exact ⟨rfl, HB3.out⟩
  · have t1i : decide ((60 : Int) < (n : Int)) = false := decide_eq_false (by omega)
    have t1n : decide (60 < n) = false := decide_eq_false (by omega)
    have t2i : ((n : Int) != (k : Int)) = true := by rw [bne_iff_ne]; omega
    have t2n : (n != k) = true := by rw [bne_iff_ne]; exact h2
    clear h h2
    go_enter Try.func6, Try.ntmps6
    go_wp2_with fail
    rw [← HW0.out]
    refine (HAW _).out.mono ?_
    rintro e w1 ⟨rfl, hb1⟩
    obtain ⟨k0, k1⟩ := KT.out w1 hb1
    have HB1 := Lib.hid hb1
    clear hb1
    go_wp2_with fail
    refine (HAW _).out.mono ?_
    rintro e w3 ⟨rfl, hb3⟩
    have HB3 := Lib.hid (HB0.out.trans ((HB1.out.trans (hb3.mono HB1.out.size)).mono HB0.out.size))
    clear hb3
    go_wp2
    go_ret
    exact ⟨rfl, HB3.out⟩

/-- Of a weave by its gain (none at 0): its rest, and its rest's sum. -/
theorem rest_best (x : Wv) (own m : List Int) (h0 : codeRest ⟨false, 0, 0, 0, 0⟩ own m = 0) (g : Nat) (hg : g ≤ 15) (hx : x = if g = 0 then ⟨false, 0, 0, 0, 0⟩ else gainW g) : codeRest x own m = 0 ∧ sumW (restL x own m) = sumG own m g ∧ WvIn x ∧ goodW x 8 = true := by
  by_cases h : g = 0
  · rw [hx, if_pos h, h, restL_none _ rfl, sumG_zero]
    exact ⟨h0, rfl, by unfold WvIn I64; decide, rfl⟩
  · rw [hx, if_neg h]
    refine ⟨rest_gain h0 (by omega) hg, rfl, ?_, good_gain (by omega) hg⟩
    unfold WvIn I64 gainW
    dsimp only
    omega

set_option maxHeartbeats 6400000 in
theorem weftBest_few (ao bo : Option Addr) (cap cap2 : Nat) (own m : List Int) (w : World) (hl : own.length ≤ 60) (hlm : own.length = m.length) (hc : own.length ≤ cap) (hc2 : m.length ≤ cap2) (hi : IntsAt w ao own) (hj : IntsAt w bo m) :
    Calls Try.prog 6 #[.agg #[.slice ao own.length cap, .slice bo m.length cap2]] w fun e w' => e = .returned (.bool true) ∧ Below w.heap.size w w' := by
  have HAW := fun W => Lib.hid (awake11 W)
  obtain ⟨W0, hW0⟩ : ∃ W0, W0 = w.alloc (.cells #[.slice ao own.length cap, .slice bo m.length cap2] 36) := ⟨_, rfl⟩
  have hbw : Below w.heap.size w W0 := by rw [hW0]; exact box_below w _
  have hn1 : W0.heap[w.heap.size]? = some (.cells #[.slice ao own.length cap, .slice bo m.length cap2] 36) := by rw [hW0]; exact heap_alloc_new w _
  have hlt1 : w.heap.size < W0.heap.size := (Array.getElem?_eq_some_iff.1 hn1).1
  have KT : Hid (∀ W, Below W0.heap.size W0 W → W.cell? ⟨w.heap.size, 0, none⟩ = some (.slice ao own.length cap) ∧ W.cell? ⟨w.heap.size, 1, none⟩ = some (.slice bo m.length cap2)) := fun W h => ⟨(h.cell (p := ⟨w.heap.size, 0, none⟩) hlt1).trans (cell_of_heap hn1 0), (h.cell (p := ⟨w.heap.size, 1, none⟩) hlt1).trans (cell_of_heap hn1 1)⟩
  have HI0 : Hid (∀ W, Below W0.heap.size W0 W → IntsAt W ao own) := fun W hb => (hi.below hbw).below hb
  have HJ0 : Hid (∀ W, Below W0.heap.size W0 W → IntsAt W bo m) := fun W hb => (hj.below hbw).below hb
  have HRD : Hid (∀ W, Below W0.heap.size W0 W → Calls Try.prog 10 #[.agg #[.bool false, .int .i64 0, .int .i64 0, .int .i64 0, .int .i64 0], .slice ao own.length cap, .slice bo m.length cap2] W fun e w' => ∃ v, e = .returned (.tuple #[v, .int .i64 (codeRest ⟨false, 0, 0, 0, 0⟩ own m)]) ∧ Below W.heap.size W w') := fun W hb => by
    refine (rRestW ⟨false, 0, 0, 0, 0⟩ ao bo cap cap2 own m W (by omega) (by omega) (HI0.out W hb) (HJ0.out W hb)).mono ?_
    rintro e w' (⟨_, rfl, h⟩ | ⟨h0, ro, rc, rfl, _, _, _, h⟩)
    · exact ⟨_, rfl, h⟩
    · exact ⟨_, by rw [h0], h⟩
  obtain ⟨B, hB⟩ : ∃ B, B = bestTo own m 15 := ⟨_, rfl⟩
  have hB15 : B ≤ 15 := by rw [hB]; exact bestTo_le own m 15
  obtain ⟨x, hxe⟩ : ∃ x : Wv, x = if B = 0 then ⟨false, 0, 0, 0, 0⟩ else gainW B := ⟨_, rfl⟩
  obtain ⟨nb, hnb⟩ : ∃ nb : Bool, nb = decide (B ≠ 0) := ⟨_, rfl⟩
  have hxv : wvV x = .agg #[.bool nb, .int .i64 0, .int .i64 0, .int .i64 (B : Nat), .int .i64 0] := by
    rw [hxe, hnb]
    by_cases h : B = 0
    · rw [if_pos h, h]; rfl
    · rw [if_neg h, decide_eq_true h]; rfl
  have HBP : Hid (codeRest ⟨false, 0, 0, 0, 0⟩ own m = 0 → ∀ W, Below W0.heap.size W0 W → Calls Try.prog 20 #[.slice ao own.length cap, .slice bo m.length cap2] W fun e w' => e = .returned (.agg #[.int .i64 0, .int .i64 (B : Nat), .int .i64 0]) ∧ Below W.heap.size W w') := fun h0 W hb => by
    rw [hB]; exact cBestW ao bo cap cap2 own m W (by omega) hc hc2 (HI0.out W hb) (HJ0.out W hb) h0
  have HBD : Hid (codeRest ⟨false, 0, 0, 0, 0⟩ own m = 0 → ∀ W, Below W0.heap.size W0 W → Calls Try.prog 21 #[.slice ao own.length cap, .slice bo m.length cap2] W fun e w' => e = .returned (.agg #[.int .i64 0, .int .i64 (B : Nat), .int .i64 0]) ∧ Below W.heap.size W w') := fun h0 W hb => by
    rw [hB]; exact rBestW ao bo cap cap2 own m W (by omega) (HI0.out W hb) (HJ0.out W hb) h0
  have HRP : Hid (codeRest ⟨false, 0, 0, 0, 0⟩ own m = 0 → ∀ W, Below W0.heap.size W0 W → Calls Try.prog 9 #[.agg #[.bool nb, .int .i64 0, .int .i64 0, .int .i64 (B : Nat), .int .i64 0], .slice ao own.length cap, .slice bo m.length cap2] W fun e w' => ∃ ro rc, e = .returned (.tuple #[.slice ro own.length rc, .int .i64 0]) ∧ IntsAt w' ro (restL x own m) ∧ Below W.heap.size W w') := fun h0 W hb => by
    obtain ⟨r1, _, r3, _⟩ := rest_best x own m h0 B hB15 hxe
    have := cRestW x ao bo cap cap2 own m W r3 (by omega) (by omega) hc hc2 (HI0.out W hb) (HJ0.out W hb)
    rw [hxv] at this
    unfold RowR at this
    rw [r1, restL_length] at this
    refine this.mono ?_
    rintro e w' (⟨hne, _⟩ | ⟨_, ro, rc, rfl, g1, _, _, g2⟩)
    · exact absurd rfl hne
    · exact ⟨ro, rc, rfl, g1, g2⟩
  have HSR : Hid (codeRest ⟨false, 0, 0, 0, 0⟩ own m = 0 → ∀ W ro rc, IntsAt W ro (restL x own m) → Calls Try.prog 22 #[.slice ro own.length rc] W fun e w' => e = .returned (.int .i64 (sumG own m B : Nat)) ∧ W = w') := fun h0 W ro rc h => by
    obtain ⟨_, r2, _, r4⟩ := rest_best x own m h0 B hB15 hxe
    obtain ⟨_, _, z3, z4⟩ := codeRest_zero h0
    have := rSum ro rc (restL x own m) W (by rw [restL_length]; omega) (rest_bounds r4 z3 z4) h
    rw [restL_length, show sumN (restL x own m) = sumG own m B from r2] at this
    exact this
  have HSO : Hid (codeRest ⟨false, 0, 0, 0, 0⟩ own m = 0 → ∀ W, IntsAt W ao own → Calls Try.prog 22 #[.slice ao own.length cap] W fun e w' => e = .returned (.int .i64 (sumG own m 0 : Nat)) ∧ W = w') := fun h0 W h => by
    obtain ⟨_, _, z3, _⟩ := codeRest_zero h0
    have := rSum ao cap own W (by omega) (fun y hy => by have := all_S z3 y hy; omega) h
    rw [show sumN own = sumG own m 0 from (sumG_zero own m).symm] at this
    exact this
  have HLE : Hid (sumG own m B ≤ sumG own m 0) := by rw [hB]; exact bestTo_least own m 15 0 (by decide)
  have HBX := Lib.hid hbw
  have HW0 := Lib.hid hW0
  have t1 : decide ((60 : Int) < (own.length : Int)) = false := decide_eq_false (by omega)
  have t1n : decide (60 < own.length) = false := decide_eq_false (by omega)
  have t2 : ((own.length : Int) != (m.length : Int)) = false := by rw [bne_eq_false_iff_eq]; omega
  have t2n : (own.length != m.length) = false := by rw [bne_eq_false_iff_eq]; exact hlm
  have hnq : ∀ W, (binOp .neq 22 (.agg #[.int .i64 0, .int .i64 (B : Nat), .int .i64 0]) (.agg #[.int .i64 0, .int .i64 0, .int .i64 0])).run Try.prog W = .ok (.bool nb) W := fun W => by
    rw [hnb]
    by_cases h : B = 0
    · rw [h]; exact neq_arr W 0 0 0
    · rw [decide_eq_true h]; exact neq_arr_no W B (by rw [beq_eq_false_iff_ne]; omega)
  have HNQ := Lib.hid hnq
  clear hi hj hl hlm hc hc2 hn1 hW0 hbw hlt1 hB hB15 hxe hnb hxv hnq
  generalize codeRest ⟨false, 0, 0, 0, 0⟩ own m = cd at *
  generalize restL x own m = RL at *
  generalize sumG own m B = sa at *
  generalize sumG own m 0 = sb at *
  generalize own.length = n at *
  generalize m.length = k at *
  go_enter Try.func6, Try.ntmps6
  go_wp2_with fail
  rw [← HW0.out]
  refine (HAW _).out.mono ?_
  rintro e w1 ⟨rfl, hb1⟩
  obtain ⟨k0, k1⟩ := KT.out w1 hb1
  have HR1 := Lib.hid hb1
  have HD := Lib.hid (HRD.out w1 hb1)
  clear hb1
  go_wp2_with fail
  refine HD.out.mono ?_
  rintro e w2 ⟨v, rfl, hb2⟩
  have HR2 := Lib.hid (HR1.out.trans (hb2.mono HR1.out.size))
  clear hb2 k0 k1 HD
  by_cases hcd : cd = 0
  rotate_left
  · have u1 : (cd != 0) = true := bne_iff_ne.2 hcd
    clear hcd HRP HBP HBD HSR HSO
    go_wp2
    go_ret
    exact ⟨rfl, HBX.out.trans (HR2.out.mono HBX.out.size)⟩
  · subst hcd
    obtain ⟨k0, k1⟩ := KT.out w2 HR2.out
    have HP := Lib.hid (HBP.out rfl w2 HR2.out)
    have HBD' := Lib.hid (HBD.out rfl)
    have HRP' := Lib.hid (HRP.out rfl)
    have HSR' := Lib.hid (HSR.out rfl)
    have HSO' := Lib.hid (HSO.out rfl)
    clear HBD HRP HSR HSO HBP
    go_wp2_with fail
    refine HP.out.mono ?_
    rintro e w3 ⟨rfl, hb3⟩
    have HR3 := Lib.hid (HR2.out.trans (hb3.mono HR2.out.size))
    obtain ⟨W4, hW4⟩ : ∃ W4, W4 = w3.alloc (.cells #[.int .i64 0, .int .i64 (B : Nat), .int .i64 0] 22) := ⟨_, rfl⟩
    have hb4 : Below w3.heap.size w3 W4 := by rw [hW4]; exact box_below w3 _
    have hB4 : Box3 W4 w3.heap.size 0 (B : Nat) 0 := by rw [hW4]; exact box3_new w3 0 (B : Nat) 0 22
    have HR4 := Lib.hid (HR3.out.trans (hb4.mono HR3.out.size))
    have HB4 := Lib.hid hB4
    have KC : Hid (∀ W, Below W4.heap.size W4 W → W.cell? ⟨w.heap.size, 0, none⟩ = some (.slice ao n cap) ∧ W.cell? ⟨w.heap.size, 1, none⟩ = some (.slice bo k cap2) ∧ W.cell? ⟨w3.heap.size, 0, none⟩ = some (.int .i64 0) ∧ W.cell? ⟨w3.heap.size, 1, none⟩ = some (.int .i64 (B : Nat)) ∧ W.cell? ⟨w3.heap.size, 2, none⟩ = some (.int .i64 0)) := fun W hb => by
      obtain ⟨q0, q1⟩ := KT.out W (HR4.out.trans (hb.mono HR4.out.size))
      have hx := HB4.out.below hb
      exact ⟨q0, q1, hx.c0, hx.c1, hx.c2⟩
    have HW4 := Lib.hid hW4
    have HD4 : Hid (Below W4.heap.size W4 W4.drew) := (keeps_drew_b W4 []).below (Nat.le_refl _) (by simp)
    clear hb3 hb4 hB4 hW4 k0 k1 HP
    go_wp2_with fail
    rw [← HW4.out]
    have ps := KC.out W4 (Below.refl _ _)
    have pd := KC.out W4.drew HD4.out
    have hn1 := fun W => neq_arr W 0 (B : Nat) 0
    have hgu := guard_arr
    go_region_held3 (fun W => W.cell? ⟨w.heap.size, 0, none⟩ = some (.slice ao n cap) ∧ W.cell? ⟨w.heap.size, 1, none⟩ = some (.slice bo k cap2) ∧ W.cell? ⟨w3.heap.size, 0, none⟩ = some (.int .i64 0) ∧ W.cell? ⟨w3.heap.size, 1, none⟩ = some (.int .i64 (B : Nat)) ∧ W.cell? ⟨w3.heap.size, 2, none⟩ = some (.int .i64 0))
      (first | with_reducible exact ps | with_reducible exact pd | with_reducible exact p0 | fail)
      (first
        | (go_at_call 21; refine (HBD'.out _ (HR4.out.trans (HD4.out.mono HR4.out.size))).mono ?_; rintro e w5 ⟨rfl, hb5⟩; have HB5 : Hid (Below W4.heap.size W4 w5) := HD4.out.trans (hb5.mono HD4.out.size); have p0 := KC.out w5 HB5.out; clear hb5)
        | fail)
    have qs := KC.out w5 HB5.out
    have HR5 := Lib.hid (HR4.out.trans (HB5.out.mono HR4.out.size))
    have HD5 : Hid (Below w5.heap.size w5 w5.drew) := (keeps_drew_b w5 []).below (Nat.le_refl _) (by simp)
    have qd := KC.out w5.drew (HB5.out.trans (HD5.out.mono HB5.out.size))
    have hnq := HNQ.out
    clear ps pd p0 hn1
    go_wp2_with fail
    go_region_held3 (fun W => W.cell? ⟨w.heap.size, 0, none⟩ = some (.slice ao n cap) ∧ W.cell? ⟨w.heap.size, 1, none⟩ = some (.slice bo k cap2) ∧ W.cell? ⟨w3.heap.size, 0, none⟩ = some (.int .i64 0) ∧ W.cell? ⟨w3.heap.size, 1, none⟩ = some (.int .i64 (B : Nat)) ∧ W.cell? ⟨w3.heap.size, 2, none⟩ = some (.int .i64 0))
      (first | with_reducible exact qs | with_reducible exact qd | with_reducible exact q0 | fail)
      (first
        | (go_at_call 9; refine (HRP'.out _ (HR5.out.trans (HD5.out.mono HR5.out.size))).mono ?_; rintro e w6 ⟨ro, rc, rfl, hi6, hb6⟩; have HB6 : Hid (Below w5.heap.size w5 w6) := HD5.out.trans (hb6.mono HD5.out.size); have q0 := KC.out w6 (HB5.out.trans (HB6.out.mono HB5.out.size)); have HI6 := Lib.hid hi6; clear hi6 hb6)
        | fail)
    have HR6 := Lib.hid (HR5.out.trans (HB6.out.mono HR5.out.size))
    have HQ1 : Hid (∀ j, Calls Try.prog 22 #[.slice ro n rc] (w6.drewN j) fun e w' => e = .returned (.int .i64 (sa : Nat)) ∧ ∃ i, w' = w6.drewN i) := fun j => quiet_left (HSR'.out (w6.drewN j) ro rc (HI6.out.drewN j))
    have HQ2 : Hid (∀ j, Calls Try.prog 22 #[.slice ao n cap] (w6.drewN j) fun e w' => e = .returned (.int .i64 (sb : Nat)) ∧ ∃ i, w' = w6.drewN i) := fun j => quiet_left (HSO'.out (w6.drewN j) ((HI0.out w6 HR6.out).drewN j))
    have u1 : decide ((sa : Int) ≤ (sb : Int)) = true := decide_eq_true (by have := HLE.out; omega)
    have u1n : decide (sa ≤ sb) = true := decide_eq_true HLE.out
    obtain ⟨r0, r1, _⟩ := q0
    clear qs qd hnq hgu
    go_wp2_with fail
    go_quiet (first
      | (go_at_call 22; with_reducible exact HQ1.out _)
      | (go_at_call 22; with_reducible exact HQ2.out _))
    go_wp2
    go_ret
    exact ⟨rfl, HBX.out.trans ((below_drewN HR6.out _).mono HBX.out.size)⟩

theorem weftBest (ao bo : Option Addr) (cap cap2 : Nat) (own m : List Int) (w : World) (hc : own.length ≤ cap) (hc2 : m.length ≤ cap2) (hi : IntsAt w ao own) (hj : IntsAt w bo m) :
    Calls Try.prog 6 #[.agg #[.slice ao own.length cap, .slice bo m.length cap2]] w fun e w' => e = .returned (.bool true) ∧ Below w.heap.size w w' := by
  by_cases h1 : 60 < own.length
  · exact weftBest_much ao bo own.length m.length cap cap2 w (.inl h1)
  · by_cases h2 : own.length = m.length
    · exact weftBest_few ao bo cap cap2 own m w (by omega) h2 hc hc2 hi hj
    · exact weftBest_much ao bo own.length m.length cap cap2 w (.inr ⟨by omega, h2⟩)
end Go.Proofs.Ytbbcemgcanclnaa
