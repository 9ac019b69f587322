import Derived.Test.YtbbcemgcanclnaaWefL2
namespace Go.Proofs.Ytbbcemgcanclnaa
open Go.RowKit Go.Proofs Go.Proofs.PipeM Go.Proofs.PipeA Go.Proofs.WefM
set_option maxRecDepth 100000

set_option maxHeartbeats 3200000 in
theorem weftBacks_much (x : Wv) (ao bo : Option Addr) (n k cap cap2 : Nat) (most : Int) (w : World) (h : 80 < n ∨ (n ≤ 80 ∧ 80 < k)) :
    Calls Try.prog 4 #[wvV x, .agg #[.slice ao n cap, .slice bo k cap2], .int .i64 most] w fun e w' => e = .returned (.bool true) ∧ Below w.heap.size w w' := by
  have HAW := fun W => Lib.hid (awake11 W)
  unfold wvV
  obtain ⟨W0, hW0⟩ : ∃ W0, W0 = (w.alloc (.cells #[.bool x.some, .int .i64 x.master, .int .i64 x.g0, .int .i64 x.g1, .int .i64 x.g2] 24)).alloc (.cells #[.slice ao n cap, .slice bo k cap2] 36) := ⟨_, rfl⟩
  have hbw : Below w.heap.size w W0 := by rw [hW0]; exact below2 w _ _
  have hn1 : W0.heap[w.heap.size + 1]? = some (.cells #[.slice ao n cap, .slice bo k cap2] 36) := by rw [hW0]; have := heap_alloc_new (w.alloc (.cells #[.bool x.some, .int .i64 x.master, .int .i64 x.g0, .int .i64 x.g1, .int .i64 x.g2] 24)) (.cells #[.slice ao n cap, .slice bo k cap2] 36); rwa [World.size_alloc] at this
  have hlt1 : w.heap.size + 1 < W0.heap.size := (Array.getElem?_eq_some_iff.1 hn1).1
  have KT : Hid (∀ W, Below W0.heap.size W0 W → W.cell? ⟨w.heap.size + 1, 0, none⟩ = some (.slice ao n cap) ∧ W.cell? ⟨w.heap.size + 1, 1, none⟩ = some (.slice bo k cap2)) := fun W h => ⟨(h.cell (p := ⟨w.heap.size + 1, 0, none⟩) hlt1).trans (cell_of_heap hn1 0), (h.cell (p := ⟨w.heap.size + 1, 1, none⟩) hlt1).trans (cell_of_heap hn1 1)⟩
  have HW0 := Lib.hid hW0
  have HB0 := Lib.hid hbw
  clear hW0 hbw hn1 hlt1
  rcases h with h | ⟨h, h2⟩
  · have t1i : decide ((80 : Int) < (n : Int)) = true := decide_eq_true (by omega)
    have t1n : decide (80 < n) = true := decide_eq_true h
    clear h
    go_enter Try.func4, Try.ntmps4
    go_wp2_with fail
    rw [← HW0.out]
    refine (HAW _).out.mono ?_
    rintro e w1 ⟨rfl, hb1⟩
    obtain ⟨k0, k1⟩ := KT.out w1 hb1
    have HB1 := Lib.hid hb1
    clear hb1
    go_wp2_with fail
    refine (HAW _).out.mono ?_
    rintro e w3 ⟨rfl, hb3⟩
    have HB3 := Lib.hid (HB0.out.trans ((HB1.out.trans (hb3.mono HB1.out.size)).mono HB0.out.size))
    clear hb3
    go_wp2
    go_ret
    exact ⟨rfl, HB3.out⟩
  · have t1i : decide ((80 : Int) < (n : Int)) = false := decide_eq_false (by omega)
    have t1n : decide (80 < n) = false := decide_eq_false (by omega)
    have t2i : decide ((80 : Int) < (k : Int)) = true := decide_eq_true (by omega)
    have t2n : decide (80 < k) = true := decide_eq_true h2
    clear h h2
    go_enter Try.func4, Try.ntmps4
    go_wp2_with fail
    rw [← HW0.out]
    refine (HAW _).out.mono ?_
    rintro e w1 ⟨rfl, hb1⟩
    obtain ⟨k0, k1⟩ := KT.out w1 hb1
    have HB1 := Lib.hid hb1
    clear hb1
    go_wp2_with fail
    refine (HAW _).out.mono ?_
    rintro e w3 ⟨rfl, hb3⟩
    have HB3 := Lib.hid (HB0.out.trans ((HB1.out.trans (hb3.mono HB1.out.size)).mono HB0.out.size))
    clear hb3
    go_wp2
    go_ret
    exact ⟨rfl, HB3.out⟩

set_option maxHeartbeats 6400000 in
theorem weftBacks_few (x : Wv) (ao bo : Option Addr) (cap cap2 : Nat) (own m : List Int) (most : Int) (w : World) (hx : WvIn x) (hmo : I64 most) (ho : ∀ y ∈ own, I64 y) (hl : own.length ≤ 80) (hl2 : m.length ≤ 80) (hc : own.length ≤ cap) (hc2 : m.length ≤ cap2) (hi : IntsAt w ao own) (hj : IntsAt w bo m) :
    Calls Try.prog 4 #[wvV x, .agg #[.slice ao own.length cap, .slice bo m.length cap2], .int .i64 most] w fun e w' => e = .returned (.bool true) ∧ Below w.heap.size w w' := by
  have HAW := fun W => Lib.hid (awake11 W)
  obtain ⟨W0, hW0⟩ : ∃ W0, W0 = (w.alloc (.cells #[.bool x.some, .int .i64 x.master, .int .i64 x.g0, .int .i64 x.g1, .int .i64 x.g2] 24)).alloc (.cells #[.slice ao own.length cap, .slice bo m.length cap2] 36) := ⟨_, rfl⟩
  have hbw : Below w.heap.size w W0 := by rw [hW0]; exact below2 w _ _
  have hn0 : W0.heap[w.heap.size]? = some (.cells #[.bool x.some, .int .i64 x.master, .int .i64 x.g0, .int .i64 x.g1, .int .i64 x.g2] 24) := by rw [hW0]; exact (Below.heap_alloc _ _ _ (by simp)).trans (heap_alloc_new w _)
  have hn1 : W0.heap[w.heap.size + 1]? = some (.cells #[.slice ao own.length cap, .slice bo m.length cap2] 36) := by rw [hW0]; have := heap_alloc_new (w.alloc (.cells #[.bool x.some, .int .i64 x.master, .int .i64 x.g0, .int .i64 x.g1, .int .i64 x.g2] 24)) (.cells #[.slice ao own.length cap, .slice bo m.length cap2] 36); rwa [World.size_alloc] at this
  have hlt0 : w.heap.size < W0.heap.size := (Array.getElem?_eq_some_iff.1 hn0).1
  have hlt1 : w.heap.size + 1 < W0.heap.size := (Array.getElem?_eq_some_iff.1 hn1).1
  have KA : Hid (∀ W, Below W0.heap.size W0 W → (W.cell? ⟨w.heap.size, 0, none⟩ = some (.bool x.some) ∧ W.cell? ⟨w.heap.size, 1, none⟩ = some (.int .i64 x.master) ∧ W.cell? ⟨w.heap.size, 2, none⟩ = some (.int .i64 x.g0) ∧ W.cell? ⟨w.heap.size, 3, none⟩ = some (.int .i64 x.g1) ∧ W.cell? ⟨w.heap.size, 4, none⟩ = some (.int .i64 x.g2)) ∧ W.cell? ⟨w.heap.size + 1, 0, none⟩ = some (.slice ao own.length cap) ∧ W.cell? ⟨w.heap.size + 1, 1, none⟩ = some (.slice bo m.length cap2)) := fun W h => ⟨⟨(h.cell (p := ⟨w.heap.size, 0, none⟩) hlt0).trans (cell_of_heap hn0 0), (h.cell (p := ⟨w.heap.size, 1, none⟩) hlt0).trans (cell_of_heap hn0 1), (h.cell (p := ⟨w.heap.size, 2, none⟩) hlt0).trans (cell_of_heap hn0 2), (h.cell (p := ⟨w.heap.size, 3, none⟩) hlt0).trans (cell_of_heap hn0 3), (h.cell (p := ⟨w.heap.size, 4, none⟩) hlt0).trans (cell_of_heap hn0 4)⟩, (h.cell (p := ⟨w.heap.size + 1, 0, none⟩) hlt1).trans (cell_of_heap hn1 0), (h.cell (p := ⟨w.heap.size + 1, 1, none⟩) hlt1).trans (cell_of_heap hn1 1)⟩
  have HI0 : Hid (∀ W, Below W0.heap.size W0 W → IntsAt W ao own) := fun W hb => (hi.below hbw).below hb
  have HJ0 : Hid (∀ W, Below W0.heap.size W0 W → IntsAt W bo m) := fun W hb => (hj.below hbw).below hb
  have HBP : Hid (∀ W, Below W0.heap.size W0 W → Calls Try.prog 12 #[wvV x, .slice ao own.length cap, .slice bo m.length cap2, .int .i64 most] W (RowR (codeBack x own m most) (backL x own m) W)) := fun W hb => cBackW x ao bo cap cap2 own m most W hx hmo ho (by omega) (by omega) hc hc2 (HI0.out W hb) (HJ0.out W hb)
  have HBD : Hid (∀ W, Below W0.heap.size W0 W → Calls Try.prog 13 #[wvV x, .slice ao own.length cap, .slice bo m.length cap2, .int .i64 most] W (RowR (codeBack x own m most) (backL x own m) W)) := fun W hb => rBackW x ao bo cap cap2 own m most W (by omega) (by omega) (HI0.out W hb) (HJ0.out W hb)
  have HR0 : Hid (∀ W, Below W0.heap.size W0 W → Calls Try.prog 9 #[wvV x, .slice none 0 0, .slice bo m.length cap2] W fun e w' => ∃ v c, e = .returned (.tuple #[v, .int .i64 c]) ∧ Below W.heap.size W w') := fun W hb => by
    have := cRestW x none bo 0 cap2 [] m W hx (by simp) (by omega) (by simp) hc2 (ints_nilW _ _) (HJ0.out W hb)
    refine this.mono ?_
    rintro e w' (⟨_, rfl, h⟩ | ⟨_, ro, rc, rfl, _, _, _, h⟩)
    · exact ⟨_, _, rfl, h⟩
    · exact ⟨_, _, rfl, h⟩
  have HR1 : Hid (codeBack x own m most = 0 → ∀ W a c1, Below W0.heap.size W0 W → own.length ≤ c1 → IntsAt W a (backL x own m) → Calls Try.prog 9 #[wvV x, .slice a own.length c1, .slice bo m.length cap2] W fun e w' => ∃ ro rc, e = .returned (.tuple #[.slice ro own.length rc, .int .i64 0]) ∧ IntsAt w' ro own ∧ Below W.heap.size W w') := fun h0 W a c1 hb h1 h2 => by
    have := cRestW x a bo c1 cap2 (backL x own m) m W hx (by rw [backL_length]; omega) (by omega) (by rw [backL_length]; exact h1) hc2 h2 (HJ0.out W hb)
    unfold RowR at this
    rw [rest_ok h0, rest_back, backL_length] at this
    refine this.mono ?_
    rintro e w' (⟨hne, _⟩ | ⟨_, ro, rc, rfl, g1, _, _, g2⟩)
    · exact absurd rfl hne
    · exact ⟨ro, rc, rfl, g1, g2⟩
  have HSO : Hid (∀ W a b c1 c2, IntsAt W a own → IntsAt W b own → Calls Try.prog 11 #[.slice a own.length c1, .slice b own.length c2] W fun e w' => e = .returned (.bool true) ∧ Below W.heap.size W w') := fun W a b c1 c2 h1 h2 => sameW a b c1 c2 own W (by omega) h1 h2
  have HSR : Hid (∀ W a b c1 c2, IntsAt W a (backL x own m) → IntsAt W b (backL x own m) → Calls Try.prog 11 #[.slice a own.length c1, .slice b own.length c2] W fun e w' => e = .returned (.bool true) ∧ Below W.heap.size W w') := fun W a b c1 c2 h1 h2 => by
    have := sameW a b c1 c2 (backL x own m) W (by rw [backL_length]; omega) h1 h2
    rwa [backL_length] at this
  have HSN : Hid (∀ W, Calls Try.prog 11 #[.slice none 0 0, .slice none 0 0] W fun e w' => e = .returned (.bool true) ∧ Below W.heap.size W w') := sameN
  have HBX := Lib.hid hbw
  have HW0 := Lib.hid hW0
  have t1 : decide ((80 : Int) < (own.length : Int)) = false := decide_eq_false (by omega)
  have t1n : decide (80 < own.length) = false := decide_eq_false (by omega)
  have t2 : decide ((80 : Int) < (m.length : Int)) = false := decide_eq_false (by omega)
  have t2n : decide (80 < m.length) = false := decide_eq_false (by omega)
  unfold RowR at HBP HBD
  rw [backL_length] at HBP HBD
  unfold wvV at HBP HBD HR0 HR1 ⊢
  clear hi hj hx hmo ho hl hl2 hc hc2 hn0 hn1 hW0 hbw hlt0 hlt1
  generalize codeBack x own m most = cd at *
  generalize backL x own m = RL at *
  generalize own.length = n at *
  generalize m.length = k at *
  go_enter Try.func4, Try.ntmps4
  go_wp2_with fail
  rw [← HW0.out]
  refine (HAW _).out.mono ?_
  rintro e w1 ⟨rfl, hb1⟩
  obtain ⟨⟨k0, k1, k2, k3, k4⟩, k5, k6⟩ := KA.out w1 hb1
  have HR1' := Lib.hid hb1
  have HP := Lib.hid (HBP.out w1 hb1)
  clear hb1
  go_wp2_with fail
  refine HP.out.mono ?_
  rintro e w4 h4
  clear k0 k1 k2 k3 k4 k5 k6 HBP
  by_cases hcd : cd = 0
  rotate_left
  · obtain ⟨_, rfl, hb4⟩ := h4.resolve_right (fun h => hcd h.1)
    have hr4 := HR1'.out.trans (hb4.mono HR1'.out.size)
    obtain ⟨⟨k0, k1, k2, k3, k4⟩, k5, k6⟩ := KA.out w4 hr4
    have HR4 := Lib.hid hr4
    have HD := Lib.hid (HBD.out w4 hr4)
    have HNZ := Lib.hid hcd
    have u1 : (cd != cd) = false := by simp
    have u2 : (cd != 0) = true := bne_iff_ne.2 hcd
    clear h4 hb4 hr4 hcd HP HR1 HBD
    go_wp2_with fail
    refine HD.out.mono ?_
    rintro e w5 h5
    obtain ⟨_, rfl, hb5⟩ := h5.resolve_right (fun h => HNZ.out h.1)
    have HR5 := Lib.hid (HR4.out.trans (hb5.mono HR4.out.size))
    clear h5 hb5 k0 k1 k2 k3 k4 k5 k6 HD
    go_wp2_with fail
    refine (HSN.out _).mono ?_
    rintro e w6 ⟨rfl, hb6⟩
    have HR6 := Lib.hid (HR5.out.trans (hb6.mono HR5.out.size))
    obtain ⟨⟨k0, k1, k2, k3, k4⟩, k5, k6⟩ := KA.out w6 HR6.out
    have HS6 := Lib.hid (HR0.out w6 HR6.out)
    clear hb6
    go_wp2_with fail
    refine HS6.out.mono ?_
    rintro e w7 ⟨v, c7, rfl, hb7⟩
    have HR7 := Lib.hid (HR6.out.trans (hb7.mono HR6.out.size))
    clear hb7 k0 k1 k2 k3 k4 k5 k6
    go_wp2
    go_ret
    exact ⟨rfl, HBX.out.trans (HR7.out.mono HBX.out.size)⟩
  · subst hcd
    obtain ⟨_, ro, rc, rfl, hi4, hrc, _, hb4⟩ := h4.resolve_left (fun h => h.1 rfl)
    have hr4 := HR1'.out.trans (hb4.mono HR1'.out.size)
    obtain ⟨⟨k0, k1, k2, k3, k4⟩, k5, k6⟩ := KA.out w4 hr4
    have HR4 := Lib.hid hr4
    have HL4 := Lib.hid hi4
    have HRC : Hid (n ≤ rc) := hrc
    have HD := Lib.hid (HBD.out w4 hr4)
    clear h4 hb4 hr4 HP hi4 hrc HBD
    go_wp2_with fail
    refine HD.out.mono ?_
    rintro e w5 h5
    obtain ⟨_, so, sc, rfl, hi5, _, _, hb5⟩ := h5.resolve_left (fun h => h.1 rfl)
    have HR5 := Lib.hid (HR4.out.trans (hb5.mono HR4.out.size))
    have HL5 := Lib.hid (HL4.out.below hb5)
    have HS5 := Lib.hid (HSR.out w5 ro so rc sc HL5.out hi5)
    clear h5 hb5 k0 k1 k2 k3 k4 k5 k6 HD hi5
    go_wp2_with fail
    refine HS5.out.mono ?_
    rintro e w6 ⟨rfl, hb6⟩
    have HR6 := Lib.hid (HR5.out.trans (hb6.mono HR5.out.size))
    obtain ⟨⟨k0, k1, k2, k3, k4⟩, k5, k6⟩ := KA.out w6 HR6.out
    have HS6 := Lib.hid (HR1.out (by trivial) w6 ro rc HR6.out HRC.out (HL5.out.below hb6))
    clear hb6
    go_wp2_with fail
    refine HS6.out.mono ?_
    rintro e w7 ⟨to, tc, rfl, hi7, hb7⟩
    have HR7 := Lib.hid (HR6.out.trans (hb7.mono HR6.out.size))
    have HS7 := Lib.hid (HSO.out w7 to ao tc cap hi7 (HI0.out _ HR7.out))
    clear k0 k1 k2 k3 k4 k5 k6
    obtain ⟨_, k5, k6⟩ := KA.out w7 HR7.out
    clear hb7 hi7
    go_wp2_with fail
    refine HS7.out.mono ?_
    rintro e w8 ⟨rfl, hb8⟩
    have HR8 := Lib.hid (HR7.out.trans (hb8.mono HR7.out.size))
    clear hb8 k5 k6
    go_wp2
    go_ret
    exact ⟨rfl, HBX.out.trans (HR8.out.mono HBX.out.size)⟩

theorem weftBacks (x : Wv) (ao bo : Option Addr) (cap cap2 : Nat) (own m : List Int) (most : Int) (w : World) (hx : WvIn x) (hmo : I64 most) (ho : ∀ y ∈ own, I64 y) (hc : own.length ≤ cap) (hc2 : m.length ≤ cap2) (hi : IntsAt w ao own) (hj : IntsAt w bo m) :
    Calls Try.prog 4 #[wvV x, .agg #[.slice ao own.length cap, .slice bo m.length cap2], .int .i64 most] w fun e w' => e = .returned (.bool true) ∧ Below w.heap.size w w' := by
  by_cases h1 : 80 < own.length
  · exact weftBacks_much x ao bo own.length m.length cap cap2 most w (.inl h1)
  · by_cases h2 : 80 < m.length
    · exact weftBacks_much x ao bo own.length m.length cap cap2 most w (.inr ⟨by omega, h2⟩)
    · exact weftBacks_few x ao bo cap cap2 own m most w hx hmo ho (by omega) (by omega) hc hc2 hi hj
end Go.Proofs.Ytbbcemgcanclnaa
