import Derived.Test.YtbbcemgcanclnaaWefL1
namespace Go.Proofs.Ytbbcemgcanclnaa
open Go.RowKit Go.Proofs Go.Proofs.PipeM Go.Proofs.PipeA Go.Proofs.WefM
set_option maxRecDepth 100000

/-- A copy: append([]int{}, l...). -/
theorem copyW (ao : Option Addr) (cap : Nat) (l : List Int) (W : World) (hl : l.length ≤ 1000) (h : IntsAt W ao l) : ∃ g' cap' w', (Builtin.append_ #[25, 25] 25 #[.slice (some ⟨W.heap.size, 0, none⟩) 0 0, .slice ao l.length cap]).run Try.prog (W.alloc (.cells #[] 3)) = .ok (.slice (some ⟨g', 0, none⟩) l.length cap') w' ∧ IntsAt w' (some ⟨g', 0, none⟩) l ∧ l.length ≤ cap' ∧ Below W.heap.size W w' := by
  obtain ⟨g', cap', w', hrun, ho, _, _, hc, hbb⟩ := run_copyI (ty := 25) (cap := cap) (heap_alloc_new W (.cells #[] 3)) (by omega) (h.below (box_below W (.cells #[] 3)))
  exact ⟨g', cap', w', hrun, ho, hc, (box_below W _).trans hbb⟩
theorem sameW (ao bo : Option Addr) (cap cap2 : Nat) (l : List Int) (W : World) (hl : l.length ≤ 100000) (h1 : IntsAt W ao l) (h2 : IntsAt W bo l) : Calls Try.prog 11 #[.slice ao l.length cap, .slice bo l.length cap2] W fun e w' => e = .returned (.bool true) ∧ Below W.heap.size W w' := by
  have := refSame ao bo cap cap2 l l W (by omega) h1 h2
  rw [decide_eq_true rfl] at this
  refine this.mono ?_
  rintro e w' ⟨rfl, k, rfl⟩
  exact ⟨rfl, (keeps_drewN W k []).below (Nat.le_refl _) (by simp)⟩
theorem sameN (W : World) : Calls Try.prog 11 #[.slice none 0 0, .slice none 0 0] W fun e w' => e = .returned (.bool true) ∧ Below W.heap.size W w' := sameW none none 0 0 [] W (by simp) (ints_nilW _ _) (ints_nilW _ _)

set_option maxHeartbeats 1600000 in
theorem weftRests_much (x : Wv) (ao bo : Option Addr) (n k cap cap2 : Nat) (w : World) (h : 80 < n ∨ (n ≤ 80 ∧ 80 < k)) :
    Calls Try.prog 3 #[wvV x, .slice ao n cap, .slice bo k cap2] w fun e w' => e = .returned (.bool true) ∧ Below w.heap.size w w' := by
  have HB : Hid (∀ o, Below w.heap.size w (w.alloc o)) := fun o => box_below w o
  have HAW := fun W => Lib.hid (awake11 W)
  unfold wvV
  rcases h with h | ⟨h, h2⟩
  · have t1i : decide ((80 : Int) < (n : Int)) = true := decide_eq_true (by omega)
    have t1n : decide (80 < n) = true := decide_eq_true h
    clear h
    go_enter Try.func3, Try.ntmps3
    go_wp2_with fail
    refine (HAW _).out.mono ?_
    rintro e w1 ⟨rfl, hb1⟩
    have HB1 : Hid (Below w.heap.size w w1) := (HB.out _).trans (hb1.mono (by simp))
    clear hb1
    go_wp2_with fail
    refine (HAW _).out.mono ?_
    rintro e w3 ⟨rfl, hb3⟩
    have HB3 : Hid (Below w.heap.size w w3) := HB1.out.trans (hb3.mono HB1.out.size)
    clear hb3
    go_wp2
    go_ret
    exact ⟨rfl, HB3.out⟩
  · have t1i : decide ((80 : Int) < (n : Int)) = false := decide_eq_false (by omega)
    have t1n : decide (80 < n) = false := decide_eq_false (by omega)
    have t2i : decide ((80 : Int) < (k : Int)) = true := decide_eq_true (by omega)
    have t2n : decide (80 < k) = true := decide_eq_true h2
    clear h h2
    go_enter Try.func3, Try.ntmps3
    go_wp2_with fail
    refine (HAW _).out.mono ?_
    rintro e w1 ⟨rfl, hb1⟩
    have HB1 : Hid (Below w.heap.size w w1) := (HB.out _).trans (hb1.mono (by simp))
    clear hb1
    go_wp2_with fail
    refine (HAW _).out.mono ?_
    rintro e w3 ⟨rfl, hb3⟩
    have HB3 : Hid (Below w.heap.size w w3) := HB1.out.trans (hb3.mono HB1.out.size)
    clear hb3
    go_wp2
    go_ret
    exact ⟨rfl, HB3.out⟩

set_option maxHeartbeats 6400000 in
theorem weftRests_few (x : Wv) (ao bo : Option Addr) (cap cap2 : Nat) (own m : List Int) (w : World) (hx : WvIn x) (hl : own.length ≤ 80) (hl2 : m.length ≤ 80) (hi : IntsAt w ao own) (hj : IntsAt w bo m) :
    Calls Try.prog 3 #[wvV x, .slice ao own.length cap, .slice bo m.length cap2] w fun e w' => e = .returned (.bool true) ∧ Below w.heap.size w w' := by
  have HAW := fun W => Lib.hid (awake11 W)
  obtain ⟨W0, hW0⟩ : ∃ W0, W0 = w.alloc (.cells #[.bool x.some, .int .i64 x.master, .int .i64 x.g0, .int .i64 x.g1, .int .i64 x.g2] 24) := ⟨_, rfl⟩
  have hb0 := box_below w (.cells #[.bool x.some, .int .i64 x.master, .int .i64 x.g0, .int .i64 x.g1, .int .i64 x.g2] 24)
  have hn0 := heap_alloc_new w (.cells #[.bool x.some, .int .i64 x.master, .int .i64 x.g0, .int .i64 x.g1, .int .i64 x.g2] 24)
  rw [← hW0] at hb0 hn0
  have hlt0 : w.heap.size < W0.heap.size := (Array.getElem?_eq_some_iff.1 hn0).1
  have KA : Hid (∀ W, Below W0.heap.size W0 W → W.cell? ⟨w.heap.size, 0, none⟩ = some (.bool x.some) ∧ W.cell? ⟨w.heap.size, 1, none⟩ = some (.int .i64 x.master) ∧ W.cell? ⟨w.heap.size, 2, none⟩ = some (.int .i64 x.g0) ∧ W.cell? ⟨w.heap.size, 3, none⟩ = some (.int .i64 x.g1) ∧ W.cell? ⟨w.heap.size, 4, none⟩ = some (.int .i64 x.g2)) := fun W h => ⟨(h.cell (p := ⟨w.heap.size, 0, none⟩) hlt0).trans (cell_of_heap hn0 0), (h.cell (p := ⟨w.heap.size, 1, none⟩) hlt0).trans (cell_of_heap hn0 1), (h.cell (p := ⟨w.heap.size, 2, none⟩) hlt0).trans (cell_of_heap hn0 2), (h.cell (p := ⟨w.heap.size, 3, none⟩) hlt0).trans (cell_of_heap hn0 3), (h.cell (p := ⟨w.heap.size, 4, none⟩) hlt0).trans (cell_of_heap hn0 4)⟩
  have HI0 : Hid (∀ W, Below W0.heap.size W0 W → IntsAt W ao own) := fun W hb => (hi.below hb0).below hb
  have HJ0 : Hid (∀ W, Below W0.heap.size W0 W → IntsAt W bo m) := fun W hb => (hj.below hb0).below hb
  have HC1 : Hid (∀ W, Below W0.heap.size W0 W → ∃ g' cap' w', (Builtin.append_ #[25, 25] 25 #[.slice (some ⟨W.heap.size, 0, none⟩) 0 0, .slice ao own.length cap]).run Try.prog (W.alloc (.cells #[] 3)) = .ok (.slice (some ⟨g', 0, none⟩) own.length cap') w' ∧ IntsAt w' (some ⟨g', 0, none⟩) own ∧ own.length ≤ cap' ∧ Below W.heap.size W w') := fun W hb => copyW ao cap own W (by omega) (HI0.out W hb)
  have HC2 : Hid (∀ W, Below W0.heap.size W0 W → ∃ g' cap' w', (Builtin.append_ #[25, 25] 25 #[.slice (some ⟨W.heap.size, 0, none⟩) 0 0, .slice bo m.length cap2]).run Try.prog (W.alloc (.cells #[] 3)) = .ok (.slice (some ⟨g', 0, none⟩) m.length cap') w' ∧ IntsAt w' (some ⟨g', 0, none⟩) m ∧ m.length ≤ cap' ∧ Below W.heap.size W w') := fun W hb => copyW bo cap2 m W (by omega) (HJ0.out W hb)
  have HRP : Hid (∀ W a b c1 c2, own.length ≤ c1 → m.length ≤ c2 → IntsAt W a own → IntsAt W b m → Calls Try.prog 9 #[wvV x, .slice a own.length c1, .slice b m.length c2] W (RowR (codeRest x own m) (restL x own m) W)) := fun W a b c1 c2 h1 h2 h3 h4 => cRestW x a b c1 c2 own m W hx (by omega) (by omega) h1 h2 h3 h4
  have HRD : Hid (∀ W, Below W0.heap.size W0 W → Calls Try.prog 10 #[wvV x, .slice ao own.length cap, .slice bo m.length cap2] W (RowR (codeRest x own m) (restL x own m) W)) := fun W hb => rRestW x ao bo cap cap2 own m W (by omega) (by omega) (HI0.out W hb) (HJ0.out W hb)
  have HBK : Hid (codeRest x own m = 0 → ∀ W a b c1 c2, own.length ≤ c1 → m.length ≤ c2 → IntsAt W a (restL x own m) → IntsAt W b m → Calls Try.prog 12 #[wvV x, .slice a own.length c1, .slice b m.length c2, .int .i64 8388607] W fun e w' => ∃ ro rc, e = .returned (.tuple #[.slice ro own.length rc, .int .i64 0]) ∧ IntsAt w' ro own ∧ Below W.heap.size W w') := fun h0 W a b c1 c2 h1 h2 h3 h4 => by
    obtain ⟨z1, z2, z3, z4⟩ := codeRest_zero h0
    have hbd := rest_bounds z1 z3 z4
    have := cBackW x a b c1 c2 (restL x own m) m 8388607 W hx (by unfold I64; decide) (fun y hy => by have := hbd y hy; unfold I64; omega) (by rw [restL_length]; omega) (by omega) (by rw [restL_length]; exact h1) h2 h3 h4
    unfold RowR at this
    rw [back_ok h0, back_rest, restL_length] at this
    refine this.mono ?_
    rintro e w' (⟨hne, _⟩ | ⟨_, ro, rc, rfl, g1, _, _, g2⟩)
    · exact absurd rfl hne
    · exact ⟨ro, rc, rfl, g1, g2⟩
  have HSO : Hid (∀ W a b c1 c2, IntsAt W a own → IntsAt W b own → Calls Try.prog 11 #[.slice a own.length c1, .slice b own.length c2] W fun e w' => e = .returned (.bool true) ∧ Below W.heap.size W w') := fun W a b c1 c2 h1 h2 => sameW a b c1 c2 own W (by omega) h1 h2
  have HSM : Hid (∀ W a b c1 c2, IntsAt W a m → IntsAt W b m → Calls Try.prog 11 #[.slice a m.length c1, .slice b m.length c2] W fun e w' => e = .returned (.bool true) ∧ Below W.heap.size W w') := fun W a b c1 c2 h1 h2 => sameW a b c1 c2 m W (by omega) h1 h2
  have HSR : Hid (∀ W a b c1 c2, IntsAt W a (restL x own m) → IntsAt W b (restL x own m) → Calls Try.prog 11 #[.slice a own.length c1, .slice b own.length c2] W fun e w' => e = .returned (.bool true) ∧ Below W.heap.size W w') := fun W a b c1 c2 h1 h2 => by
    have := sameW a b c1 c2 (restL x own m) W (by rw [restL_length]; omega) h1 h2
    rwa [restL_length] at this
  have HSN : Hid (∀ W, Calls Try.prog 11 #[.slice none 0 0, .slice none 0 0] W fun e w' => e = .returned (.bool true) ∧ Below W.heap.size W w') := sameN
  have HBX := Lib.hid hb0
  have HW0 := Lib.hid hW0
  have t1 : decide ((80 : Int) < (own.length : Int)) = false := decide_eq_false (by omega)
  have t1n : decide (80 < own.length) = false := decide_eq_false (by omega)
  have t2 : decide ((80 : Int) < (m.length : Int)) = false := decide_eq_false (by omega)
  have t2n : decide (80 < m.length) = false := decide_eq_false (by omega)
  unfold RowR at HRP HRD
  rw [restL_length] at HRP HRD
  unfold wvV at HRP HRD HBK ⊢
  clear hi hj hx hl hl2 hn0 hW0 hb0 hlt0
  generalize codeRest x own m = cd at *
  generalize restL x own m = RL at *
  generalize own.length = n at *
  generalize m.length = k at *
  go_enter Try.func3, Try.ntmps3
  go_wp2_with fail
  rw [← HW0.out]
  refine (HAW _).out.mono ?_
  rintro e w1 ⟨rfl, hb1⟩
  obtain ⟨g1, cp1, w2, hrun1, ho2, hcp1, hb2⟩ := HC1.out w1 hb1
  have hr2 := hb1.trans (hb2.mono hb1.size)
  obtain ⟨g2, cp2, w3, hrun2, ho3, hcp2, hb3⟩ := HC2.out w2 hr2
  have hr3 := hr2.trans (hb3.mono hr2.size)
  have HR3 := Lib.hid hr3
  have HA3 := Lib.hid (ho2.below hb3)
  have HM3 := Lib.hid ho3
  have HP2 : Hid (k ≤ cp2) := hcp2
  obtain ⟨k0, k1, k2, k3, k4⟩ := KA.out w3 hr3
  have HP := Lib.hid (HRP.out w3 (some ⟨g1, 0, none⟩) (some ⟨g2, 0, none⟩) cp1 cp2 hcp1 hcp2 HA3.out ho3)
  clear hb1 hb2 hb3 hr2 hr3 ho2 ho3 hcp1 hcp2 HC1 HC2 HRP
  have HU1 := Lib.hid hrun1
  have HU2 := Lib.hid hrun2
  clear hrun1 hrun2
  go_wp2_with (at_builtin; first | (refine wpList_append_run rfl _ _ 25 rfl _ _ _ _ rfl rfl HU1.out ?_; clear HU1) | refine wpList_append_run rfl _ _ 25 rfl _ _ _ _ rfl rfl HU2.out ?_)
  refine HP.out.mono ?_
  rintro e w4 h4
  clear k0 k1 k2 k3 k4
  by_cases hcd : cd = 0
  rotate_left
  · obtain ⟨_, rfl, hb4⟩ := h4.resolve_right (fun h => hcd h.1)
    have hr4 := HR3.out.trans (hb4.mono HR3.out.size)
    obtain ⟨k0, k1, k2, k3, k4⟩ := KA.out w4 hr4
    have HR4 := Lib.hid hr4
    have HA4 := Lib.hid (HA3.out.below hb4)
    have HM4 := Lib.hid (HM3.out.below hb4)
    have HD := Lib.hid (HRD.out w4 hr4)
    have HNZ := Lib.hid hcd
    have u1 : (cd != cd) = false := by simp
    have u2 : (cd != 0) = true := bne_iff_ne.2 hcd
    clear h4 hb4 hr4 hcd HP HBK
    go_wp2_with fail
    refine HD.out.mono ?_
    rintro e w5 h5
    obtain ⟨_, rfl, hb5⟩ := h5.resolve_right (fun h => HNZ.out h.1)
    have HR5 := Lib.hid (HR4.out.trans (hb5.mono HR4.out.size))
    have HA5 := Lib.hid (HA4.out.below hb5)
    have HM5 := Lib.hid (HM4.out.below hb5)
    clear h5 hb5 k0 k1 k2 k3 k4 HD
    go_wp2_with fail
    refine (HSN.out _).mono ?_
    rintro e w6 ⟨rfl, hb6⟩
    have HR6 := Lib.hid (HR5.out.trans (hb6.mono HR5.out.size))
    have HS6 := Lib.hid (HSO.out w6 (some ⟨g1, 0, none⟩) ao cp1 cap (HA5.out.below hb6) (HI0.out _ HR6.out))
    have HM6 := Lib.hid (HM5.out.below hb6)
    clear hb6
    go_wp2_with fail
    refine HS6.out.mono ?_
    rintro e w7 ⟨rfl, hb7⟩
    have HR7 := Lib.hid (HR6.out.trans (hb7.mono HR6.out.size))
    have HS7 := Lib.hid (HSM.out w7 (some ⟨g2, 0, none⟩) bo cp2 cap2 (HM6.out.below hb7) (HJ0.out _ HR7.out))
    clear hb7
    go_wp2_with fail
    refine HS7.out.mono ?_
    rintro e w8 ⟨rfl, hb8⟩
    have HR8 := Lib.hid (HR7.out.trans (hb8.mono HR7.out.size))
    clear hb8
    go_wp2
    go_ret
    exact ⟨rfl, HBX.out.trans (HR8.out.mono HBX.out.size)⟩
  · subst hcd
    obtain ⟨_, ro, rc, rfl, hi4, hrc, _, hb4⟩ := h4.resolve_left (fun h => h.1 rfl)
    have hr4 := HR3.out.trans (hb4.mono HR3.out.size)
    obtain ⟨k0, k1, k2, k3, k4⟩ := KA.out w4 hr4
    have HR4 := Lib.hid hr4
    have HA4 := Lib.hid (HA3.out.below hb4)
    have HM4 := Lib.hid (HM3.out.below hb4)
    have HL4 := Lib.hid hi4
    have HRC : Hid (n ≤ rc) := hrc
    have HD := Lib.hid (HRD.out w4 hr4)
    clear h4 hb4 hr4 HP hi4 hrc
    go_wp2_with fail
    refine HD.out.mono ?_
    rintro e w5 h5
    obtain ⟨_, so, sc, rfl, hi5, _, _, hb5⟩ := h5.resolve_left (fun h => h.1 rfl)
    have HR5 := Lib.hid (HR4.out.trans (hb5.mono HR4.out.size))
    have HA5 := Lib.hid (HA4.out.below hb5)
    have HM5 := Lib.hid (HM4.out.below hb5)
    have HL5 := Lib.hid (HL4.out.below hb5)
    have HS5 := Lib.hid (HSR.out w5 ro so rc sc HL5.out hi5)
    clear h5 hb5 k0 k1 k2 k3 k4 HD hi5
    go_wp2_with fail
    refine HS5.out.mono ?_
    rintro e w6 ⟨rfl, hb6⟩
    have HR6 := Lib.hid (HR5.out.trans (hb6.mono HR5.out.size))
    have HS6 := Lib.hid (HSO.out w6 (some ⟨g1, 0, none⟩) ao cp1 cap (HA5.out.below hb6) (HI0.out _ HR6.out))
    have HM6 := Lib.hid (HM5.out.below hb6)
    have HL6 := Lib.hid (HL5.out.below hb6)
    clear hb6
    go_wp2_with fail
    refine HS6.out.mono ?_
    rintro e w7 ⟨rfl, hb7⟩
    have HR7 := Lib.hid (HR6.out.trans (hb7.mono HR6.out.size))
    have HM7 := Lib.hid (HM6.out.below hb7)
    have HL7 := Lib.hid (HL6.out.below hb7)
    have HS7 := Lib.hid (HSM.out w7 (some ⟨g2, 0, none⟩) bo cp2 cap2 HM7.out (HJ0.out _ HR7.out))
    clear hb7
    go_wp2_with fail
    refine HS7.out.mono ?_
    rintro e w8 ⟨rfl, hb8⟩
    have HR8 := Lib.hid (HR7.out.trans (hb8.mono HR7.out.size))
    obtain ⟨k0, k1, k2, k3, k4⟩ := KA.out w8 HR8.out
    have HB8 := Lib.hid (HBK.out (by trivial) w8 ro (some ⟨g2, 0, none⟩) rc cp2 HRC.out HP2.out (HL7.out.below hb8) (HM7.out.below hb8))
    clear hb8
    go_wp2_with fail
    refine HB8.out.mono ?_
    rintro e w9 ⟨to, tc, rfl, hi9, hb9⟩
    have HR9 := Lib.hid (HR8.out.trans (hb9.mono HR8.out.size))
    have HS9 := Lib.hid (HSO.out w9 to ao tc cap hi9 (HI0.out _ HR9.out))
    clear hi9 hb9 k0 k1 k2 k3 k4
    go_wp2_with fail
    refine HS9.out.mono ?_
    rintro e w10 ⟨rfl, hb10⟩
    have HR10 := Lib.hid (HR9.out.trans (hb10.mono HR9.out.size))
    clear hb10
    go_wp2
    go_ret
    exact ⟨rfl, HBX.out.trans (HR10.out.mono HBX.out.size)⟩

theorem weftRests (x : Wv) (ao bo : Option Addr) (cap cap2 : Nat) (own m : List Int) (w : World) (hx : WvIn x) (hi : IntsAt w ao own) (hj : IntsAt w bo m) :
    Calls Try.prog 3 #[wvV x, .slice ao own.length cap, .slice bo m.length cap2] w fun e w' => e = .returned (.bool true) ∧ Below w.heap.size w w' := by
  by_cases h1 : 80 < own.length
  · exact weftRests_much x ao bo own.length m.length cap cap2 w (.inl h1)
  · by_cases h2 : 80 < m.length
    · exact weftRests_much x ao bo own.length m.length cap cap2 w (.inr ⟨by omega, h2⟩)
    · exact weftRests_few x ao bo cap cap2 own m w hx (by omega) (by omega) hi hj
end Go.Proofs.Ytbbcemgcanclnaa
