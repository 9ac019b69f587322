import Derived.Test.YtcgkalfclammfabLagF3
namespace Go.Proofs.Ytcgkalfclammfab
open Go.RowKit Go.Proofs Go.Proofs.PipeA Go.Proofs.LagM
set_option maxRecDepth 100000

theorem ints_block {W : World} {b : Nat} {l : List Int} {t : TypeId} (h : W.heap[b]? = some (.cells (intsOf l).toArray t)) : IntsAt W (some ⟨b, 0, none⟩) l := by
  intro j hj
  refine ⟨b, 0, rfl, (Array.getElem?_eq_some_iff.1 h).1, ?_⟩
  rw [cell_of_heap h, Nat.zero_add]
  simp [intsOf, hj]
theorem IntsAt.nil' (W : World) (ao : Option Addr) : IntsAt W ao [] := fun j hj => by simp at hj
/-- Equal lists. -/
theorem same_yes (ao bo : Option Addr) (cap cap2 : Nat) (l : List Int) (w : World) (hl : l.length ≤ 1000000000) (hi : IntsAt w ao l) (hj : IntsAt w bo l) :
    Calls Try.prog 13 #[.slice ao l.length cap, .slice bo l.length cap2] w fun e w' => e = .returned (.bool true) ∧ ∃ k, w' = w.drewN k := by
  have := refSame ao bo cap cap2 l l w hl hi hj
  rwa [decide_eq_true rfl] at this

set_option maxHeartbeats 1600000 in
theorem awake8 (w : World) : Calls Try.prog 8 #[] w fun e w' => e = .returned (.bool true) ∧ Below w.heap.size w w' := by
  obtain ⟨wa, hwa⟩ : ∃ wa, wa = w.alloc (.cells #[.int .i64 10, .int .i64 4, .int .i64 10, .int .i64 4] 3) := ⟨_, rfl⟩
  have hb : Below w.heap.size w wa := by rw [hwa]; exact box_below w _
  have h1 : wa.heap[w.heap.size]? = some (.cells #[.int .i64 10, .int .i64 4, .int .i64 10, .int .i64 4] 3) := by rw [hwa]; exact World.alloc_heap_new w _
  have HR := Lib.hid (cOff 2 8 (some ⟨w.heap.size, 0, none⟩) 4 [10, 4, 10, 4] wa (by simp) (ints_block (l := [10, 4, 10, 4]) h1))
  rw [show codeT 2 8 [10, 4, 10, 4] = 0 by decide, show offL (2 : Int).toNat 8 [10, 4, 10, 4] = [10, 4, 5, 2] by decide] at HR
  have HB := Lib.hid hb
  unfold termV at HR
  simp only [List.length_cons, List.length_nil, Nat.zero_add, Nat.reduceAdd] at HR
  clear hb h1
  go_enter Try.func8, Try.ntmps8
  go_wp2_with fail
  rw [← hwa]
  refine HR.out.mono ?_
  rintro e w1 h
  rcases h with ⟨h, _⟩ | ⟨_, ao, cap, rfl, hi, hcp, hb1⟩
  · exact absurd rfl h
  · have HB1 := Lib.hid (HB.out.trans (hb1.mono HB.out.size))
    have hb2 := box_below w1 (.cells #[.int .i64 10, .int .i64 4, .int .i64 5, .int .i64 2] 3)
    have h3 := World.alloc_heap_new w1 (.cells #[.int .i64 10, .int .i64 4, .int .i64 5, .int .i64 2] 3)
    have HS := Lib.hid (same_yes ao (some ⟨w1.heap.size, 0, none⟩) cap 4 [10, 4, 5, 2] (w1.alloc (.cells #[.int .i64 10, .int .i64 4, .int .i64 5, .int .i64 2] 3)) (by simp) (hi.below hb2) (ints_block (l := [10, 4, 5, 2]) h3))
    have HB2 := Lib.hid (HB1.out.trans (hb2.mono HB1.out.size))
    simp only [List.length_cons, List.length_nil, Nat.zero_add, Nat.reduceAdd] at HS
    clear hi hcp hb1 hb2 h3 hwa HR
    go_wp2_with fail
    refine HS.out.mono ?_
    rintro e w2 ⟨rfl, k, hw2⟩
    have HB3 : Hid (Below w.heap.size w w2) := by show Below _ _ _; rw [hw2]; exact below_drewN HB2.out k
    clear hw2
    go_wp2
    go_ret
    exact ⟨rfl, HB3.out⟩

set_option maxHeartbeats 3200000 in
theorem lagOff (a g : Int) (ao : Option Addr) (cap : Nat) (l : List Int) (w : World) (hll : l.length ≤ 9223372036854775807) (hi : IntsAt w ao l) :
    Calls Try.prog 3 #[termV a g, .slice ao l.length cap] w fun e w' => e = .returned (.bool true) ∧ Below w.heap.size w w' := by
  obtain ⟨wa, hwa⟩ : ∃ wa, wa = w.alloc (.cells #[.int .i64 a, .int .i64 g] 23) := ⟨_, rfl⟩
  have hT : TermAt w a g wa := by rw [hwa]; exact TermAt.new w a g
  have HT := Lib.hid hT
  have HA := fun W => Lib.hid (awake8 W)
  have HI := Lib.hid (hi.below hT.below)
  unfold termV
  clear hi hT
  by_cases hlen : l.length ≤ 100
  · have HG1 := fun W => Lib.hid (cGood a g W)
    have HG2 := fun W => Lib.hid (rGood a g W)
    unfold termV at HG1
    go_enter Try.func3, Try.ntmps3
    go_wp2_with fail
    rw [← hwa]
    refine (HA _).out.mono ?_
    rintro e w1 ⟨rfl, hb1⟩
    have hT1 := HT.out.mono hb1
    have hi1 := HI.out.below hb1
    obtain ⟨H, hcap, w2, hrun, ho2, hH1, hH2, hHc, hb2⟩ := run_copyI (ty := 24) (cap := cap) (World.alloc_heap_new w1 (.cells #[] 3)) (by omega) (hi1.below (box_below w1 (.cells #[] 3)))
    have hb12 : Below w1.heap.size w1 w2 := (box_below w1 _).trans hb2
    have hT2 := hT1.mono hb12
    have HT2 := Lib.hid hT2
    have HI2 := Lib.hid (hi1.below hb12)
    have HO2 := Lib.hid ho2
    have HR := Lib.hid (cOff a g (some ⟨H, 0, none⟩) hcap l w2 (by omega) ho2)
    unfold termV at HR
    obtain ⟨k0, k1⟩ := hT2.cells
    clear hT1 hi1 hH1 hH2 hHc hb2 hb12 hT2 ho2 hb1 HI HT hwa
    go_wp2_with (at_builtin; refine wpList_append_run rfl _ _ 24 rfl _ _ _ _ rfl rfl hrun ?_)
    refine HR.out.mono ?_
    rintro e w3 h
    clear hrun HR k0 k1
    rcases h with ⟨hc, rfl, hb3⟩ | ⟨hc, ao3, cap3, rfl, hi3, hcp3, hb3⟩
    · have hT3 := HT2.out.mono hb3
      have HT3 := Lib.hid hT3
      have HO3 := Lib.hid (HO2.out.below hb3)
      have HI3 := Lib.hid (HI2.out.below hb3)
      have HW := Lib.hid (rWrong a g ao cap l w3 (by omega) HI3.out)
      have hne : (codeT a g l != 0) = true := by rw [bne_iff_ne]; exact hc
      obtain ⟨k0, k1⟩ := hT3.cells
      clear hT3 hb3 hc
      generalize codeT a g l = cd at *
      go_wp2_with fail
      refine HW.out.mono ?_
      rintro e w4 ⟨rfl, rfl⟩
      have HTD := Lib.hid (HT3.out.drewN 1)
      have HOD : Hid (IntsAt w3.drew (some ⟨H, 0, none⟩) l) := HO3.out
      have HID : Hid (IntsAt w3.drew ao l) := HI3.out
      generalize goodT a g = gd at *
      go_wp2_with fail
      go_region_held3 (fun W' => W'.cell? ⟨w.heap.size, 0, none⟩ = some (.int .i64 a) ∧ W'.cell? ⟨w.heap.size, 1, none⟩ = some (.int .i64 g))
        (first | exact ⟨k0, k1⟩ | exact ⟨k06, k16⟩ | fail)
        (first
          | (go_at_call 11; refine (HG1 _).out.mono ?_; rintro e w6 ⟨rfl, hb6⟩; have HT6 := Lib.hid (HTD.out.mono hb6); have k06 := HT6.out.cells.1; have k16 := HT6.out.cells.2; have HS6 := fun k => Lib.hid (same_yes (some ⟨H, 0, none⟩) ao hcap cap l (World.drewN w6 k) (by omega) ((HOD.out.below hb6).drewN k) ((HID.out.below hb6).drewN k)); have HI6 := Lib.hid (HID.out.below hb6); have HB6 := Lib.hid hb6; clear hb6)
          | (go_at_call 12; refine (HG2 _).out.mono ?_; rintro e w7 ⟨rfl, rfl⟩)
          | (go_at_call 13; refine (HS6 0).out.mono ?_; rintro e w8 ⟨rfl, k8, rfl⟩)
          | fail)
      have HT8 := Lib.hid (HT6.out.drewN k8)
      clear k0 k1 k06 k16
      go_wp2
      go_ret
      exact ⟨rfl, HT8.out.below⟩
    · have hT3 := HT2.out.mono hb3
      have HT3 := Lib.hid hT3
      have HO3 := Lib.hid (HO2.out.below hb3)
      have HI3 := Lib.hid (HI2.out.below hb3)
      have HU3 := Lib.hid hi3
      have HC0 := Lib.hid hc
      have HW := Lib.hid (rWrong a g ao cap l w3 (by omega) HI3.out)
      rw [hc] at HW
      obtain ⟨hg, hall⟩ := codeT_zero hc
      obtain ⟨n, hn, hn255, hg0, hg1, hz, _⟩ := goodT_of hg
      subst hn
      rw [Int.toNat_natCast] at *
      have HZ := Lib.hid hz
      have HAL := Lib.hid hall
      have HCP := Lib.hid hcp3
      have hol := offL_length n g l
      rw [hol]
      obtain ⟨k0, k1⟩ := hT3.cells
      clear hT3 hb3 hc hi3 hcp3 hg hz hall
      go_wp2_with fail
      refine HW.out.mono ?_
      rintro e w4 ⟨rfl, rfl⟩
      have HTD := Lib.hid (HT3.out.drewN 1)
      have HUD : Hid (IntsAt w3.drew ao3 (offL n g l)) := HU3.out
      have HOD : Hid (IntsAt w3.drew (some ⟨H, 0, none⟩) l) := HO3.out
      have HID : Hid (IntsAt w3.drew ao l) := HI3.out
      generalize goodT (n : Int) g = gd at *
      go_wp2_with fail
      go_region_held3 (fun W' => W'.cell? ⟨w.heap.size, 0, none⟩ = some (.int .i64 (n : Int)) ∧ W'.cell? ⟨w.heap.size, 1, none⟩ = some (.int .i64 g))
        (first | exact ⟨k0, k1⟩ | exact ⟨k06, k16⟩ | fail)
        (first
          | (go_at_call 11; refine (HG1 _).out.mono ?_; rintro e w6 ⟨rfl, hb6⟩; have HT6 := Lib.hid (HTD.out.mono hb6); have k06 := HT6.out.cells.1; have k16 := HT6.out.cells.2; have HS6 := fun k => Lib.hid (same_yes (some ⟨H, 0, none⟩) ao hcap cap l (World.drewN w6 k) (by omega) ((HOD.out.below hb6).drewN k) ((HID.out.below hb6).drewN k)); have HI6 := Lib.hid (HID.out.below hb6); have HU6 := Lib.hid (HUD.out.below hb6); have HB6 := Lib.hid hb6; clear hb6)
          | (go_at_call 12; refine (HG2 _).out.mono ?_; rintro e w7 ⟨rfl, rfl⟩)
          | (go_at_call 13; refine (HS6 0).out.mono ?_; rintro e w8 ⟨rfl, k8, rfl⟩)
          | fail)
      have HT8 := Lib.hid (HT6.out.drewN k8)
      have HI8 := Lib.hid (HI6.out.drewN k8)
      have HU8 := Lib.hid (HU6.out.drewN k8)
      generalize w6.drewN k8 = w8 at *
      have HRO := Lib.hid (rOff n g ao cap l w8 hn255 ⟨hg0, hg1⟩ HZ.out (by omega) HAL.out HI8.out)
      clear HT6 HI6 HU6 HS6 HOD HID HUD HTD HW HG1 HG2 HB6 HT3 HO3 HI3 HU3 HT2 HO2 HI2 k06 k16
      obtain ⟨k0, k1⟩ := HT8.out.cells
      go_wp2_with fail
      refine HRO.out.mono ?_
      rintro e w9 ⟨ao9, cap9, rfl, hi9, hcp9, hb9⟩
      have HT9 := Lib.hid (HT8.out.mono hb9)
      have HI9 := Lib.hid (HI8.out.below hb9)
      have HU9 := Lib.hid (HU8.out.below hb9)
      have HS9 := Lib.hid (same_yes ao3 ao9 cap3 cap9 (offL n g l) w9 (by omega) HU9.out hi9)
      rw [hol] at HS9
      rw [hol]
      clear hi9 hcp9 hb9 k0 k1
      go_wp2_with fail
      refine HS9.out.mono ?_
      rintro e w10 ⟨rfl, k10, rfl⟩
      have HT10 := Lib.hid (HT9.out.drewN k10)
      have HI10 := Lib.hid (HI9.out.drewN k10)
      have HU10 := Lib.hid (HU9.out.drewN k10)
      generalize w9.drewN k10 = w10 at *
      have HON := Lib.hid (cOn n g ao3 cap3 (offL n g l) w10 (by omega) HU10.out)
      rw [Int.toNat_natCast, hol, on_off HZ.out] at HON
      unfold termV at HON
      obtain ⟨k0, k1⟩ := HT10.out.cells
      clear HS9
      go_wp2_with fail
      refine HON.out.mono ?_
      rintro e w11 h
      have HT11 := fun hb => Lib.hid (HT10.out.mono (C := w11) hb)
      rcases h with ⟨hc2, rfl, hb11⟩ | ⟨hc2, ao11, cap11, rfl, hi11, hcp11, hb11⟩
      · have hcs : codeT (n : Int) g (offL n g l) = 9 ∧ codeO (n : Int) g (offL n g l) = 9 := by
          have h1 : codeT (n : Int) g (offL n g l) ≠ 0 := fun h => hc2 (codeO_off HC0.out h)
          have h2 : codeT (n : Int) g (offL n g l) = 9 := by
            cases ha : (offL n g l).all inB with
            | true => exact absurd (codeT_of (codeT_zero HC0.out).1 ha) h1
            | false => exact codeT_all (codeT_zero HC0.out).1 ha
          exact ⟨h2, by rw [codeO_not h1, h2]⟩
        have HT12 := Lib.hid (HT11 hb11).out
        have HW2 := Lib.hid (rWrong n g ao3 cap3 (offL n g l) w11 (by omega) (HU10.out.below hb11))
        rw [hcs.1, hol] at HW2
        rw [hcs.2]
        obtain ⟨k0, k1⟩ := HT12.out.cells
        clear hcs hc2 hb11 HT11
        go_wp2_with fail
        refine HW2.out.mono ?_
        rintro e w12 ⟨rfl, rfl⟩
        clear k0 k1
        go_wp2
        go_ret
        exact ⟨rfl, HT12.out.below⟩
      · have hcs : codeT (n : Int) g (offL n g l) = 0 := by
          by_cases h : codeT (n : Int) g (offL n g l) = 0
          · exact h
          · rw [codeO_not h] at hc2; exact absurd hc2 h
        have HT12 := Lib.hid (HT11 hb11).out
        have HW2 := Lib.hid (rWrong n g ao3 cap3 (offL n g l) w11 (by omega) (HU10.out.below hb11))
        rw [hcs, hol] at HW2
        have HS12 := Lib.hid (same_yes ao11 ao cap11 cap l w11 (by omega) hi11 (HI10.out.below hb11))
        obtain ⟨k0, k1⟩ := HT12.out.cells
        clear hcs hc2 hb11 HT11 hi11 hcp11
        go_wp2_with fail
        refine HW2.out.mono ?_
        rintro e w12 ⟨rfl, rfl⟩
        clear k0 k1
        go_wp2_with fail
        refine HS12.out.mono ?_
        rintro e w13 ⟨rfl, k13, rfl⟩
        have HT13 := Lib.hid (HT12.out.drewN k13)
        go_wp2
        go_ret
        exact ⟨rfl, HT13.out.below⟩
  · have t1 : decide (100 < (l.length : Int)) = true := decide_eq_true (by omega)
    go_enter Try.func3, Try.ntmps3
    go_wp2_with fail
    rw [← hwa]
    refine (HA _).out.mono ?_
    rintro e w1 ⟨rfl, hb1⟩
    have HT1 := Lib.hid (HT.out.mono hb1)
    clear hb1
    go_wp2_with fail
    refine (HA _).out.mono ?_
    rintro e w2 ⟨rfl, hb2⟩
    have HT2 := Lib.hid (HT1.out.mono hb2)
    clear hb2
    go_wp2
    go_ret
    exact ⟨rfl, HT2.out.below⟩
end Go.Proofs.Ytcgkalfclammfab
