import Derived.Test.YtcgkalfclammfaaFilF2
namespace Go.Proofs.Ytcgkalfclammfaa
open Go.RowKit Go.Proofs Go.Proofs.PipeA Go.Proofs.LatM Go.Proofs.FilM
set_option maxRecDepth 100000

theorem ints_block {W : World} {b : Nat} {l : List Int} {t : TypeId} (h : W.heap[b]? = some (.cells (intsOf l).toArray t)) : IntsAt W (some ⟨b, 0, none⟩) l := by
  intro j hj
  refine ⟨b, 0, rfl, (Array.getElem?_eq_some_iff.1 h).1, ?_⟩
  rw [cell_of_heap h, Nat.zero_add]
  simp [intsOf, hj]
theorem IntsAt.nil' (W : World) (ao : Option Addr) : IntsAt W ao [] := fun j hj => by simp at hj

set_option maxHeartbeats 1600000 in
theorem awake7 (w : World) : Calls Try.prog 9 #[] w fun e w' => e = .returned (.bool true) ∧ Below w.heap.size w w' := by
  obtain ⟨wa, hwa⟩ : ∃ wa, wa = (w.alloc (.cells #[.int .i64 (-64)] 3)).alloc (.cells #[.int .i64 5, .int .i64 7, .int .i64 7] 3) := ⟨_, rfl⟩
  have hb : Below w.heap.size w wa := by rw [hwa]; exact below2 w _ _
  have h1 : wa.heap[w.heap.size]? = some (.cells #[.int .i64 (-64)] 3) := by rw [hwa]; exact (Below.heap_alloc _ _ _ (by simp)).trans (World.alloc_heap_new w _)
  have h2 : wa.heap[w.heap.size + 1]? = some (.cells #[.int .i64 5, .int .i64 7, .int .i64 7] 3) := by rw [hwa]; have := World.alloc_heap_new (w.alloc (.cells #[.int .i64 (-64)] 3)) (.cells #[.int .i64 5, .int .i64 7, .int .i64 7] 3); rwa [World.size_alloc] at this
  have HR := Lib.hid (cResiduals (some ⟨w.heap.size, 0, none⟩) (some ⟨w.heap.size + 1, 0, none⟩) 1 3 [-64] [5, 7, 7] wa (by simp) (by simp) (by simp) (ints_block (l := [-64]) h1) (ints_block (l := [5, 7, 7]) h2))
  have HB := Lib.hid hb
  simp only [List.length_cons, List.length_nil, Nat.zero_add, Nat.reduceAdd] at HR
  clear hb h1 h2
  go_enter Try.func9, Try.ntmps9
  go_wp2_with fail
  rw [← hwa]
  refine HR.out.mono ?_
  rintro e w1 h
  have hc : codeR [-64] [5, 7, 7] = 0 := by decide
  rcases h with ⟨h, _⟩ | ⟨_, H, rfl, hi, hH, hHlt, hb1⟩
  · exact absurd hc h
  · have HB1 := Lib.hid (HB.out.trans (hb1.mono HB.out.size))
    have hb2 := box_below w1 (.cells #[.int .i64 5, .int .i64 2, .int .i64 0] 3)
    have h3 := World.alloc_heap_new w1 (.cells #[.int .i64 5, .int .i64 2, .int .i64 0] 3)
    have hS := refSame (some ⟨H, 0, none⟩) (some ⟨w1.heap.size, 0, none⟩) 3 3 (res [-64] [5, 7, 7]) [5, 2, 0] (w1.alloc (.cells #[.int .i64 5, .int .i64 2, .int .i64 0] 3)) (by rw [res_length]; simp) (hi.below hb2) (ints_block (l := [5, 2, 0]) h3)
    rw [res_length, show res [-64] [5, 7, 7] = [5, 2, 0] by decide, decide_eq_true rfl] at hS
    have HS := Lib.hid hS
    have HB2 := Lib.hid (HB1.out.trans (hb2.mono HB1.out.size))
    simp only [List.length_cons, List.length_nil, Nat.zero_add, Nat.reduceAdd] at HS
    clear hc hi hH hHlt hb1 hb2 h3 hS hwa HR
    go_wp2_with fail
    refine HS.out.mono ?_
    rintro e w2 ⟨rfl, k, hw2⟩
    have HB3 : Hid (Below w.heap.size w w2) := by show Below _ _ _; rw [hw2]; exact below_drewN HB2.out k
    clear hw2
    go_wp2
    go_ret
    exact ⟨rfl, HB3.out⟩

/-- Lists that aren't long. -/
def fewB (l xs : List Int) : Bool := decide (l.length ≤ 24) && decide (xs.length ≤ 60)
theorem fewB_of {l xs : List Int} (h : fewB l xs = true) : l.length ≤ 24 ∧ xs.length ≤ 60 := by
  unfold fewB at h
  rw [Bool.and_eq_true] at h
  exact ⟨of_decide_eq_true h.1, of_decide_eq_true h.2⟩

set_option maxHeartbeats 400000 in
theorem cFew (ao bo : Option Addr) (cap cap2 : Nat) (l xs : List Int) (w : World) (hl : l.length ≤ 9223372036854775807) (hx : xs.length ≤ 9223372036854775807) :
    Calls Try.prog 10 #[.slice ao l.length cap, .slice bo xs.length cap2] w fun e w' => e = .returned (.bool (fewB l xs)) ∧ w = w' := by
  unfold fewB
  generalize l.length = m at *
  generalize xs.length = n at *
  by_cases h1 : m ≤ 24
  · by_cases h2 : n ≤ 60
    · go_enter Try.func10, Try.ntmps10
      go_wp2
      go_ret
      exact ⟨by simp [h1, h2]; omega, rfl⟩
    · go_enter Try.func10, Try.ntmps10
      go_wp2
      go_ret
      exact ⟨by simp [h2]; omega, rfl⟩
  · go_enter Try.func10, Try.ntmps10
    go_wp2
    go_ret
    exact ⟨by simp, rfl⟩

set_option maxHeartbeats 3200000 in
theorem filterResiduals (ao bo : Option Addr) (cap cap2 : Nat) (l xs : List Int) (w : World) (hll : l.length ≤ 9223372036854775807) (hxl : xs.length ≤ 9223372036854775807) (hcap : l.length ≤ cap) (hcap2 : xs.length ≤ cap2) (hi : IntsAt w ao l) (hj : IntsAt w bo xs) :
    Calls Try.prog 3 #[.slice ao l.length cap, .slice bo xs.length cap2] w fun e w' => e = .returned (.bool true) ∧ Below w.heap.size w w' := by
  have HA := fun W => Lib.hid (awake7 W)
  have HI := Lib.hid hi
  have HJ := Lib.hid hj
  have HF := fun W => Lib.hid (cFew ao bo cap cap2 l xs W hll hxl)
  clear hi hj
  cases hfw : fewB l xs with
  | false =>
    rw [hfw] at HF
    clear hfw
    go_enter Try.func3, Try.ntmps3
    go_wp2_with fail
    refine (HA _).out.mono ?_
    rintro e w1 ⟨rfl, hb1⟩
    go_wp2_with fail
    refine (HF _).out.mono ?_
    rintro e w1' ⟨rfl, rfl⟩
    go_wp2_with fail
    refine (HA _).out.mono ?_
    rintro e w2 ⟨rfl, hb2⟩
    go_wp2
    go_ret
    exact ⟨rfl, hb1.trans (hb2.mono hb1.size)⟩
  | true =>
    rw [hfw] at HF
    obtain ⟨hl24, hx60⟩ := fewB_of hfw
    clear hfw
    go_enter Try.func3, Try.ntmps3
    go_wp2_with fail
    refine (HA _).out.mono ?_
    rintro e w1 ⟨rfl, hb1⟩
    have hi1 := HI.out.below hb1
    have hj1 := HJ.out.below hb1
    obtain ⟨g, gcap, w2, hrun, ho2, hg1, hg2, hgc, hb2⟩ := run_copyI (ty := 22) (cap := cap2) (World.alloc_heap_new w1 (.cells #[] 3)) (by omega) (hj1.below (box_below w1 (.cells #[] 3)))
    have hb12 : Below w1.heap.size w1 w2 := (box_below w1 _).trans hb2
    have HB2 := Lib.hid (hb1.trans (hb12.mono hb1.size))
    have HI2 := Lib.hid (hi1.below hb12)
    have HJ2 := Lib.hid (hj1.below hb12)
    have HO2 := Lib.hid ho2
    have HC := Lib.hid (cResiduals ao (some ⟨g, 0, none⟩) cap gcap l xs w2 hll (by omega) hgc HI2.out ho2)
    clear hb1 hi1 hj1 ho2 hb2 hb12 hg1 hg2 HI HJ
    go_wp2_with fail
    refine (HF _).out.mono ?_
    rintro e w1' ⟨rfl, rfl⟩
    go_wp2_with (at_builtin; refine wpList_append_run rfl _ _ 22 rfl _ _ _ _ rfl rfl hrun ?_)
    refine HC.out.mono ?_
    rintro e w3 h
    obtain ⟨cd, hcd⟩ : ∃ cd, cd = codeR l xs := ⟨_, rfl⟩
    rcases h with ⟨hc, rfl, hb3⟩ | ⟨hc, H, rfl, hi3, hH, hHlt, hb3⟩
    · have HR := Lib.hid (rResiduals ao bo cap cap2 l xs w3 hll hcap (by omega) hcap2 (HI2.out.below hb3) (HJ2.out.below hb3))
      have hne : (codeR l xs != 0) = true := by rw [bne_iff_ne]; exact hc
      have HB3 := Lib.hid (HB2.out.trans (hb3.mono HB2.out.size))
      have HO3 := Lib.hid (HO2.out.below hb3)
      have HJ3 := Lib.hid (HJ2.out.below hb3)
      have HNE := Lib.hid hc
      clear hb3 hrun HC hc
      rw [← hcd] at hne ⊢
      go_wp2_with fail
      refine HR.out.mono ?_
      rintro e w4 h
      rcases h with ⟨_, rfl, hb4⟩ | ⟨hc, _⟩
      · have hs1 := refSame none none 0 0 [] [] w4 (by simp) (IntsAt.nil' _ _) (IntsAt.nil' _ _)
        rw [decide_eq_true rfl] at hs1
        have HS1 := Lib.hid hs1
        have hs2 := fun k => refSame (some ⟨g, 0, none⟩) bo gcap cap2 xs xs (w4.drewN k) (by omega) ((HO3.out.below hb4).drewN k) ((HJ3.out.below hb4).drewN k)
        rw [decide_eq_true rfl] at hs2
        have HS2 := fun k => Lib.hid (hs2 k)
        have HB4 := Lib.hid (HB3.out.trans (hb4.mono HB3.out.size))
        have HCD := Lib.hid hcd
        rw [← hcd]
        clear hs1 hs2 hb4 hcd HNE HR
        simp only [List.length_nil] at HS1
        go_wp2_with fail
        refine HS1.out.mono ?_
        rintro e w5 ⟨rfl, k5, rfl⟩
        go_wp2_with fail
        refine (HS2 _).out.mono ?_
        rintro e w6 ⟨rfl, k6, hw6⟩
        have HB6 : Hid (Below w.heap.size w w6) := by show Below _ _ _; rw [hw6]; exact below_drewN (below_drewN HB4.out _) _
        clear hw6
        go_wp2
        go_ret
        exact ⟨rfl, HB6.out⟩
      · exact absurd hc HNE.out
    · have HR := Lib.hid (rResiduals ao bo cap cap2 l xs w3 hll hcap (by omega) hcap2 (HI2.out.below hb3) (HJ2.out.below hb3))
      have HB3 := Lib.hid (HB2.out.trans (hb3.mono HB2.out.size))
      have HO3 := Lib.hid (HO2.out.below hb3)
      have HJ3 := Lib.hid (HJ2.out.below hb3)
      have HI3 := Lib.hid (HI2.out.below hb3)
      have HL3 := Lib.hid hi3
      have HC0 := Lib.hid hc
      clear hb3 hrun HC hc hcd hi3 hH hHlt HO2 HJ2 HI2 HB2
      go_wp2_with fail
      refine HR.out.mono ?_
      rintro e w4 h
      rcases h with ⟨hc, _⟩ | ⟨_, ao4, cap4, rfl, hi4, hb4⟩
      · exact absurd HC0.out hc
      · have hs1 := refSame (some ⟨H, 0, none⟩) ao4 xs.length cap4 (res l xs) (res l xs) w4 (by rw [res_length]; omega) (HL3.out.below hb4) hi4
        rw [decide_eq_true rfl, res_length] at hs1
        have HS1 := Lib.hid hs1
        have hs2 := fun k => refSame (some ⟨g, 0, none⟩) bo gcap cap2 xs xs (w4.drewN k) (by omega) ((HO3.out.below hb4).drewN k) ((HJ3.out.below hb4).drewN k)
        rw [decide_eq_true rfl] at hs2
        have HS2 := fun k => Lib.hid (hs2 k)
        have HB4 := Lib.hid (HB3.out.trans (hb4.mono HB3.out.size))
        have HJ4 := Lib.hid (HJ3.out.below hb4)
        have HSM := fun k => Lib.hid (cSamples ao (some ⟨H, 0, none⟩) cap xs.length l (res l xs) 67108864 (w4.drewN k) (by omega) hll (by rw [res_length]; omega) ((HI3.out.below hb4).drewN k) ((HL3.out.below hb4).drewN k))
        rw [res_length] at HSM
        clear hs1 hs2 hb4 hi4 HR
        go_wp2_with fail
        refine HS1.out.mono ?_
        rintro e w5 ⟨rfl, k5, rfl⟩
        go_wp2_with fail
        refine (HS2 _).out.mono ?_
        rintro e w6 ⟨rfl, k6, rfl⟩
        rw [World.drewN_drewN]
        generalize k5 + k6 = k
        go_wp2_with fail
        refine (HSM _).out.mono ?_
        rintro e w7 h
        rcases h with ⟨hc, _⟩ | ⟨_, ao7, cap7, rfl, hi7, _, hb7⟩
        · exact absurd (back_S HC0.out) hc
        · rw [res_length, smp_back] at hi7
          rw [res_length]
          have hb47 : Below w4.heap.size w4 w7 := ((keeps_drewN w4 k []).below (Nat.le_refl _) (by simp)).trans hb7
          have hs3 := refSame ao7 bo cap7 cap2 xs xs w7 (by omega) hi7 (HJ4.out.below hb47)
          rw [decide_eq_true rfl] at hs3
          have HS3 := Lib.hid hs3
          have HB7 := Lib.hid (HB4.out.trans (hb47.mono HB4.out.size))
          clear hs3 hb47 hb7 hi7 HS1 HS2 HSM
          go_wp2_with fail
          refine HS3.out.mono ?_
          rintro e w8 ⟨rfl, k8, hw8⟩
          have HB8 : Hid (Below w.heap.size w w8) := by show Below _ _ _; rw [hw8]; exact below_drewN HB7.out _
          clear hw8
          go_wp2
          go_ret
          exact ⟨rfl, HB8.out⟩
end Go.Proofs.Ytcgkalfclammfaa
