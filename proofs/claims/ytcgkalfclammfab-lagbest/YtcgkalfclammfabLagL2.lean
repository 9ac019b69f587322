import Derived.Test.YtcgkalfclammfabLagL1
namespace Go.Proofs.Ytcgkalfclammfab
open Go.RowKit Go.Proofs Go.Proofs.PipeA Go.Proofs.LagM
set_option maxRecDepth 100000

theorem code_zero_or (a g : Int) (l : List Int) : codeT a g l = 0 ∨ (codeT a g l != 0) = true := by
  by_cases h : codeT a g l = 0
  · exact .inl h
  · exact .inr (by rw [bne_iff_ne]; exact h)
/-- What Off tells of no numbers. -/
theorem cOffNil (a g : Int) (w : World) : Calls Try.prog 9 #[termV a g, .slice none 0 0] w fun e w' => ∃ v cd, e = .returned (.tuple #[v, .int .i64 cd]) ∧ Below w.heap.size w w' := by
  have h := cOff a g none 0 [] w (by simp) (IntsAt.nil' _ _)
  simp only [List.length_nil] at h
  refine h.mono ?_
  rintro e w' (⟨_, rfl, hb⟩ | ⟨_, ao, cap, rfl, _, _, hb⟩)
  · exact ⟨_, _, rfl, hb⟩
  · exact ⟨_, _, rfl, hb⟩

set_option maxHeartbeats 3200000 in
theorem lagOn (a g : Int) (ao : Option Addr) (cap : Nat) (l : List Int) (w : World) (hll : l.length ≤ 9223372036854775807) (hi : IntsAt w ao l) :
    Calls Try.prog 4 #[termV a g, .slice ao l.length cap] w fun e w' => e = .returned (.bool true) ∧ Below w.heap.size w w' := by
  obtain ⟨wa, hwa⟩ : ∃ wa, wa = w.alloc (.cells #[.int .i64 a, .int .i64 g] 23) := ⟨_, rfl⟩
  have hT : TermAt w a g wa := by rw [hwa]; exact TermAt.new w a g
  have HT := Lib.hid hT
  have HA := fun W => Lib.hid (awake8 W)
  have HN := fun W => Lib.hid (cOffNil a g W)
  have HI := Lib.hid (hi.below hT.below)
  unfold termV at HN ⊢
  clear hi hT
  by_cases hlen : l.length ≤ 100
  · go_enter Try.func4, Try.ntmps4
    go_wp2_with fail
    rw [← hwa]
    refine (HA _).out.mono ?_
    rintro e w1 ⟨rfl, hb1⟩
    have hT1 := HT.out.mono hb1
    have hi1 := HI.out.below hb1
    obtain ⟨H, hcap, w2, hrun, ho2, hH1, hH2, hHc, hb2⟩ := run_copyI (ty := 24) (cap := cap) (World.alloc_heap_new w1 (.cells #[] 3)) (by omega) (hi1.below (box_below w1 (.cells #[] 3)))
    have hb12 : Below w1.heap.size w1 w2 := (box_below w1 _).trans hb2
    have hT2 := hT1.mono hb12
    have HT2 := Lib.hid hT2
    have HI2 := Lib.hid (hi1.below hb12)
    have HO2 := Lib.hid ho2
    have HR := Lib.hid (cOn a g (some ⟨H, 0, none⟩) hcap l w2 (by omega) ho2)
    unfold termV at HR
    obtain ⟨k0, k1⟩ := hT2.cells
    clear hT1 hi1 hH1 hH2 hHc hb2 hb12 hT2 ho2 hb1 HI HT hwa
    go_wp2_with (at_builtin; refine wpList_append_run rfl _ _ 24 rfl _ _ _ _ rfl rfl hrun ?_)
    refine HR.out.mono ?_
    rintro e w3 h
    have hb3 : Below w2.heap.size w2 w3 := by rcases h with ⟨_, _, hb⟩ | ⟨_, _, _, _, _, _, hb⟩ <;> exact hb
    have hT3 := HT2.out.mono hb3
    have HT3 := Lib.hid hT3
    have HO3 := Lib.hid (HO2.out.below hb3)
    have HI3 := Lib.hid (HI2.out.below hb3)
    have HW := Lib.hid (rWrong a g ao cap l w3 (by omega) HI3.out)
    obtain ⟨h0, h1⟩ := hT3.cells
    clear hrun HR k0 k1 hb3 hT3
    rcases code_zero_or a g l with hc | hne
    · obtain ⟨hg, hall⟩ := codeT_zero hc
      obtain ⟨n, hn, hn255, hg0, hg1, hz, _⟩ := goodT_of hg
      subst hn
      rw [Int.toNat_natCast] at h
      have HZ := Lib.hid hz
      have HC0 := Lib.hid hc
      rw [hc] at HW
      have HRO := Lib.hid (rOn n g ao cap l w3 hc (by omega) HI3.out)
      have hol := onL_length n g l
      clear hg hall hz hc
      rcases h with ⟨hco, rfl, _⟩ | ⟨hco, ao3, cap3, rfl, hi3, _, _⟩
      · have hcn : (codeO (n : Int) g l != 0) = true := by rw [bne_iff_ne]; exact hco
        have HCO := Lib.hid hco
        obtain ⟨cd, hcd⟩ : ∃ cd, cd = codeO (n : Int) g l := ⟨_, rfl⟩
        have HCD := Lib.hid hcd
        rw [← hcd] at hcn ⊢
        clear hco hcd
        go_wp2_with fail
        refine HW.out.mono ?_
        rintro e w4 ⟨rfl, rfl⟩
        go_wp2_with fail
        refine HRO.out.mono ?_
        rintro e w5 h5
        rcases h5 with ⟨_, rfl, hb5⟩ | ⟨h5, _⟩
        · have HT5 := Lib.hid (HT3.out.mono hb5)
          have HS5 : Hid (Calls Try.prog 13 #[.slice none 0 0, .slice none 0 0] w5 fun e w' => e = .returned (.bool true) ∧ ∃ k, w' = w5.drewN k) := same_yes none none 0 0 [] w5 (by simp) (IntsAt.nil' _ _) (IntsAt.nil' _ _)
          have HS6 := fun k => Lib.hid (same_yes (some ⟨H, 0, none⟩) ao hcap cap l (w5.drewN k) (by omega) ((HO3.out.below hb5).drewN k) ((HI3.out.below hb5).drewN k))
          rw [← HCD.out]
          clear hb5 h0 h1 HRO HW HO2 HI2 HT2 HO3 HI3 HT3
          go_wp2_with fail
          refine HS5.out.mono ?_
          rintro e w6 ⟨rfl, k6, rfl⟩
          go_wp2_with fail
          refine (HS6 k6).out.mono ?_
          rintro e w7 ⟨rfl, k7, rfl⟩
          have HT7 := Lib.hid ((HT5.out.drewN k6).drewN k7)
          generalize (w5.drewN k6).drewN k7 = w7 at *
          obtain ⟨k0, k1⟩ := HT7.out.cells
          clear HS5 HS6 HT5
          go_wp2_with fail
          refine (HN _).out.mono ?_
          rintro e w8 ⟨v8, c8, rfl, hb8⟩
          have HT8 := Lib.hid (HT7.out.mono hb8)
          clear hb8 k0 k1
          go_wp2
          go_ret
          exact ⟨rfl, HT8.out.below⟩
        · exact absurd h5 HCO.out
      · have HU3 := Lib.hid hi3
        have HCO := Lib.hid hco
        rw [hol]
        clear hi3 hco
        go_wp2_with fail
        refine HW.out.mono ?_
        rintro e w4 ⟨rfl, rfl⟩
        go_wp2_with fail
        refine HRO.out.mono ?_
        rintro e w5 h5
        rcases h5 with ⟨h5, _⟩ | ⟨_, ao5, cap5, rfl, hi5, _, hb5⟩
        · exact absurd HCO.out h5
        · have HT5 := Lib.hid (HT3.out.mono hb5)
          have HU5 := Lib.hid (HU3.out.below hb5)
          have HI5 := Lib.hid (HI3.out.below hb5)
          have HS5 := Lib.hid (same_yes ao3 ao5 cap3 cap5 (onL n g l) w5 (by omega) HU5.out hi5)
          have HS6 := fun k => Lib.hid (same_yes (some ⟨H, 0, none⟩) ao hcap cap l (w5.drewN k) (by omega) ((HO3.out.below hb5).drewN k) (HI5.out.drewN k))
          rw [hol] at HS5 ⊢
          clear hb5 hi5 h0 h1 HRO HW HO2 HI2 HT2 HO3 HI3 HT3 HU3
          go_wp2_with fail
          refine HS5.out.mono ?_
          rintro e w6 ⟨rfl, k6, rfl⟩
          go_wp2_with fail
          refine (HS6 k6).out.mono ?_
          rintro e w7 ⟨rfl, k7, rfl⟩
          have HT7 := Lib.hid ((HT5.out.drewN k6).drewN k7)
          have HU7 := Lib.hid ((HU5.out.drewN k6).drewN k7)
          have HI7 := Lib.hid ((HI5.out.drewN k6).drewN k7)
          generalize (w5.drewN k6).drewN k7 = w7 at *
          have HF := Lib.hid (cOff n g ao3 cap3 (onL n g l) w7 (by omega) HU7.out)
          rw [Int.toNat_natCast, off_on HZ.out, hol, (codeO_zero HCO.out).2.2] at HF
          unfold termV at HF
          obtain ⟨k0, k1⟩ := HT7.out.cells
          clear HS5 HS6 HT5 HU5 HI5
          go_wp2_with fail
          refine HF.out.mono ?_
          rintro e w8 h8
          rcases h8 with ⟨h8, _⟩ | ⟨_, ao8, cap8, rfl, hi8, _, hb8⟩
          · exact absurd rfl h8
          · have HT8 := Lib.hid (HT7.out.mono hb8)
            have HS8 := Lib.hid (same_yes ao8 ao cap8 cap l w8 (by omega) hi8 (HI7.out.below hb8))
            clear hb8 hi8 k0 k1 HF
            go_wp2_with fail
            refine HS8.out.mono ?_
            rintro e w9 ⟨rfl, k9, rfl⟩
            have HT9 := Lib.hid (HT8.out.drewN k9)
            go_wp2
            go_ret
            exact ⟨rfl, HT9.out.below⟩
    · rw [codeO_not (by rwa [bne_iff_ne] at hne)] at h
      have HNE : Hid (codeT a g l ≠ 0) := by rwa [bne_iff_ne] at hne
      have heq : (codeT a g l == 0) = false := by rw [beq_eq_false_iff_ne]; exact HNE.out
      rcases h with ⟨_, rfl, _⟩ | ⟨h, _⟩
      · generalize codeT a g l = cd at *
        have HS5 : Hid (Calls Try.prog 13 #[.slice none 0 0, .slice none 0 0] w3 fun e w' => e = .returned (.bool true) ∧ ∃ k, w' = w3.drewN k) := same_yes none none 0 0 [] w3 (by simp) (IntsAt.nil' _ _) (IntsAt.nil' _ _)
        have HS6 := fun k => Lib.hid (same_yes (some ⟨H, 0, none⟩) ao hcap cap l (w3.drewN k) (by omega) (HO3.out.drewN k) (HI3.out.drewN k))
        go_wp2_with fail
        refine HW.out.mono ?_
        rintro e w4 ⟨rfl, rfl⟩
        clear h0 h1
        go_wp2_with fail
        refine HS5.out.mono ?_
        rintro e w6 ⟨rfl, k6, rfl⟩
        go_wp2_with fail
        refine (HS6 k6).out.mono ?_
        rintro e w7 ⟨rfl, k7, rfl⟩
        have HT7 := Lib.hid ((HT3.out.drewN k6).drewN k7)
        generalize (w3.drewN k6).drewN k7 = w7 at *
        obtain ⟨k0, k1⟩ := HT7.out.cells
        clear HS5 HS6 HT3
        go_wp2_with fail
        refine (HN _).out.mono ?_
        rintro e w8 ⟨v8, c8, rfl, hb8⟩
        have HT8 := Lib.hid (HT7.out.mono hb8)
        clear hb8 k0 k1
        go_wp2
        go_ret
        exact ⟨rfl, HT8.out.below⟩
      · exact absurd h HNE.out
  · have t1 : decide (100 < (l.length : Int)) = true := decide_eq_true (by omega)
    go_enter Try.func4, Try.ntmps4
    go_wp2_with fail
    rw [← hwa]
    refine (HA _).out.mono ?_
    rintro e w1 ⟨rfl, hb1⟩
    have HT1 := Lib.hid (HT.out.mono hb1)
    clear hb1
    go_wp2_with fail
    refine (HA _).out.mono ?_
    rintro e w2 ⟨rfl, hb2⟩
    have HT2 := Lib.hid (HT1.out.mono hb2)
    clear hb2
    go_wp2
    go_ret
    exact ⟨rfl, HT2.out.below⟩
end Go.Proofs.Ytcgkalfclammfab
