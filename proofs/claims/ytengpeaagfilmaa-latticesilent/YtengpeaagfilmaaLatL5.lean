import Derived.Test.YtengpeaagfilmaaLatL3
namespace Go.Proofs.Ytengpeaagfilmaa
open Go.RowKit Go.Proofs Go.Proofs.PipeA Go.Proofs.LatM
set_option maxRecDepth 100000

theorem cut_left (b off len cap hi : Nat) (h2 : hi ≤ cap) (W : World) :
    (Instr.slice 22 (.slice (some ⟨b, off, none⟩) len cap) none (some (.int .i64 (hi : Int))) none).run Try.prog W = .ok (.slice (some ⟨b, off, none⟩) hi cap) W := by
  simp [Instr.slice, run_underlying Try.underlying22, Instr.sliceBounds, Instr.sliceBound, asIntOf, h2, Addr.add_lit]

theorem good_more {l : List Int} (h : goodL l = true) (hl : l.length ≤ 15) : goodL (l ++ [0]) = true := by
  unfold goodL at h ⊢
  rw [Bool.and_eq_true] at h ⊢
  refine ⟨?_, decide_eq_true (by simp; omega)⟩
  rw [List.all_append, h.1]
  rfl
theorem IntsAt.left {w : World} {ao : Option Addr} {l r : List Int} (h : IntsAt w ao (l ++ r)) : IntsAt w ao l := by
  intro j hj
  obtain ⟨b, off, h1, h2, h3⟩ := h j (by simp; omega)
  exact ⟨b, off, h1, h2, by rw [h3, List.getElem_append_left hj]⟩

/-- append(append([]int{}, l...), n): what the two appends make. -/
theorem run_copy_one {w : World} {ao : Option Addr} {cap ty : Nat} {l : List Int} (n : Int) (h0 : 0 < l.length) (hl : l.length ≤ 100000) (h : IntsAt w ao l) :
    ∃ v1 w1 a2 cap2 w2, (Builtin.append_ #[22, 22] ty #[.slice (some ⟨w.heap.size, 0, none⟩) 0 0, .slice ao l.length cap]).run Try.prog (w.alloc (.cells #[] 3)) = .ok v1 w1 ∧
      (Builtin.append_ #[22, 22] ty #[v1, .slice (some ⟨w1.heap.size, 0, none⟩) 1 1]).run Try.prog (w1.alloc (.cells #[.int .i64 n] 3)) = .ok (.slice a2 (l.length + 1) cap2) w2 ∧
      IntsAt w2 a2 (l ++ [n]) ∧ Below w.heap.size w w2 := by
  obtain ⟨i0, hi, hz0, hz1, hz2⟩ := info_parts info_int
  obtain ⟨g, hg⟩ : ∃ g, g = w.heap.size := ⟨_, rfl⟩
  have hnew := World.alloc_heap_new w (.cells #[] 3)
  have hown : (w.alloc (.cells #[] 3)).ownsRow w.heap.size 3 1 (.slice (some ⟨w.heap.size, 0, none⟩) 0 0) 0 [] := ⟨rfl, .inr ⟨w.heap.size, 0, #[], rfl, Nat.le_refl _, hnew, Nat.le_refl _, by unfold maxLen; omega, rfl, rfl⟩⟩
  have hb0 := box_below w (.cells #[] 3)
  have h' := h.below hb0
  obtain ⟨b, off, rfl, hblt, _⟩ := h' 0 h0
  obtain ⟨v1, w1, hr1, ho1, hg1, hv1⟩ := run_append_own (P := Try.prog) (w.alloc (.cells #[] 3)) w.heap.size 22 ty 3 i0 (.int .i64 0) 1 8 Try.underlying22 hi hz0 hz1 hz2 rfl (by decide) (.slice (some ⟨w.heap.size, 0, none⟩) 0 0) 0 [] hown ⟨b, off, none⟩ l.length cap (intsOf l) (by simp [intsOf]) (icells_at h') (icells_one l) (by unfold maxLen; omega) (by omega) (by simp)
  rw [Nat.zero_add, List.nil_append] at ho1
  have hb1 : Below w.heap.size w w1 := hb0.grown hg1 (by simp) (by intro x hx; simp [Value.ownBlock] at hx; omega)
  have hnew1 := World.alloc_heap_new w1 (.cells #[.int .i64 n] 3)
  obtain ⟨v2, w2, hr2, ho2, hg2, hv2⟩ := run_append_own (P := Try.prog) (w1.alloc (.cells #[.int .i64 n] 3)) w.heap.size 22 ty 3 i0 (.int .i64 0) 1 8 Try.underlying22 hi hz0 hz1 hz2 rfl (by decide) v1 l.length (intsOf l) (ho1.alloc _) ⟨w1.heap.size, 0, none⟩ 1 1 [.int .i64 n] (by simp) (by
    intro j u hj
    match j, hj with
    | 0, hj => simp at hj; subst hj; simp [Addr.add]) (by intro u hu; simp at hu; subst hu; rfl) (by unfold maxLen; omega) (by omega) (by simp; have := hb1.size; omega)
  obtain ⟨a2, cap2, rfl, _⟩ := own_slice ho2
  have hb2 : Below w.heap.size w w2 := (hb1.alloc hb1.size _).grown hg2 (by simp; have := hb1.size; omega) (by intro x hx; exact (own_block_lt ho1 x hx).1)
  refine ⟨v1, w1, a2, cap2, w2, hr1, hr2, ?_, hb2⟩
  have e : intsOf (l ++ [n]) = intsOf l ++ [.int .i64 n] := by unfold intsOf; rw [List.map_append]; rfl
  refine ints_own (base := w.heap.size) (cap := cap2) ?_
  rw [e, List.length_append, List.length_singleton]
  exact ho2

set_option maxHeartbeats 3200000 in
theorem silent_no (ao bo : Option Addr) (cap cap2 : Nat) (l p : List Int) (w : World) (hll : l.length ≤ 9223372036854775807) (hlp : p.length ≤ 9223372036854775807) (hi : IntsAt w ao l) (hno : goodL l = false ∨ l.length < 2 ∨ 15 < l.length ∨ 40 < p.length) :
    Calls Try.prog 8 #[.slice ao l.length cap, .slice bo p.length cap2] w fun e w' => e = .returned (.bool true) ∧ Below w.heap.size w w' := by
  have HA := fun W => Lib.hid (awake W)
  have HI := Lib.hid hi
  clear hi
  cases hgd : goodL l with
  | false =>
    have HGD := Lib.hid hgd
    clear hgd hno
    go_enter Try.func8, Try.ntmps8
    go_wp2_with fail
    refine (HA _).out.mono ?_
    rintro e w1 ⟨rfl, hb1⟩
    have HR := Lib.hid (rGood ao cap l w1 hll (HI.out.below hb1))
    rw [HGD.out] at HR
    go_wp2_with fail
    refine HR.out.mono ?_
    rintro e w2 ⟨rfl, rfl⟩
    go_wp2_with fail
    refine (HA _).out.mono ?_
    rintro e w2 ⟨rfl, hb2⟩
    go_wp2
    go_ret
    exact ⟨rfl, hb1.trans (hb2.mono hb1.size)⟩
  | true =>
    have HGD := Lib.hid hgd
    rw [hgd] at hno
    clear hgd
    by_cases h1 : l.length < 2
    · have t1 : decide ((l.length : Int) < 2) = true := decide_eq_true (by omega)
      clear hno
      go_enter Try.func8, Try.ntmps8
      go_wp2_with fail
      refine (HA _).out.mono ?_
      rintro e w1 ⟨rfl, hb1⟩
      have HR := Lib.hid (rGood ao cap l w1 hll (HI.out.below hb1))
      rw [HGD.out] at HR
      go_wp2_with fail
      refine HR.out.mono ?_
      rintro e w2 ⟨rfl, rfl⟩
      go_wp2_with fail
      refine (HA _).out.mono ?_
      rintro e w2 ⟨rfl, hb2⟩
      go_wp2
      go_ret
      exact ⟨rfl, hb1.trans (hb2.mono hb1.size)⟩
    · have t1 : decide ((l.length : Int) < 2) = false := decide_eq_false (by omega)
      by_cases h2 : 15 < l.length
      · have t2 : decide ((l.length : Int) > 15) = true := decide_eq_true (by omega)
        clear hno
        go_enter Try.func8, Try.ntmps8
        go_wp2_with fail
        refine (HA _).out.mono ?_
        rintro e w1 ⟨rfl, hb1⟩
        have HR := Lib.hid (rGood ao cap l w1 hll (HI.out.below hb1))
        rw [HGD.out] at HR
        go_wp2_with fail
        refine HR.out.mono ?_
        rintro e w2 ⟨rfl, rfl⟩
        go_wp2_with fail
        refine (HA _).out.mono ?_
        rintro e w2 ⟨rfl, hb2⟩
        go_wp2
        go_ret
        exact ⟨rfl, hb1.trans (hb2.mono hb1.size)⟩
      · have t2 : decide ((l.length : Int) > 15) = false := decide_eq_false (by omega)
        have hp : 40 < p.length := by rcases hno with h | h | h | h <;> first | (cases h; done) | omega
        have t3 : decide ((p.length : Int) > 40) = true := decide_eq_true (by omega)
        clear hno
        go_enter Try.func8, Try.ntmps8
        go_wp2_with fail
        refine (HA _).out.mono ?_
        rintro e w1 ⟨rfl, hb1⟩
        have HR := Lib.hid (rGood ao cap l w1 hll (HI.out.below hb1))
        rw [HGD.out] at HR
        go_wp2_with fail
        refine HR.out.mono ?_
        rintro e w2 ⟨rfl, rfl⟩
        go_wp2_with fail
        refine (HA _).out.mono ?_
        rintro e w2 ⟨rfl, hb2⟩
        go_wp2
        go_ret
        exact ⟨rfl, hb1.trans (hb2.mono hb1.size)⟩

set_option maxHeartbeats 3200000 in
theorem latticeSilent (ao bo : Option Addr) (cap cap2 : Nat) (l p : List Int) (w : World) (hll : l.length ≤ 9223372036854775807) (hlp : p.length ≤ 9223372036854775807) (hi : IntsAt w ao l) (hj : IntsAt w bo p) :
    Calls Try.prog 8 #[.slice ao l.length cap, .slice bo p.length cap2] w fun e w' => e = .returned (.bool true) ∧ Below w.heap.size w w' := by
  by_cases hno : goodL l = false ∨ l.length < 2 ∨ 15 < l.length ∨ 40 < p.length
  · exact silent_no ao bo cap cap2 l p w hll hlp hi hno
  · have hgd : goodL l = true := by
      cases h : goodL l with
      | true => rfl
      | false => exact absurd (.inl h) hno
    have h2 : 2 ≤ l.length := by omega
    have h15 : l.length ≤ 15 := by omega
    have h40 : p.length ≤ 40 := by omega
    have t1 : decide ((l.length : Int) < 2) = false := decide_eq_false (by omega)
    have t2 : decide ((l.length : Int) > 15) = false := decide_eq_false (by omega)
    have t3 : decide ((p.length : Int) > 40) = false := decide_eq_false (by omega)
    have HGD := Lib.hid hgd
    have HI0 := Lib.hid hi
    have HJ0 := Lib.hid hj
    have HA := fun W => Lib.hid (awake W)
    clear hno hgd hi hj
    go_enter Try.func8, Try.ntmps8
    go_wp2_with fail
    refine (HA _).out.mono ?_
    rintro e w1 ⟨rfl, hb1⟩
    have HB1 := Lib.hid hb1
    have HI1 := Lib.hid (HI0.out.below hb1)
    have HJ1 := Lib.hid (HJ0.out.below hb1)
    have HR := Lib.hid (rGood ao cap l w1 hll HI1.out)
    rw [HGD.out] at HR
    clear hb1 HI0 HJ0
    go_wp2_with fail
    refine HR.out.mono ?_
    rintro e w2 ⟨rfl, rfl⟩
    go_wp2
    go_loopg [6, 34] p.length (fun gk q i wr => ∃ j : Nat, j ≤ p.length ∧ gk + j = p.length ∧ i = .int .i64 j ∧ Hid (Within 67108864 (p.take j)) ∧ w1 = wr)
    case atStart => exact ⟨0, Nat.zero_le _, by omega, rfl, by simp [Hid, Within], rfl⟩
    case round =>
      obtain ⟨j, hjc, hgk, rfl, HT, rfl⟩ := hrel
      have HGK := Lib.hid hgk
      clear hgk
      by_cases hlt : j < p.length
      · obtain ⟨b, off, rfl, hg, hcell⟩ := HJ1.out j hlt
        have HST : Hid (-67108864 ≤ p[j] ∧ p[j] ≤ 67108864 → Within 67108864 (p.take (j + 1))) := fun h => HT.out.step hlt h
        generalize p[j] = x at hcell HST
        clear hg
        by_cases h1 : x > 67108864
        · have t3 : decide (x > 67108864) = true := decide_eq_true h1
          clear HST
          go_wp2
          go_ret
          exact ⟨rfl, HB1.out⟩
        · by_cases h2 : x < -67108864
          · have t3 : decide (x > 67108864) = false := decide_eq_false h1
            have t4 : decide (x < -67108864) = true := decide_eq_true h2
            clear HST
            go_wp2
            go_ret
            exact ⟨rfl, HB1.out⟩
          · have t3 : decide (x > 67108864) = false := decide_eq_false h1
            have t4 : decide (x < -67108864) = false := decide_eq_false h2
            have HN := Lib.hid (HST.out (by omega))
            clear HST
            go_wp2
            go_roundg (gk - 1)
            case rel => exact ⟨j + 1, by omega, by have := HGK.out; omega, by go_num, HN, rfl⟩
            case measure => have := HGK.out; omega
      · obtain rfl : j = p.length := by omega
        have HP : Hid (Within 67108864 p) := by have := HT.out; rw [List.take_length] at this; exact this
        have HCA := Lib.hid (cCoefs ao cap l w1 HGD.out HI1.out)
        clear HT HGK hjc hlt HR
        go_wp2_with fail
        refine HCA.out.mono ?_
        rintro e w2 ⟨ao2, cap3, rfl, hi2, _, _, hb2⟩
        obtain ⟨v1, w3, a4, cap4, w4, hr1, hr2, hi4, hb4⟩ := run_copy_one (ty := 22) (cap := cap) 0 (show 0 < l.length by omega) (by omega) (HI1.out.below hb2)
        have HCB := Lib.hid (cCoefs a4 cap4 (l ++ [0]) w4 (good_more HGD.out h15) hi4)
        have hlen2 : (l ++ [(0 : Int)]).length = l.length + 1 := by simp
        rw [hlen2, cf_silent h2] at HCB
        have hal := cf_length l l.length
        have HAB : Hid (∀ x ∈ cf l l.length, -1073741824 ≤ x ∧ x ≤ 1073741824) := cf_b30 HGD.out (by omega)
        obtain ⟨A, hA⟩ : ∃ A, A = cf l l.length := ⟨_, rfl⟩
        rw [← hA] at HCB hi2 hal HAB ⊢
        rw [hal]
        have HAL := Lib.hid hal
        have hb24 := hb4
        have hb14 : Below w1.heap.size w1 w4 := hb2.trans (hb24.mono hb2.size)
        have HA4 := Lib.hid (hi2.below hb24)
        have HJ4 := Lib.hid (HJ1.out.below hb14)
        have HB4 := Lib.hid (HB1.out.trans (hb14.mono HB1.out.size))
        clear hA hal hi2 hi4 hb2 hb4 hb24 hb14 HJ1 HI1 HB1 HCA hlen2
        go_wp2_with (at_builtin; first | refine wpList_append_run rfl _ _ 22 rfl _ _ _ _ rfl rfl hr1 ?_ | refine wpList_append_run rfl _ _ 22 rfl _ _ _ _ rfl rfl hr2 ?_)
        refine HCB.out.mono ?_
        rintro e w5 ⟨ao5, cap5, rfl, hi5, _, hcp5, hb5⟩
        obtain ⟨b, off, rfl, hblt, _⟩ := hi5 0 (by simp)
        have hlen5 : (A ++ [(0 : Int)]).length = l.length + 1 := by rw [List.length_append, HAL.out]; rfl
        rw [hlen5] at hcp5 ⊢
        have hcell : w5.cell? ⟨b, off + l.length, none⟩ = some (.int .i64 0) := by
          obtain ⟨b', off', he, _, hc⟩ := hi5 l.length (by omega)
          simp only [Option.some.injEq, Addr.mk.injEq, and_true] at he
          obtain ⟨rfl, rfl⟩ := he
          rw [hc]
          simp [← HAL.out]
        have hcut := cut_left b off (l.length + 1) cap5 l.length (by omega)
        have hA5 := HA4.out.below hb5
        have hP5 := HJ4.out.below hb5
        have HSM := Lib.hid (refSame (some ⟨b, off, none⟩) ao2 cap5 cap3 A A w5 (by rw [HAL.out]; omega) hi5.left hA5)
        rw [decide_eq_true rfl, HAL.out] at HSM
        have HTA : Tame A p := ⟨by rw [HAL.out]; omega, by omega, HAB.out, HP.out⟩
        have HTB : Tame (A ++ [0]) p := ⟨by rw [hlen5]; omega, by omega, fun x hx => by
          rcases List.mem_append.1 hx with h | h
          · exact HAB.out x h
          · obtain rfl := List.mem_singleton.1 h; decide, HP.out⟩
        have HP1 := fun k => Lib.hid (cPredict ao2 bo cap3 cap2 A p (w5.drewN k) HTA (hA5.drewN k) (hP5.drewN k))
        have HP2 := fun k => Lib.hid (cPredict (some ⟨b, off, none⟩) bo cap5 cap2 (A ++ [0]) p (w5.drewN k) HTB (hi5.drewN k) (hP5.drewN k))
        rw [pred_silent] at HP2
        rw [HAL.out] at HP1
        rw [hlen5] at HP2
        generalize pred A p = r at HP1 HP2
        have HB5 := Lib.hid (HB4.out.trans (hb5.mono HB4.out.size))
        have HBK := fun k => Lib.hid (below_drewN HB5.out k)
        clear hi5 hb5 hA5 hP5 HTA HTB hr1 hr2 HCB HB4 HA4 HJ4 HP hlen5
        go_wp2_with fail
        refine HSM.out.mono ?_
        rintro e w6 ⟨rfl, k6, rfl⟩
        have kc6 : (w5.drewN k6).cell? ⟨b, off + l.length, none⟩ = some (.int .i64 0) := hcell
        go_wp2_with fail
        refine (HP1 _).out.mono ?_
        rintro e w7 ⟨rfl, k7, rfl⟩
        rw [World.drewN_drewN]
        go_wp2_with fail
        refine (HP2 _).out.mono ?_
        rintro e w7 ⟨rfl, k8, rfl⟩
        rw [World.drewN_drewN]
        go_wp2
        go_ret
        exact ⟨by simp, (HBK _).out⟩
end Go.Proofs.Ytengpeaagfilmaa
