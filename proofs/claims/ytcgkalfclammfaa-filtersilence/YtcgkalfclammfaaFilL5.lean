import Derived.Test.YtcgkalfclammfaaFilL1
import Derived.Test.YtcgkalfclammfaaFilM2
namespace Go.Proofs.Ytcgkalfclammfaa
open Go.RowKit Go.Proofs Go.Proofs.PipeA Go.Proofs.LatM Go.Proofs.FilM
set_option maxRecDepth 100000

/-- append([]int{x}, l...): what it makes. -/
theorem run_cons {W : World} {H m cap ty : Nat} {l : List Int} (x : Int) (hm : m = l.length) (hl : l.length ≤ 100000) (h : IntsAt W (some ⟨H, 0, none⟩) l) :
    ∃ a2 cap2 w2, (Builtin.append_ #[22, 22] ty #[.slice (some ⟨W.heap.size, 0, none⟩) 1 1, .slice (some ⟨H, 0, none⟩) m cap]).run Try.prog (W.alloc (.cells #[.int .i64 x] 3)) = .ok (.slice a2 (m + 1) cap2) w2 ∧
      IntsAt w2 a2 (x :: l) ∧ m + 1 ≤ cap2 ∧ Below W.heap.size W w2 := by
  subst hm
  obtain ⟨i0, hi, hz0, hz1, hz2⟩ := info_parts info_int
  have hnew := World.alloc_heap_new W (.cells #[.int .i64 x] 3)
  have hown : (W.alloc (.cells #[.int .i64 x] 3)).ownsRow W.heap.size 3 1 (.slice (some ⟨W.heap.size, 0, none⟩) 1 1) 1 [.int .i64 x] := ⟨rfl, .inr ⟨W.heap.size, 1, _, rfl, Nat.le_refl _, hnew, Nat.le_refl _, by unfold maxLen; omega, rfl, rfl⟩⟩
  have hb0 := box_below W (.cells #[.int .i64 x] 3)
  obtain ⟨v1, w1, hr1, ho1, hg1, _⟩ := run_append_own (P := Try.prog) (W.alloc (.cells #[.int .i64 x] 3)) W.heap.size 22 ty 3 i0 (.int .i64 0) 1 8 Try.underlying22 hi hz0 hz1 hz2 rfl (by decide) (.slice (some ⟨W.heap.size, 0, none⟩) 1 1) 1 [.int .i64 x] hown ⟨H, 0, none⟩ l.length cap (intsOf l) (by simp [intsOf]) (icells_at (h.below hb0)) (icells_one l) (by unfold maxLen; omega) (by omega) (by simp)
  obtain ⟨a2, cap2, rfl, _⟩ := own_slice ho1
  rw [show 1 + l.length = l.length + 1 by omega] at ho1 hr1
  refine ⟨a2, cap2, w1, hr1, ?_, own_cap ho1, hb0.grown hg1 (by simp) (by intro y hy; simp [Value.ownBlock] at hy; omega)⟩
  refine ints_own (base := W.heap.size) (cap := cap2) ?_
  exact ho1

theorem silence_res {l : List Int} {x : Int} {m : Nat} (hg : goodL l = true) (hx : -67108864 ≤ x ∧ x ≤ 67108864) : codeR l (List.replicate m 0) = 0 ∧ codeR l (x :: List.replicate m 0) = 0 := by
  have h1 : (List.replicate m (0 : Int)).all isS = true := List.all_eq_true.2 fun y hy => by rw [(List.mem_replicate.1 hy).2]; exact isS_zero
  refine ⟨codeR_of hg h1, codeR_of hg ?_⟩
  rw [List.all_cons, h1, Bool.and_true]
  exact decide_eq_true hx

theorem first_cases (n : Int) : (decide (67108864 < n) = true) ∨ (decide (67108864 < n) = false ∧ decide (n < -67108864) = true) ∨ (decide (67108864 < n) = false ∧ decide (n < -67108864) = false ∧ (-67108864 ≤ n ∧ n ≤ 67108864)) := by
  by_cases h1 : 67108864 < n
  · exact .inl (decide_eq_true h1)
  · by_cases h2 : n < -67108864
    · exact .inr (.inl ⟨decide_eq_false h1, decide_eq_true h2⟩)
    · exact .inr (.inr ⟨decide_eq_false h1, decide_eq_false h2, by omega⟩)

set_option maxHeartbeats 3200000 in
theorem filterSilence (ao : Option Addr) (cap : Nat) (l : List Int) (n : Nat) (x : Int) (w : World) (hn : n ≤ 255) (hll : l.length ≤ 9223372036854775807) (hi : IntsAt w ao l) :
    Calls Try.prog 8 #[.slice ao l.length cap, .int .u8 (n : Int), .int .i64 x] w fun e w' => e = .returned (.bool true) ∧ Below w.heap.size w w' := by
  have HA := fun W => Lib.hid (awake7 W)
  have HI := Lib.hid hi
  have HG := fun W (hb : Below w.heap.size w W) => Lib.hid (rGood ao cap l W hll (HI.out.below hb))
  clear hi
  cases hgd : goodL l with
  | false =>
    rw [hgd] at HG
    clear hgd
    go_enter Try.func8, Try.ntmps8
    go_wp2_with fail
    refine (HA _).out.mono ?_
    rintro e w1 ⟨rfl, hb1⟩
    have HB1 := Lib.hid hb1
    clear hb1
    go_wp2_with fail
    refine (HG _ HB1.out).out.mono ?_
    rintro e w1' ⟨rfl, rfl⟩
    go_wp2_with fail
    refine (HA _).out.mono ?_
    rintro e w2 ⟨rfl, hb2⟩
    go_wp2
    go_ret
    exact ⟨rfl, HB1.out.trans (hb2.mono HB1.out.size)⟩
  | true =>
    rw [hgd] at HG
    rcases first_cases x with t1 | ⟨t1, t2⟩ | ⟨t1, t2, t3⟩
    · clear hgd
      go_enter Try.func8, Try.ntmps8
      go_wp2_with fail
      refine (HA _).out.mono ?_
      rintro e w1 ⟨rfl, hb1⟩
      have HB1 := Lib.hid hb1
      clear hb1
      go_wp2_with fail
      refine (HG _ HB1.out).out.mono ?_
      rintro e w1' ⟨rfl, rfl⟩
      go_wp2_with fail
      refine (HA _).out.mono ?_
      rintro e w2 ⟨rfl, hb2⟩
      go_wp2
      go_ret
      exact ⟨rfl, HB1.out.trans (hb2.mono HB1.out.size)⟩
    · clear hgd
      go_enter Try.func8, Try.ntmps8
      go_wp2_with fail
      refine (HA _).out.mono ?_
      rintro e w1 ⟨rfl, hb1⟩
      have HB1 := Lib.hid hb1
      clear hb1
      go_wp2_with fail
      refine (HG _ HB1.out).out.mono ?_
      rintro e w1' ⟨rfl, rfl⟩
      go_wp2_with fail
      refine (HA _).out.mono ?_
      rintro e w2 ⟨rfl, hb2⟩
      go_wp2
      go_ret
      exact ⟨rfl, HB1.out.trans (hb2.mono HB1.out.size)⟩
    · obtain ⟨m, hm⟩ : ∃ m, m = n % 50 := ⟨_, rfl⟩
      have hm50 : m < 50 := by omega
      have hmi : (n : Int) % 50 = (m : Int) := by omega
      obtain ⟨cs, hcs, hmk⟩ := makeInts m (by omega)
      have hcd := silence_res (m := m) hgd t3
      have hrl : (List.replicate m (0 : Int)).length = m := List.length_replicate
      have HZ : Hid (∀ W : World, IntsAt (W.alloc (.cells cs 3)) (some ⟨W.heap.size, 0, none⟩) (List.replicate m 0)) := fun W j hj => by
        rw [hrl] at hj
        exact ⟨W.heap.size, 0, rfl, by simp, by rw [cell_of_heap (World.alloc_heap_new _ _), Nat.zero_add, hcs j hj]; simp⟩
      have HC1 : Hid (∀ W H, Below w.heap.size w W → IntsAt W (some ⟨H, 0, none⟩) (List.replicate m 0) → Calls Try.prog 11 #[.slice ao l.length cap, .slice (some ⟨H, 0, none⟩) m m] W (ResIs l (List.replicate m 0) W)) := fun W H hb hz => by
        have := cResiduals ao (some ⟨H, 0, none⟩) cap m l (List.replicate m 0) W hll (by omega) (by omega) (HI.out.below hb) hz
        rw [hrl] at this
        exact this
      have HC2 : Hid (∀ W a c2, Below w.heap.size w W → m + 1 ≤ c2 → IntsAt W a (x :: List.replicate m 0) → Calls Try.prog 11 #[.slice ao l.length cap, .slice a (m + 1) c2] W (ResIs l (x :: List.replicate m 0) W)) := fun W a c2 hb hc hz => by
        have := cResiduals ao a cap c2 l (x :: List.replicate m 0) W hll (by simp; omega) (by simp; omega) (HI.out.below hb) hz
        rw [List.length_cons, hrl] at this
        exact this
      have HCD := Lib.hid hcd
      have HRL := Lib.hid hrl
      clear hcs hm t3 hgd hcd hrl
      go_enter Try.func8, Try.ntmps8
      go_wp2_with fail
      refine (HA _).out.mono ?_
      rintro e w1 ⟨rfl, hb1⟩
      have HB1 := Lib.hid hb1
      clear hb1
      have HB2 := Lib.hid (HB1.out.alloc HB1.out.size (.cells cs 3))
      have hlt2 : w1.heap.size < (w1.alloc (.cells cs 3)).heap.size := by simp
      obtain ⟨w2, hw2⟩ : ∃ w2, w2 = w1.alloc (.cells cs 3) := ⟨_, rfl⟩
      have HZ2 := Lib.hid (HZ.out w1)
      rw [← hw2] at HB2 HZ2 hlt2
      go_wp2_with fail
      refine (HG _ HB1.out).out.mono ?_
      rintro e w1' ⟨rfl, rfl⟩
      have HR1 := Lib.hid (HC1.out w2 _ HB2.out HZ2.out)
      rw [hw2] at HR1
      go_wp2_with fail
      refine HR1.out.mono ?_
      rintro e w3 h
      rw [← hw2] at h
      rcases h with ⟨hc, _⟩ | ⟨_, H3, rfl, hi3, hH3, hHlt3, hb3⟩
      · exact absurd HCD.out.1 hc
      · rw [HRL.out]
        rw [res_zeros] at hi3
        have HB3 := Lib.hid (HB2.out.trans (hb3.mono HB2.out.size))
        have HZ3 := Lib.hid (HZ2.out.below hb3)
        have HA3 := Lib.hid hi3
        obtain ⟨a4, cap4, w4, hrun, hi4, hc4, hb4⟩ := run_cons (ty := 22) (cap := m) x HRL.out.symm (by rw [HRL.out]; omega) HZ3.out
        have HB4 := Lib.hid (HB3.out.trans (hb4.mono HB3.out.size))
        have HZ4 := Lib.hid (HZ3.out.below hb4)
        have HA4 := Lib.hid (HA3.out.below hb4)
        have HR2 := Lib.hid (HC2.out w4 a4 cap4 HB4.out hc4 hi4)
        clear hi3 hb3 hi4 hc4 hb4 HR1 hw2 HB2 HZ2 HC1 HC2 HZ HG HB1
        go_wp2_with (at_builtin; refine wpList_append_run rfl _ _ 22 rfl _ _ _ _ rfl rfl hrun ?_)
        refine HR2.out.mono ?_
        rintro e w5 h
        rcases h with ⟨hc, _⟩ | ⟨_, H5, rfl, hi5, hH5, hHlt5, hb5⟩
        · exact absurd HCD.out.2 hc
        · rw [List.length_cons, HRL.out]
          have HB5 := Lib.hid (HB4.out.trans (hb5.mono HB4.out.size))
          obtain ⟨b, off, he, _, hcell⟩ := hi5 0 (by rw [res_length]; simp)
          simp only [Option.some.injEq, Addr.mk.injEq, and_true] at he
          obtain ⟨rfl, rfl⟩ := he
          rw [res_first, Nat.add_zero] at hcell
          have hs1 := refSame (some ⟨H3, 0, none⟩) (some ⟨w1.heap.size, 0, none⟩) m m (List.replicate m 0) (List.replicate m 0) w5 (by rw [HRL.out]; omega) (HA4.out.below hb5) (HZ4.out.below hb5)
          rw [decide_eq_true rfl, HRL.out] at hs1
          have HS1 := Lib.hid hs1
          clear hs1 hb5 hi5 HR2 HA4 HZ4 hrun
          go_wp2_with fail
          refine HS1.out.mono ?_
          rintro e w6 ⟨rfl, k6, hw6⟩
          have HB6 : Hid (Below w.heap.size w w6) := by show Below _ _ _; rw [hw6]; exact below_drewN HB5.out _
          have hcell6 : w6.cell? ⟨H5, 0, none⟩ = some (.int .i64 x) := by rw [hw6]; exact hcell
          clear hw6 hcell
          go_wp2
          go_ret
          exact ⟨by simp, HB6.out⟩
end Go.Proofs.Ytcgkalfclammfaa
