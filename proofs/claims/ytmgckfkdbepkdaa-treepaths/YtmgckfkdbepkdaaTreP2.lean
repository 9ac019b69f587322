import Derived.Test.YtmgckfkdbepkdaaTreP
namespace Go.Proofs.Ytmgckfkdbepkdaa
open Go.RowKit Go.Proofs Go.Proofs.PipeA Go.Proofs.TreM
set_option maxRecDepth 100000

/-- How far the halving has come. -/
structure Halved (size d j leaf c : Nat) : Prop where
  hj : j ≤ d
  h4 : j ≤ 4
  hl : leaf ≤ 1024
  hc : c = 2 ^ j
  eq : hv 4 size d = ((hv (4 - j) leaf (d - j)).1, c * (hv (4 - j) leaf (d - j)).2)
theorem Halved.zero {size d : Nat} (h : size ≤ 1024) : Halved size d 0 size 1 := ⟨Nat.zero_le _, by omega, h, rfl, by simp⟩
theorem Halved.next {size d j leaf c : Nat} (h : Halved size d j leaf c) (hd : j < d) (hm : may (4 - j) leaf = true) : Halved size d (j + 1) (leaf / 2) (2 * c) := by
  have h0 := (may_of hm).1
  have h4 := h.h4
  have hl := h.hl
  refine ⟨hd, by omega, by omega, by rw [h.hc, Nat.pow_succ]; omega, ?_⟩
  have e := h.eq
  obtain ⟨k, hk⟩ : ∃ k, 4 - j = k + 1 := ⟨4 - j - 1, by omega⟩
  rw [hk] at e hm
  rw [show 4 - (j + 1) = k by omega, show d - (j + 1) = d - j - 1 by omega, e, hv, if_pos ⟨by omega, hm⟩]
  simp only [Prod.mk.injEq, true_and]
  rw [← Nat.mul_assoc, Nat.mul_comm c 2]
theorem Halved.done {size d j leaf c : Nat} (h : Halved size d j leaf c) (hd : j = d ∨ may (4 - j) leaf = false) : hv 4 size d = (leaf, c) := by
  have : hv (4 - j) leaf (d - j) = (leaf, 1) := by
    generalize hk : 4 - j = k at *
    cases k with
    | zero => rfl
    | succ k =>
      rw [hv, if_neg]
      rintro ⟨h1, h2⟩
      rcases hd with hd | hd
      · omega
      · rw [hd] at h2; cases h2
  rw [h.eq, this, Nat.mul_one]
theorem Halved.two {size d j leaf c : Nat} (h : Halved size d j leaf c) : Two c := by
  have h4 := h.h4
  have hc := h.hc
  have : j = 0 ∨ j = 1 ∨ j = 2 ∨ j = 3 ∨ j = 4 := by omega
  unfold Two
  rcases this with rfl | rfl | rfl | rfl | rfl <;> simp at hc <;> omega

theorem cMayB (k size : Nat) (w : World) (hk : k ≤ 100000) (hs : size ≤ 1024) :
    Calls Try.prog 30 #[.int .i64 size, .int .i64 k] w fun e w' => e = .returned (.bool (may k size)) ∧ Below w.heap.size w w' := by
  refine (cMay k size w hk hs).mono ?_
  rintro e w' ⟨he, rfl⟩
  exact ⟨he, Below.refl _ _⟩
/-- The text of so many leaves of one size. -/
theorem cTextH (size d leaf c H : Nat) (w : World) (hs0 : 1 ≤ size) (hs : size ≤ 1024) (hd : hv 4 size d = (leaf, c)) (hc : Two c) (hi : IntsAt w (some ⟨H, 0, none⟩) (List.replicate c (leaf : Int))) :
    Calls Try.prog 14 #[.slice (some ⟨H, 0, none⟩) c c, .int .i64 size] w fun e w' => e = .returned (.tuple #[.string (bs (wh 4 size d)), .int .i64 0]) ∧ Below w.heap.size w w' := by
  have h := cText (size : Int) (some ⟨H, 0, none⟩) c (List.replicate c (leaf : Int)) w (by rw [List.length_replicate]; have := hc.le; omega) (by rw [List.length_replicate]; exact Nat.le_refl _) hi
  rw [List.length_replicate] at h
  refine h.mono ?_
  have ht := hv_text size d (by omega)
  rw [hd] at ht
  rintro e w' ⟨hb, h | ⟨_, t, ht2, rfl, _⟩⟩
  · exact absurd (codeX_some (sizeB_nat hs0 hs) ht) h.1
  · rw [Int.toNat_natCast, ht] at ht2
    cases ht2
    exact ⟨rfl, hb⟩
theorem cRepeatH (leaf c : Nat) (w : World) (hc : Two c) :
    Calls Try.prog 52 #[.slice (some ⟨w.heap.size, 0, none⟩) 1 1, .int .i64 (c : Int)] (w.alloc (.cells #[.int .i64 (leaf : Int)] 3)) fun e w' => ∃ H, e = .returned (.slice (some ⟨H, 0, none⟩) c c) ∧ IntsAt w' (some ⟨H, 0, none⟩) (List.replicate c (leaf : Int)) ∧ Below w.heap.size w w' := by
  have hn := World.alloc_heap_new w (.cells #[.int .i64 (leaf : Int)] 3)
  refine (cRepeat w.heap.size 1 c leaf _ hc (cell_of_heap hn 0) (by simp)).mono ?_
  rintro e w' ⟨H, rfl, hi, hb⟩
  have hb1 := box_below w (.cells #[.int .i64 (leaf : Int)] 3)
  exact ⟨H, rfl, hi, hb1.trans (hb.mono hb1.size)⟩

set_option maxHeartbeats 3200000 in
theorem cWholeB (size d : Nat) (w : World) (hs0 : 1 ≤ size) (hs : size ≤ 1024) :
    Calls Try.prog 28 #[.int .i64 size, .int .i64 d] w fun e w' => e = .returned (.string (bs (wh 4 size d))) ∧ Below w.heap.size w w' := by
  have HZ := Lib.hid (Halved.zero (d := d) hs)
  go_enter Try.func28, Try.ntmps28
  go_wp2
  go_loopg [5, 6, 7] 4 (fun gk lf ct dp wr => ∃ j leaf c : Nat, gk + j = 4 ∧ lf = .int .i64 leaf ∧ ct = .int .i64 c ∧ dp = .int .i64 j ∧ Hid (Halved size d j leaf c) ∧ w = wr)
  case atStart => exact ⟨0, size, 1, rfl, rfl, rfl, rfl, HZ, rfl⟩
  case round =>
    obtain ⟨j, leaf, c, hgk, rfl, rfl, rfl, HH, rfl⟩ := hrel
    have HGK := Lib.hid hgk
    have hj4 : j ≤ 4 := by omega
    have hl := HH.out.hl
    have hc := HH.out.two.le
    have hjd := HH.out.hj
    have HK : Hid (4 - (j : Int) = ((4 - j : Nat) : Int)) := by show _ = _; omega
    have HM := Lib.hid (cMay (4 - j) leaf w (by omega) hl)
    clear hgk
    by_cases hlt : j < d
    · cases hm : may (4 - j) leaf with
      | true =>
        have HN := Lib.hid (HH.out.next hlt hm)
        have hg0 := (may_of hm).1
        have HG0 := Lib.hid hg0
        rw [hm] at HM
        have hw2 : IntKind.i64.wrap (2 * (c : Int)) = ((2 * c : Nat) : Int) := by rw [IntWalk.i64_in _ (by omega)]; omega
        have HQ : Hid ((leaf : Int) / 2 = ((leaf / 2 : Nat) : Int)) := by show _ = _; omega
        clear hm hg0
        go_wp2_with fail
        rw [HK.out]
        refine HM.out.mono ?_
        rintro e w1 ⟨rfl, rfl⟩
        go_wp2
        go_roundg (gk - 1)
        case rel => exact ⟨j + 1, leaf / 2, 2 * c, by have := HGK.out; have := HG0.out; omega, by rw [HQ.out], rfl, by go_num, HN.out, rfl⟩
        case measure => have := HGK.out; have := HG0.out; omega
      | false =>
        have HD := Lib.hid (HH.out.done (.inr hm))
        have HC2 := Lib.hid HH.out.two
        rw [hm] at HM
        clear hm
        go_wp2_with fail
        rw [HK.out]
        refine HM.out.mono ?_
        rintro e w1 ⟨rfl, rfl⟩
        have HRP := Lib.hid (cRepeatH leaf c w HC2.out)
        go_wp2_with fail
        refine HRP.out.mono ?_
        rintro e w2 ⟨H, rfl, hi, hb⟩
        have HB := Lib.hid hb
        have HTX := Lib.hid (cTextH size d leaf c H w2 hs0 hs HD.out HC2.out hi)
        clear hi hb
        go_wp2_with fail
        refine HTX.out.mono ?_
        rintro e w3 ⟨rfl, hb3⟩
        have HB3 := Lib.hid (HB.out.trans (hb3.mono HB.out.size))
        clear hb3
        go_wp2
        go_ret
        exact ⟨rfl, HB3.out⟩
    · have HD := Lib.hid (HH.out.done (.inl (by omega)))
      have HC2 := Lib.hid HH.out.two
      have HRP := Lib.hid (cRepeatH leaf c w HC2.out)
      go_wp2_with fail
      refine HRP.out.mono ?_
      rintro e w2 ⟨H, rfl, hi, hb⟩
      have HB := Lib.hid hb
      have HTX := Lib.hid (cTextH size d leaf c H w2 hs0 hs HD.out HC2.out hi)
      clear hi hb
      go_wp2_with fail
      refine HTX.out.mono ?_
      rintro e w3 ⟨rfl, hb3⟩
      have HB3 := Lib.hid (HB.out.trans (hb3.mono HB.out.size))
      clear hb3
      go_wp2
      go_ret
      exact ⟨rfl, HB3.out⟩
end Go.Proofs.Ytmgckfkdbepkdaa
