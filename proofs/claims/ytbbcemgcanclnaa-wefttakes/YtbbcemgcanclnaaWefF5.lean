import Derived.Test.YtbbcemgcanclnaaWefF4
import Derived.Test.YtbbcemgcanclnaaSumR9
namespace Go.Proofs.Ytbbcemgcanclnaa
open Go.RowKit Go.Proofs Go.Proofs.PipeM Go.Proofs.PipeA Go.Proofs.WefM
set_option maxRecDepth 100000

/-- Three numbers in a box. -/
structure Box3 (W : World) (B : Nat) (a b c : Int) : Prop where
  lt : B < W.heap.size
  c0 : W.cell? ⟨B, 0, none⟩ = some (.int .i64 a)
  c1 : W.cell? ⟨B, 1, none⟩ = some (.int .i64 b)
  c2 : W.cell? ⟨B, 2, none⟩ = some (.int .i64 c)
  f0 : W.frozen? ⟨B, 0, none⟩ = false
  f1 : W.frozen? ⟨B, 1, none⟩ = false
  f2 : W.frozen? ⟨B, 2, none⟩ = false
theorem Box3.keeps {W W' : World} {B : Nat} {a b c : Int} {bs : List Nat} (h : Box3 W B a b c) (hk : Keeps bs W W') (hb : B ∉ bs) : Box3 W' B a b c :=
  ⟨Nat.lt_of_lt_of_le h.lt hk.size, (hk.cell (p := ⟨B, 0, none⟩) h.lt hb).trans h.c0, (hk.cell (p := ⟨B, 1, none⟩) h.lt hb).trans h.c1, (hk.cell (p := ⟨B, 2, none⟩) h.lt hb).trans h.c2, (hk.frozen (p := ⟨B, 0, none⟩) h.lt hb).trans h.f0, (hk.frozen (p := ⟨B, 1, none⟩) h.lt hb).trans h.f1, (hk.frozen (p := ⟨B, 2, none⟩) h.lt hb).trans h.f2⟩
theorem Box3.below {W W' : World} {B : Nat} {a b c : Int} (h : Box3 W B a b c) (hb : Below W.heap.size W W') : Box3 W' B a b c := h.keeps (keeps_of_below hb []) (by simp)
def set3 (W : World) (B : Nat) (a b c : Int) : World := ((W.setCell ⟨B, 0, none⟩ (.int .i64 a)).setCell ⟨B, 1, none⟩ (.int .i64 b)).setCell ⟨B, 2, none⟩ (.int .i64 c)
theorem Box3.set {W : World} {B : Nat} {a b c : Int} (h : Box3 W B a b c) (a' b' c' : Int) : Box3 (set3 W B a' b' c') B a' b' c' ∧ Keeps [B] W (set3 W B a' b' c') := by
  unfold set3
  refine ⟨⟨by simpa using h.lt, ?_, ?_, ?_, ?_, ?_, ?_⟩, ((keeps_setCell W B 0 _).trans (keeps_setCell _ B 1 _)).trans (keeps_setCell _ B 2 _)⟩
  · rw [World.cell?_setCell_other _ _ _ _ (by simp), World.cell?_setCell_other _ _ _ _ (by simp)]
    exact World.cell?_setCell_same' _ _ _ (by rw [h.c0]; rfl)
  · rw [World.cell?_setCell_other _ _ _ _ (by simp)]
    exact World.cell?_setCell_same' _ _ _ (by rw [World.cell?_setCell_other _ _ _ _ (by simp), h.c1]; rfl)
  · exact World.cell?_setCell_same' _ _ _ (by rw [World.cell?_setCell_other _ _ _ _ (by simp), World.cell?_setCell_other _ _ _ _ (by simp), h.c2]; rfl)
  · rw [World.frozen?_setCell, World.frozen?_setCell, World.frozen?_setCell]; exact h.f0
  · rw [World.frozen?_setCell, World.frozen?_setCell, World.frozen?_setCell]; exact h.f1
  · rw [World.frozen?_setCell, World.frozen?_setCell, World.frozen?_setCell]; exact h.f2
theorem box3_new (w : World) (a b c : Int) (t : TypeId) : Box3 (w.alloc (.cells #[.int .i64 a, .int .i64 b, .int .i64 c] t)) w.heap.size a b c := by
  have h := heap_alloc_new w (.cells #[.int .i64 a, .int .i64 b, .int .i64 c] t)
  exact ⟨(Array.getElem?_eq_some_iff.1 h).1, cell_of_heap h 0, cell_of_heap h 1, cell_of_heap h 2, frozen_of_heap h _, frozen_of_heap h _, frozen_of_heap h _⟩
theorem rest_gain {own m : List Int} (h : codeRest ⟨false, 0, 0, 0, 0⟩ own m = 0) {g : Nat} (h1 : 1 ≤ g) (h2 : g ≤ 15) : codeRest (gainW g) own m = 0 := by
  obtain ⟨_, a, b, c⟩ := codeRest_zero h
  unfold codeRest
  rw [if_pos (good_gain h1 h2), if_pos a, b, c]; rfl
theorem rest_bounds {x : Wv} {own m : List Int} (hg : goodW x 8 = true) (ho : own.all inS = true) (hm : m.all inS = true) : ∀ y ∈ restL x own m, -1000000000000000 ≤ y ∧ y ≤ 1000000000000000 := by
  intro y hy
  obtain ⟨i, hi, rfl⟩ := List.mem_iff_getElem.1 hy
  have hi' : i < own.length := by rw [restL_length] at hi; exact hi
  rw [restL_at hi']
  have a := get_S ho i
  have b := fore_bound hg hm i
  omega

set_option maxHeartbeats 3200000 in
theorem rBestW (ao bo : Option Addr) (cap cap2 : Nat) (own m : List Int) (w : World) (hl : own.length ≤ 1000) (hi : IntsAt w ao own) (hj : IntsAt w bo m) (hc : codeRest ⟨false, 0, 0, 0, 0⟩ own m = 0) :
    Calls Try.prog 21 #[.slice ao own.length cap, .slice bo m.length cap2] w fun e w' => e = .returned (.agg #[.int .i64 0, .int .i64 (bestTo own m 15 : Nat), .int .i64 0]) ∧ Below w.heap.size w w' := by
  have hz := codeRest_zero hc
  have hb1 := box_below w (.cells #[.int .i64 0, .int .i64 0, .int .i64 0] 22)
  have hB1 := box3_new w 0 0 0 22
  have hb2 := box_below (w.alloc (.cells #[.int .i64 0, .int .i64 0, .int .i64 0] 22)) (.cells #[.int .i64 0, .int .i64 0, .int .i64 0] 22)
  have hB2 := box3_new (w.alloc (.cells #[.int .i64 0, .int .i64 0, .int .i64 0] 22)) 0 0 0 22
  have hB12 := hB1.below hb2
  have hz1 : (w.alloc (.cells #[.int .i64 0, .int .i64 0, .int .i64 0] 22)).heap.size = w.heap.size + 1 := by simp
  rw [hz1] at hB2
  have hbw := hb1.trans (hb2.mono (by simp))
  obtain ⟨W0, hW0⟩ : ∃ W0, W0 = (w.alloc (.cells #[.int .i64 0, .int .i64 0, .int .i64 0] 22)).alloc (.cells #[.int .i64 0, .int .i64 0, .int .i64 0] 22) := ⟨_, rfl⟩
  rw [← hW0] at hB2 hB12 hbw
  have hi0 := hi.below hbw
  have hj0 := hj.below hbw
  have HSZ : Hid (w.heap.size + 1 < W0.heap.size) := hB2.lt
  have HIW : Hid (∀ W, Below w.heap.size w W → IntsAt W ao own) := fun W hb => hi.below hb
  have HJW : Hid (∀ W, Below w.heap.size w W → IntsAt W bo m) := fun W hb => hj.below hb
  have HOB : Hid (∀ y ∈ own, -1000000000000000 ≤ y ∧ y ≤ 1000000000000000) := fun y hy => by have := all_S hz.2.2.1 y hy; omega
  have HSO := Lib.hid (rSum ao cap own W0 hl HOB.out hi0)
  have HRE : Hid (∀ g W, 1 ≤ g → g ≤ 15 → Below w.heap.size w W → Calls Try.prog 10 #[.agg #[.bool true, .int .i64 0, .int .i64 0, .int .i64 (g : Nat), .int .i64 0], .slice ao own.length cap, .slice bo m.length cap2] W fun e w' => ∃ ro rc, e = .returned (.tuple #[.slice ro own.length rc, .int .i64 0]) ∧ IntsAt w' ro (restL (gainW g) own m) ∧ Below W.heap.size W w') := fun g W h1 h2 hb => by
    have := rRestW (gainW g) ao bo cap cap2 own m W (by omega) (by omega) (HIW.out W hb) (HJW.out W hb)
    refine this.mono ?_
    rintro e w' (⟨hne, _⟩ | ⟨_, ro, rc, rfl, h3, _, _, h4⟩)
    · exact absurd (rest_gain hc h1 h2) hne
    · rw [restL_length]; exact ⟨ro, rc, rfl, h3, h4⟩
  have HSU : Hid (∀ g W ro rc, 1 ≤ g → g ≤ 15 → IntsAt W ro (restL (gainW g) own m) → Calls Try.prog 22 #[.slice ro own.length rc] W fun e w' => e = .returned (.int .i64 (sumG own m g : Nat)) ∧ W = w') := fun g W ro rc h1 h2 h => by
    have := rSum ro rc (restL (gainW g) own m) W (by rw [restL_length]; exact hl) (rest_bounds (good_gain h1 h2) hz.2.2.1 hz.2.2.2) h
    rw [restL_length] at this
    exact this
  have HS0 : Hid (sumN own = sumG own m (bestTo own m 0)) := (sumG_zero own m).symm
  have HST : Hid (∀ c, bestTo own m (c + 1) = if sumG own m (c + 1) < sumG own m (bestTo own m c) then c + 1 else bestTo own m c) := fun c => rfl
  have HB1 := Lib.hid hB12
  have HB2 := Lib.hid hB2
  have HBW := Lib.hid hbw
  have HW0 := Lib.hid hW0
  have HBL : Hid (∀ c, c ≤ 15 → bestTo own m c ≤ 15) := fun c h => Nat.le_trans (bestTo_le own m c) h
  generalize hml : m.length = ml at *
  clear hi hj hi0 hj0 hc hz hb1 hb2 hB1 hB2 hB12 hbw hW0 hml
  go_enter Try.func21, Try.ntmps21
  go_wp2_with fail
  rw [← HW0.out]
  refine HSO.out.mono ?_
  rintro e w1 ⟨rfl, rfl⟩
  go_wp2
  rw [HS0.out]
  go_loopg [6, 7, 8, 9, 10, 11] 15 (fun gk s g q1 q2 q3 q4 wr => ∃ c : Nat, c ≤ 15 ∧ gk + c = 15 ∧ g = .int .i64 ((c + 1 : Nat) : Int) ∧ s = .int .i64 (sumG own m (bestTo own m c) : Nat) ∧ Hid (Box3 wr (w.heap.size + 1) 0 (bestTo own m c : Nat) 0) ∧ Hid (Box3 wr w.heap.size 0 0 0) ∧ Hid (Below w.heap.size w wr))
  case atStart => exact ⟨0, by omega, by omega, rfl, rfl, HB2, HB1, HBW⟩
  case round =>
    obtain ⟨c, hc, hgk, rfl, rfl, HX, HY, HB⟩ := hrel
    have HGK := Lib.hid hgk
    clear hgk
    by_cases hlt : c < 15
    · have t1 : decide (((c + 1 : Nat) : Int) ≤ 15) = true := decide_eq_true (by omega)
      obtain ⟨d, hd⟩ : ∃ d, d = c + 1 := ⟨_, rfl⟩
      have hd1 : 1 ≤ d := by omega
      have hd2 : d ≤ 15 := by omega
      have HSTc := Lib.hid (HST.out c)
      have HD := Lib.hid hd
      rw [← hd] at t1 HSTc ⊢
      have hbx := box_below wr (.cells #[.bool true, .int .i64 0, .int .i64 0, .int .i64 d, .int .i64 0] 24)
      have hnx := heap_alloc_new wr (.cells #[.bool true, .int .i64 0, .int .i64 0, .int .i64 d, .int .i64 0] 24)
      have HR1 := Lib.hid (HRE.out d (wr.alloc (.cells #[.bool true, .int .i64 0, .int .i64 0, .int .i64 d, .int .i64 0] 24)) hd1 hd2 (HB.out.trans (hbx.mono HB.out.size)))
      have HBX := Lib.hid hbx
      have HNX := Lib.hid hnx
      clear hd hbx hnx
      go_wp2_with fail
      refine HR1.out.mono ?_
      rintro e w3 ⟨ro, rc, rfl, hi3, hb3⟩
      have HS3 := Lib.hid (HSU.out d w3 ro rc hd1 hd2 hi3)
      have hlx : wr.heap.size < (wr.alloc (.cells #[.bool true, .int .i64 0, .int .i64 0, .int .i64 d, .int .i64 0] 24)).heap.size := by simp
      have e2 : w3.cell? ⟨wr.heap.size, 2, none⟩ = some (.int .i64 0) := (hb3.cell (p := ⟨wr.heap.size, 2, none⟩) hlx).trans (cell_of_heap HNX.out 2)
      have e3 : w3.cell? ⟨wr.heap.size, 3, none⟩ = some (.int .i64 d) := (hb3.cell (p := ⟨wr.heap.size, 3, none⟩) hlx).trans (cell_of_heap HNX.out 3)
      have e4 : w3.cell? ⟨wr.heap.size, 4, none⟩ = some (.int .i64 0) := (hb3.cell (p := ⟨wr.heap.size, 4, none⟩) hlx).trans (cell_of_heap HNX.out 4)
      have hbr : Below wr.heap.size wr w3 := HBX.out.trans (hb3.mono HBX.out.size)
      have HX3 := Lib.hid (HX.out.below hbr)
      have HY3 := Lib.hid (HY.out.below hbr)
      have HB3 := Lib.hid (HB.out.trans (hbr.mono HB.out.size))
      clear hi3 hb3 hlx hbr HR1 HBX HNX HX HY HB
      go_wp2_with fail
      refine HS3.out.mono ?_
      rintro e w4 ⟨rfl, rfl⟩
      have HWZ := Lib.hid HB3.out.size
      by_cases hlss : sumG own m d < sumG own m (bestTo own m c)
      · have u1 : decide ((sumG own m d : Int) < (sumG own m (bestTo own m c) : Int)) = true := decide_eq_true (by omega)
        have u1n : decide (sumG own m d < sumG own m (bestTo own m c)) = true := decide_eq_true hlss
        have HSTd : Hid (bestTo own m d = d) := by show _ = _; rw [HSTc.out, if_pos hlss]
        obtain ⟨hs1, hk1⟩ := HX3.out.set 0 d 0
        have HXs : Hid (Box3 (set3 w3 (w.heap.size + 1) 0 d 0) (w.heap.size + 1) 0 (bestTo own m d : Nat) 0) := by show Box3 _ _ _ _ _; rw [HSTd.out]; exact hs1
        have HYs := Lib.hid (HY3.out.keeps hk1 (by simp))
        have HBs := Lib.hid (HB3.out.trans (hk1.below HB3.out.size (by intro x hx; simp at hx; omega)))
        have c0 := HX3.out.c0
        have c1 := HX3.out.c1
        have c2 := HX3.out.c2
        have f0 := HX3.out.f0
        have f1 := HX3.out.f1
        have f2 := HX3.out.f2
        unfold set3 at HXs HYs HBs
        clear hs1 hk1 hlss
        go_wp2
        go_roundg (gk - 1)
        case rel => exact ⟨d, by omega, by have := HGK.out; have := HD.out; omega, by go_num, by rw [HSTd.out], HXs, HYs, HBs⟩
        case measure => have := HGK.out; omega
      · have u1 : decide ((sumG own m d : Int) < (sumG own m (bestTo own m c) : Int)) = false := decide_eq_false (by omega)
        have u1n : decide (sumG own m d < sumG own m (bestTo own m c)) = false := decide_eq_false hlss
        have HSTd : Hid (bestTo own m d = bestTo own m c) := by show _ = _; rw [HSTc.out, if_neg hlss]
        have HXs : Hid (Box3 w3 (w.heap.size + 1) 0 (bestTo own m d : Nat) 0) := by show Box3 _ _ _ _ _; rw [HSTd.out]; exact HX3.out
        clear hlss
        go_wp2
        go_roundg (gk - 1)
        case rel => exact ⟨d, by omega, by have := HGK.out; have := HD.out; omega, by go_num, by rw [HSTd.out], HXs, HY3, HB3⟩
        case measure => have := HGK.out; omega
    · obtain rfl : c = 15 := by omega
      have t1 : decide (((15 + 1 : Nat) : Int) ≤ 15) = false := by decide
      generalize hge : bestTo own m 15 = g at *
      have HG := Lib.hid hge
      clear hge
      have c0 := HX.out.c0
      have c1 := HX.out.c1
      have c2 := HX.out.c2
      have d0 := HY.out.c0
      have d1 := HY.out.c1
      have d2 := HY.out.c2
      have f0 := HY.out.f0
      have f1 := HY.out.f1
      have f2 := HY.out.f2
      go_wp2
      obtain ⟨hs1, hk1⟩ := HY.out.set 0 (g : Nat) 0
      unfold set3 at hs1 hk1
      have R0 := hs1.c0
      have R1 := hs1.c1
      have R2 := hs1.c2
      have HBs := Lib.hid (HB.out.trans (hk1.below HB.out.size (by simp)))
      refine bodyPost_ret (v := .agg #[.int .i64 0, .int .i64 (g : Nat), .int .i64 0]) (by simp [results, Try.results21, go_sem, R0, R1, R2]) rfl ?_
      exact ⟨by rw [HG.out], HBs.out⟩
end Go.Proofs.Ytbbcemgcanclnaa
