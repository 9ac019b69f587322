import Derived.Test.YtnfpkjnllkkngaaGreatDoorFxLatC1
import Derived.RangeFuncRecord

section
namespace Go.Proofs.YtnfpkjnllkkngaaGreatDoor.Fx
open Go.RowKit Go.Proofs Go.Proofs.PipeA Go.Proofs.LatM
set_option maxRecDepth 100000

end Go.Proofs.YtnfpkjnllkkngaaGreatDoor.Fx
end

section
namespace Go.Proofs.YtnfpkjnllkkngaaGreatDoor.Fx
open Go.RowKit Go.Proofs Go.Proofs.PipeA Go.Proofs.LatM
set_option maxRecDepth 100000

theorem getD_at {l : List Int} {j : Nat} (h : j < l.length) : l.getD j 0 = l[j] := by rw [List.getD, List.getElem?_eq_getElem h]; rfl

/-- Coefficients and past samples whose prediction does not overflow. -/
structure TameP (c p : List Int) : Prop where
  cl : c.length ≤ 17
  pl : p.length ≤ 100000000
  m : ∀ x ∈ c, ∀ y ∈ p, -72057594037927936 ≤ x * y ∧ x * y ≤ 72057594037927936
theorem TameP.sum {c p : List Int} (h : TameP c p) {j : Nat} (hj : j ≤ 17) : -1224979098644774912 ≤ psum c p j ∧ psum c p j ≤ 1224979098644774912 := by
  have := psum_boundP h.m j
  omega
set_option maxHeartbeats 1600000 in
theorem cPredictP (ao bo : Option Addr) (cap cap2 : Nat) (c p : List Int) (w : World) (ht : TameP c p) (hi : IntsAt w ao c) (hj : IntsAt w bo p) :
    Calls Tryz.prog 111 #[.slice ao c.length cap, .slice bo p.length cap2] w fun e w' => e = .returned (.int .i64 (pred c p)) ∧ ∃ k, w' = w.drewN k := by
  obtain ⟨M, hM⟩ : ∃ M, M = min c.length p.length := ⟨_, rfl⟩
  have hcl := ht.cl
  have hpl := ht.pl
  have HPR : Hid (pred c p = -(rnd (psum c p M))) := by show _ = _; rw [hM]; rfl
  have HT := Lib.hid ht
  have HI := Lib.hid hi
  have HJ := Lib.hid hj
  have HRD := fun p W h0 h1 => Lib.hid (cRound p W h0 h1)
  clear ht hi hj
  rcases Nat.lt_or_ge p.length c.length with hcp | hcp
  all_goals
    have hM0 : M ≤ c.length := by omega
    have hM1 : M ≤ p.length := by omega
    first | (have hM2 : c.length ≤ M := by omega) | (have hM2 : p.length ≤ M := by omega)
    clear hM
    go_enter Tryz.func111, Tryz.ntmps111
    go_wp2
    go_loopg [5, 6, 12] M (fun gk s q i wr => ∃ (j d : Nat), j ≤ M ∧ gk + j = M ∧ i = .int .i64 j ∧ s = .int .i64 (psum c p j) ∧ Hid (wr = w.drewN d))
    case atStart => exact ⟨0, 0, Nat.zero_le _, by omega, rfl, rfl, rfl⟩
    case round =>
      obtain ⟨j, d, hjM, hgk, rfl, rfl, HW⟩ := hrel
      have HGK := Lib.hid hgk
      have hs := HT.out.sum (show j ≤ 17 by omega)
      clear hgk
      by_cases hlt : j < M
      · obtain ⟨g, off, rfl, hg, hcell⟩ := HI.out j (by omega)
        obtain ⟨g2, off2, rfl, hg2, hcell2⟩ := HJ.out (p.length - 1 - j) (by omega)
        have hxy := HT.out.m _ (List.getElem_mem (show j < c.length by omega)) _ (List.getElem_mem (show p.length - 1 - j < p.length by omega))
        have HS : Hid (psum c p (j + 1) = psum c p j + c[j] * p[p.length - 1 - j]) := by show _ = _; rw [psum, getD_at (show j < c.length by omega), getD_at (show p.length - 1 - j < p.length by omega)]
        have hq : (p.length : Int) - 1 - (j : Int) = ((p.length - 1 - j : Nat) : Int) := by omega
        have hq2 : p.length - 1 - j < p.length := by omega
        generalize c[j] = x at hcell hxy HS
        generalize p[p.length - 1 - j] = y at hcell2 hxy HS
        generalize p.length - 1 - j = q at hcell2 hq hq2
        generalize psum c p j = S at hs HS
        have k1 : wr.cell? ⟨g, off + j, none⟩ = some (.int .i64 x) := by rw [HW.out]; exact hcell
        have k2 : wr.cell? ⟨g2, off2 + q, none⟩ = some (.int .i64 y) := by rw [HW.out]; exact hcell2
        clear hg hg2 hcell hcell2
        go_wp2
        go_quiet (fail)
        go_wp2
        go_roundg (gk - 1)
        case rel => exact ⟨j + 1, _, by omega, by have := HGK.out; omega, by go_num, by rw [HS.out], by show _ = _; rw [HW.out]; exact World.drewN_drewN _ _ _⟩
        case measure => have := HGK.out; omega
      · obtain rfl : j = M := by omega
        have hR := fun W => HRD (psum c p j) W (by omega) (by omega)
        have hr : -1000000000000000 ≤ rnd (psum c p j) ∧ rnd (psum c p j) ≤ 1000000000000000 := by unfold rnd; omega
        generalize psum c p j = S at *
        generalize rnd S = r at *
        go_wp2_with fail
        refine (hR _).out.mono ?_
        rintro e w1 ⟨rfl, rfl⟩
        go_wp2
        go_ret
        exact ⟨by rw [HPR.out]; go_num, _, HW.out⟩

set_option maxHeartbeats 1600000 in
theorem rPredictP (ao bo : Option Addr) (cap cap2 : Nat) (c p : List Int) (w : World) (ht : TameP c p) (hi : IntsAt w ao c) (hj : IntsAt w bo p) :
    Calls Tryz.prog 79 #[.slice ao c.length cap, .slice bo p.length cap2] w fun e w' => e = .returned (.int .i64 (pred c p)) ∧ ∃ k, w' = w.drewN k := by
  have hcl := ht.cl
  have hpl := ht.pl
  have HPR : Hid (pred c p = -(rnd (psum c p (min c.length p.length)))) := rfl
  have HT := Lib.hid ht
  have HI := Lib.hid hi
  have HJ := Lib.hid hj
  have HRD := fun p W h0 h1 => Lib.hid (rRound p W h0 h1)
  clear ht hi hj
  go_enter Tryz.func79, Tryz.ntmps79
  go_wp2
  go_loopg [5, 6, 9] c.length (fun gk s q i wr => ∃ (j d : Nat), j ≤ c.length ∧ gk + j = c.length ∧ i = .int .i64 j ∧ s = .int .i64 (psum c p (min j p.length)) ∧ Hid (wr = w.drewN d))
  case atStart => exact ⟨0, 0, Nat.zero_le _, by omega, rfl, by simp [psum], rfl⟩
  case round =>
    obtain ⟨j, d, hjM, hgk, rfl, rfl, HW⟩ := hrel
    have HGK := Lib.hid hgk
    clear hgk
    by_cases hlt : j < c.length
    · by_cases hlp : j < p.length
      · have hs := HT.out.sum (show j ≤ 17 by omega)
        rw [show min j p.length = j by omega]
        obtain ⟨g, off, rfl, hg, hcell⟩ := HI.out j (by omega)
        obtain ⟨g2, off2, rfl, hg2, hcell2⟩ := HJ.out (p.length - 1 - j) (by omega)
        have hxy := HT.out.m _ (List.getElem_mem (show j < c.length by omega)) _ (List.getElem_mem (show p.length - 1 - j < p.length by omega))
        have HS : Hid (psum c p (min (j + 1) p.length) = psum c p j + c[j] * p[p.length - 1 - j]) := by show _ = _; rw [show min (j + 1) p.length = j + 1 by omega, psum, getD_at (show j < c.length by omega), getD_at (show p.length - 1 - j < p.length by omega)]
        have hq : (p.length : Int) - 1 - (j : Int) = ((p.length - 1 - j : Nat) : Int) := by omega
        have hq2 : p.length - 1 - j < p.length := by omega
        generalize c[j] = x at hcell hxy HS
        generalize p[p.length - 1 - j] = y at hcell2 hxy HS
        generalize p.length - 1 - j = q at hcell2 hq hq2
        generalize psum c p j = S at hs HS
        have k1 : wr.cell? ⟨g, off + j, none⟩ = some (.int .i64 x) := by rw [HW.out]; exact hcell
        have k2 : wr.cell? ⟨g2, off2 + q, none⟩ = some (.int .i64 y) := by rw [HW.out]; exact hcell2
        clear hg hg2 hcell hcell2
        go_wp2
        go_quiet (fail)
        go_wp2
        go_roundg (gk - 1)
        case rel => exact ⟨j + 1, _, by omega, by have := HGK.out; omega, by go_num, by rw [HS.out], by show _ = _; rw [HW.out]; exact World.drewN_drewN _ _ _⟩
        case measure => have := HGK.out; omega
      · have HS : Hid (psum c p (min (j + 1) p.length) = psum c p (min j p.length)) := by show _ = _; rw [show min (j + 1) p.length = min j p.length by omega]
        generalize psum c p (min j p.length) = S at HS
        go_wp2
        go_roundg (gk - 1)
        case rel => exact ⟨j + 1, d, by omega, by have := HGK.out; omega, by go_num, by rw [HS.out], HW⟩
        case measure => have := HGK.out; omega
    · obtain rfl : j = c.length := by omega
      have hs := HT.out.sum (show min c.length p.length ≤ 17 by omega)
      have hR := fun W => HRD (psum c p (min c.length p.length)) W (by omega) (by omega)
      have hr : -1000000000000000 ≤ rnd (psum c p (min c.length p.length)) ∧ rnd (psum c p (min c.length p.length)) ≤ 1000000000000000 := by unfold rnd; omega
      generalize psum c p (min c.length p.length) = S at *
      generalize rnd S = r at *
      go_wp2_with fail
      refine (hR _).out.mono ?_
      rintro e w1 ⟨rfl, rfl⟩
      go_wp2
      go_ret
      exact ⟨by rw [HPR.out]; go_num, _, HW.out⟩

/-- A row of cells that may be written. -/
def KeysAt (W : World) (H m : Nat) (f : Nat → Value) : Prop := ∀ j, j < m → W.cell? ⟨H, j, none⟩ = some (f j) ∧ W.frozen? ⟨H, j, none⟩ = false
theorem KeysAt.keeps {W W' : World} {H m : Nat} {f : Nat → Value} {bs : List Nat} (h : KeysAt W H m f) (hk : Keeps bs W W') (hn : H ∉ bs) (hlt : H < W.heap.size) : KeysAt W' H m f :=
  fun j hj => ⟨(hk.cell (p := ⟨H, j, none⟩) hlt hn).trans (h j hj).1, (hk.frozen (p := ⟨H, j, none⟩) hlt hn).trans (h j hj).2⟩
theorem KeysAt.set {W : World} {H m x : Nat} {f : Nat → Value} (h : KeysAt W H m f) (hx : x < m) (v : Value) : KeysAt (W.setCell ⟨H, x, none⟩ v) H m (fun j => if j = x then v else f j) := by
  intro j hj
  rw [World.frozen?_setCell]
  by_cases e : j = x
  · subst e
    rw [World.cell?_setCell_same' _ _ _ (by rw [(h j hj).1]; rfl)]
    exact ⟨by simp, (h j hj).2⟩
  · rw [World.cell?_setCell_other _ _ _ _ (by intro e2; cases e2; exact e rfl)]
    simp only [if_neg e]
    exact h j hj
theorem KeysAt.congr {W : World} {H m : Nat} {f g : Nat → Value} (h : KeysAt W H m f) (he : ∀ j, j < m → g j = f j) : KeysAt W H m g :=
  fun j hj => by rw [he j hj]; exact h j hj
/-- A row that fills. -/
def fillV (l : List Int) (j : Nat) (t : Nat) : Value := .int .i64 (if t < j then l.getD t 0 else 0)
theorem keys_new {w : World} {cs : Array Value} {m : Nat} (l : List Int) (h : ∀ j, j < m → cs[j]? = some (.int .i64 0)) : KeysAt (w.alloc (.cells cs 3)) w.heap.size m (fillV l 0) := by
  intro j hj
  have hn := World.alloc_heap_new w (.cells cs 3)
  rw [cell_of_heap hn, frozen_of_heap hn, h j hj]
  exact ⟨by simp [fillV], rfl⟩
theorem keys_step {W : World} {H m j : Nat} {l : List Int} {v : Int} (h : KeysAt W H m (fillV l j)) (hj : j < m) (hv : v = l.getD j 0) : KeysAt (W.setCell ⟨H, j, none⟩ (.int .i64 v)) H m (fillV l (j + 1)) := by
  refine (h.set hj _).congr fun t _ => ?_
  unfold fillV
  by_cases e : t = j
  · subst e
    rw [if_pos (by omega), if_pos rfl, hv]
  · rw [if_neg e]
    by_cases h1 : t < j
    · rw [if_pos h1, if_pos (by omega)]
    · rw [if_neg h1, if_neg (by omega)]
theorem keys_ints {W : World} {H m j : Nat} {l : List Int} (h : KeysAt W H m (fillV l j)) (hl : l.length = m) (hj : j = m) (hH : H < W.heap.size) : IntsAt W (some ⟨H, 0, none⟩) l := by
  intro t ht
  refine ⟨H, 0, rfl, hH, ?_⟩
  rw [Nat.zero_add, (h t (by omega)).1]
  unfold fillV
  rw [if_pos (by omega), getD_at ht]

/-- Numbers in new memory. -/
def NewIs (l : List Int) (w : World) (e : Ending) (w' : World) : Prop :=
  ∃ H, e = .returned (.slice (some ⟨H, 0, none⟩) l.length l.length) ∧ IntsAt w' (some ⟨H, 0, none⟩) l ∧ w.heap.size ≤ H ∧ H < w'.heap.size ∧ Below w.heap.size w w'

theorem stp_at {a : List Int} {k : Int} {j : Nat} (h : j < a.length) : (stp a k).getD j 0 = a[j] + rnd (k * a[a.length - 1 - j]'(by omega)) := by
  rw [getD_at (by rw [stp_length]; omega)]
  unfold stp
  rw [List.getElem_append_left (by simpa using h)]
  simp only [List.getElem_map, List.getElem_range]
  rw [getD_at h, getD_at (by omega)]
theorem stp_last (a : List Int) (k : Int) : (stp a k).getD a.length 0 = k := by
  rw [getD_at (by rw [stp_length]; omega)]
  unfold stp
  rw [List.getElem_append_right (by simp)]
  simp
theorem mul_k {k y : Int} (h1 : -16384 ≤ k ∧ k ≤ 16384) (h2 : -1073741824 ≤ y ∧ y ≤ 1073741824) : -17592186044416 ≤ k * y ∧ k * y ≤ 17592186044416 := by
  by_cases h : 0 ≤ y
  · have e1 : k * y ≤ 16384 * y := Int.mul_le_mul_of_nonneg_right h1.2 h
    have e2 : (-k) * y ≤ 16384 * y := Int.mul_le_mul_of_nonneg_right (by omega) h
    rw [Int.neg_mul] at e2
    omega
  · have e1 : k * (-y) ≤ 16384 * (-y) := Int.mul_le_mul_of_nonneg_right h1.2 (by omega)
    have e2 : (-k) * (-y) ≤ 16384 * (-y) := Int.mul_le_mul_of_nonneg_right (by omega) (by omega)
    rw [Int.mul_neg] at e1
    rw [Int.neg_mul_neg] at e2
    omega

set_option maxHeartbeats 1600000 in
theorem cBehind (ao : Option Addr) (cap : Nat) (c : List Int) (k : Int) (w : World) (hc : c.length ≤ 16) (hb : ∀ x ∈ c, -1073741824 ≤ x ∧ x ≤ 1073741824) (hk : -16384 ≤ k ∧ k ≤ 16384) (hi : IntsAt w ao c) :
    Calls Tryz.prog 110 #[.slice ao c.length cap, .int .i64 k] w (NewIs (stp c k) w) := by
  obtain ⟨cs, hcs, hmk0⟩ := makeInts (c.length + 1) (by omega)
  have hmk : ∀ W, (Instr.makeSlice 22 (.int .i64 ((c.length : Int) + 1)) (.int .i64 ((c.length : Int) + 1))).run Tryz.prog W = .ok (.slice (some ⟨W.heap.size, 0, none⟩) (c.length + 1) (c.length + 1)) (W.alloc (.cells cs 3)) := by
    intro W; have := hmk0 W; simpa using this
  clear hmk0
  have HI := Lib.hid hi
  have HBD := Lib.hid hb
  have HRD := fun p W h0 h1 => Lib.hid (cRound p W h0 h1)
  have HK := Lib.hid (keys_new (w := w) (stp c k) hcs)
  have HB := Lib.hid (box_below w (.cells cs 3))
  clear hi hb hcs
  go_enter Tryz.func110, Tryz.ntmps110
  go_wp2
  go_loopg [7, 8, 16] c.length (fun gk q1 q2 i wr => ∃ j : Nat, j ≤ c.length ∧ gk + j = c.length ∧ i = .int .i64 j ∧ Hid (KeysAt wr w.heap.size (c.length + 1) (fillV (stp c k) j)) ∧ Hid (Below w.heap.size w wr) ∧ w.heap.size < wr.heap.size)
  case atStart => exact ⟨0, Nat.zero_le _, by omega, rfl, HK, HB, by simp⟩
  case round =>
    obtain ⟨j, hjc, hgk, rfl, HKA, HW, hsz⟩ := hrel
    have HGK := Lib.hid hgk
    clear hgk
    by_cases hlt : j < c.length
    · obtain ⟨g, off, rfl, hg, hcell⟩ := (HI.out.below HW.out) j hlt
      obtain ⟨g2, off2, he2, hg2, hcell2⟩ := (HI.out.below HW.out) (c.length - 1 - j) (by omega)
      simp only [Option.some.injEq, Addr.mk.injEq, and_true] at he2
      obtain ⟨rfl, rfl⟩ := he2
      have hx := HBD.out _ (List.getElem_mem (show j < c.length by omega))
      have hy := HBD.out _ (List.getElem_mem (show c.length - 1 - j < c.length by omega))
      have HS := Lib.hid (stp_at (k := k) hlt)
      have hq : (c.length : Int) - 1 - (j : Int) = ((c.length - 1 - j : Nat) : Int) := by omega
      have hq2 : c.length - 1 - j < c.length := by omega
      generalize c[c.length - 1 - j] = y at hcell2 hy HS
      generalize c[j] = x at hcell hx HS
      generalize c.length - 1 - j = q at hcell2 hq hq2
      have hky := mul_k hk hy
      have hR := fun W => HRD (k * y) W (by omega) (by omega)
      have hr : -2000000000 ≤ rnd (k * y) ∧ rnd (k * y) ≤ 2000000000 := by unfold rnd; omega
      generalize rnd (k * y) = r at hR hr HS
      obtain ⟨kc, kf⟩ := HKA.out j (by omega)
      clear hg hg2
      go_wp2_with fail
      refine (hR _).out.mono ?_
      rintro e w1 ⟨rfl, rfl⟩
      go_wp2
      go_roundg (gk - 1)
      case rel => exact ⟨j + 1, by omega, by have := HGK.out; omega, by go_num, keys_step HKA.out (by omega) HS.out.symm, HW.out.setCell (p := ⟨w.heap.size, j, none⟩) (Nat.le_refl _) _, by simpa using hsz⟩
      case measure => have := HGK.out; omega
    · obtain rfl : j = c.length := by omega
      obtain ⟨kc, kf⟩ := HKA.out c.length (by omega)
      have HF : Hid (NewIs (stp c k) w (.returned (.slice (some ⟨w.heap.size, 0, none⟩) (c.length + 1) (c.length + 1))) (wr.setCell ⟨w.heap.size, c.length, none⟩ (.int .i64 k))) :=
        ⟨w.heap.size, by rw [stp_length], keys_ints (keys_step HKA.out (by omega) (stp_last c k).symm) (stp_length c k) rfl (by simpa using hsz), Nat.le_refl _, by simpa using hsz, HW.out.setCell (p := ⟨w.heap.size, c.length, none⟩) (Nat.le_refl _) _⟩
      go_wp2
      go_ret
      exact HF.out
end Go.Proofs.YtnfpkjnllkkngaaGreatDoor.Fx
end
