import Derived.Test.YtbbcemgcanclnaaWefF1
namespace Go.Proofs.Ytbbcemgcanclnaa
open Go.RowKit Go.Proofs Go.Proofs.PipeM Go.Proofs.PipeA Go.Proofs.WefM
set_option maxRecDepth 100000

/-- A weave's gains by their places. -/
def gAt (g0 g1 g2 : Int) (j : Nat) : Int := if j = 0 then g0 else if j = 1 then g1 else g2
theorem none_ways (s : Bool) (m g0 g1 g2 : Int) : (g0 ≠ 0 ∧ noneG ⟨s, m, g0, g1, g2⟩ = false) ∨ (g0 = 0 ∧ g1 ≠ 0 ∧ noneG ⟨s, m, g0, g1, g2⟩ = false) ∨ (g0 = 0 ∧ g1 = 0 ∧ g2 ≠ 0 ∧ noneG ⟨s, m, g0, g1, g2⟩ = false) ∨ (g0 = 0 ∧ g1 = 0 ∧ g2 = 0 ∧ noneG ⟨s, m, g0, g1, g2⟩ = true) := by
  unfold noneG
  dsimp only
  by_cases h0 : g0 = 0
  · by_cases h1 : g1 = 0
    · by_cases h2 : g2 = 0
      · exact .inr (.inr (.inr ⟨h0, h1, h2, by rw [decide_eq_true h0, decide_eq_true h1, decide_eq_true h2]; rfl⟩))
      · exact .inr (.inr (.inl ⟨h0, h1, h2, by rw [decide_eq_true h0, decide_eq_true h1, decide_eq_false h2]; rfl⟩))
    · exact .inr (.inl ⟨h0, h1, by rw [decide_eq_true h0, decide_eq_false h1]; rfl⟩)
  · exact .inl ⟨h0, by rw [decide_eq_false h0]; rfl⟩
theorem gains_all {g0 g1 g2 : Int} (h : ∀ j, j < 3 → gIn (gAt g0 g1 g2 j) = true) : (gIn g0 && gIn g1 && gIn g2) = true := by
  have h0 : gIn g0 = true := h 0 (by decide)
  have h1 : gIn g1 = true := h 1 (by decide)
  have h2 : gIn g2 = true := h 2 (by decide)
  rw [h0, h1, h2]; rfl
theorem gains_not {g0 g1 g2 : Int} {j : Nat} (hj : j < 3) (h : gIn (gAt g0 g1 g2 j) = false) : (gIn g0 && gIn g1 && gIn g2) = false := by
  match j, hj with
  | 0, _ => rw [show gIn g0 = false from h]; rfl
  | 1, _ => rw [show gIn g1 = false from h, Bool.and_false]; rfl
  | 2, _ => rw [show gIn g2 = false from h, Bool.and_false]

set_option maxHeartbeats 1600000 in
theorem rGood_w0 (s : Bool) (master : Int) (g0 g1 g2 : Int) (ch : Int) (w : World) (hz : g0 ≠ 0) (hn : noneG ⟨s, master, g0, g1, g2⟩ = false) :
    Calls Try.prog 27 #[wvV ⟨s, master, g0, g1, g2⟩, .int .i64 ch] w fun e w' => e = .returned (.bool (goodW ⟨s, master, g0, g1, g2⟩ ch)) ∧ Below w.heap.size w w' := by
  unfold wvV
  dsimp only
  have e0 : (g0 == (0 : Int)) = false := by rw [beq_eq_false_iff_ne]; exact hz
  cases s with
  | false =>
    have HE : goodW ⟨false, master, g0, g1, g2⟩ ch = false := by unfold goodW; rw [hn, if_neg (by simp)]; rfl
    rw [HE]
    clear HE hn
    have hb0 := box_below w (.cells #[.bool false, .int .i64 master, .int .i64 g0, .int .i64 g1, .int .i64 g2] 24)
    have hn0 := heap_alloc_new w (.cells #[.bool false, .int .i64 master, .int .i64 g0, .int .i64 g1, .int .i64 g2] 24)
    have k0 : (w.alloc (.cells #[.bool false, .int .i64 master, .int .i64 g0, .int .i64 g1, .int .i64 g2] 24)).cell? ⟨w.heap.size, 0, none⟩ = some (.bool false) := cell_of_heap hn0 0
    have k1 : (w.alloc (.cells #[.bool false, .int .i64 master, .int .i64 g0, .int .i64 g1, .int .i64 g2] 24)).cell? ⟨w.heap.size, 1, none⟩ = some (.int .i64 master) := cell_of_heap hn0 1
    have k2 : (w.alloc (.cells #[.bool false, .int .i64 master, .int .i64 g0, .int .i64 g1, .int .i64 g2] 24)).cell? ⟨w.heap.size, 2, none⟩ = some (.int .i64 g0) := cell_of_heap hn0 2
    have k3 : (w.alloc (.cells #[.bool false, .int .i64 master, .int .i64 g0, .int .i64 g1, .int .i64 g2] 24)).cell? ⟨w.heap.size, 3, none⟩ = some (.int .i64 g1) := cell_of_heap hn0 3
    have k4 : (w.alloc (.cells #[.bool false, .int .i64 master, .int .i64 g0, .int .i64 g1, .int .i64 g2] 24)).cell? ⟨w.heap.size, 4, none⟩ = some (.int .i64 g2) := cell_of_heap hn0 4
    obtain ⟨W0, hW0⟩ : ∃ W0, W0 = w.alloc (.cells #[.bool false, .int .i64 master, .int .i64 g0, .int .i64 g1, .int .i64 g2] 24) := ⟨_, rfl⟩
    have KG : Hid (∀ j, j < 3 → W0.cell? ⟨w.heap.size, 2 + j, none⟩ = some (.int .i64 (gAt g0 g1 g2 j))) := fun j hj => by
      rw [hW0]
      match j, hj with
      | 0, _ => exact k2
      | 1, _ => exact k3
      | 2, _ => exact k4
    have KM : Hid (W0.cell? ⟨w.heap.size, 1, none⟩ = some (.int .i64 master)) := by show _ = _; rw [hW0]; exact k1
    have HW0 := Lib.hid hW0
    have HB : Hid (Below w.heap.size w W0) := by show Below _ _ _; rw [hW0]; exact hb0
    clear hb0 hn0 hW0
    clear hz
    go_enter Try.func27, Try.ntmps27
    go_wp2
    rw [← HW0.out]
    go_ret
    exact ⟨rfl, HB.out⟩
  | true =>
    have HE : Hid (goodW ⟨true, master, g0, g1, g2⟩ ch = ((gIn g0 && gIn g1 && gIn g2) && true && decide (0 ≤ master) && decide (master < ch) && decide (master < 8))) := by show _ = _; unfold goodW; rw [hn, if_pos rfl]; rfl
    obtain ⟨gd, hgd⟩ : ∃ gd, gd = goodW ⟨true, master, g0, g1, g2⟩ ch := ⟨_, rfl⟩
    rw [← hgd] at HE ⊢
    have hb0 := box_below w (.cells #[.bool true, .int .i64 master, .int .i64 g0, .int .i64 g1, .int .i64 g2] 24)
    have hn0 := heap_alloc_new w (.cells #[.bool true, .int .i64 master, .int .i64 g0, .int .i64 g1, .int .i64 g2] 24)
    have k0 : (w.alloc (.cells #[.bool true, .int .i64 master, .int .i64 g0, .int .i64 g1, .int .i64 g2] 24)).cell? ⟨w.heap.size, 0, none⟩ = some (.bool true) := cell_of_heap hn0 0
    have k1 : (w.alloc (.cells #[.bool true, .int .i64 master, .int .i64 g0, .int .i64 g1, .int .i64 g2] 24)).cell? ⟨w.heap.size, 1, none⟩ = some (.int .i64 master) := cell_of_heap hn0 1
    have k2 : (w.alloc (.cells #[.bool true, .int .i64 master, .int .i64 g0, .int .i64 g1, .int .i64 g2] 24)).cell? ⟨w.heap.size, 2, none⟩ = some (.int .i64 g0) := cell_of_heap hn0 2
    have k3 : (w.alloc (.cells #[.bool true, .int .i64 master, .int .i64 g0, .int .i64 g1, .int .i64 g2] 24)).cell? ⟨w.heap.size, 3, none⟩ = some (.int .i64 g1) := cell_of_heap hn0 3
    have k4 : (w.alloc (.cells #[.bool true, .int .i64 master, .int .i64 g0, .int .i64 g1, .int .i64 g2] 24)).cell? ⟨w.heap.size, 4, none⟩ = some (.int .i64 g2) := cell_of_heap hn0 4
    obtain ⟨W0, hW0⟩ : ∃ W0, W0 = w.alloc (.cells #[.bool true, .int .i64 master, .int .i64 g0, .int .i64 g1, .int .i64 g2] 24) := ⟨_, rfl⟩
    have KG : Hid (∀ j, j < 3 → W0.cell? ⟨w.heap.size, 2 + j, none⟩ = some (.int .i64 (gAt g0 g1 g2 j))) := fun j hj => by
      rw [hW0]
      match j, hj with
      | 0, _ => exact k2
      | 1, _ => exact k3
      | 2, _ => exact k4
    have KM : Hid (W0.cell? ⟨w.heap.size, 1, none⟩ = some (.int .i64 master)) := by show _ = _; rw [hW0]; exact k1
    have HW0 := Lib.hid hW0
    have HB : Hid (Below w.heap.size w W0) := by show Below _ _ _; rw [hW0]; exact hb0
    clear hb0 hn0 hW0
    clear hn hgd hz
    go_enter Try.func27, Try.ntmps27
    go_wp2
    rw [← HW0.out]
    clear k0 k1 k2 k3 k4
    go_loopg [6, 32] 3 (fun gk q i wr => ∃ c : Nat, c ≤ 3 ∧ gk + c = 3 ∧ i = .int .i64 c ∧ Hid (∀ j, j < c → gIn (gAt g0 g1 g2 j) = true) ∧ wr = W0)
    case atStart => exact ⟨0, by omega, by omega, rfl, fun j hj => absurd hj (by omega), rfl⟩
    case round =>
      obtain ⟨c, hc, hgk, rfl, HT, rfl⟩ := hrel
      have HGK := Lib.hid hgk
      clear hgk
      by_cases hlt : c < 3
      · have hcell := KG.out c hlt
        have HNO : Hid (gIn (gAt g0 g1 g2 c) = false → gd = false) := fun h => by rw [HE.out, gains_not hlt h]; rfl
        have HYE : Hid (gIn (gAt g0 g1 g2 c) = true → ∀ j, j < c + 1 → gIn (gAt g0 g1 g2 j) = true) := fun h j hj => by
          rcases Nat.lt_or_ge j c with h1 | h1
          · exact HT.out j h1
          · obtain rfl : j = c := by omega
            exact h
        generalize gAt g0 g1 g2 c = x at hcell HNO HYE
        by_cases h1 : x < -16
        · have HF : Hid (gd = false) := HNO.out (decide_eq_false (by omega))
          have t1 : decide (x < -16) = true := decide_eq_true h1
          clear HNO HYE h1
          go_wp2
          go_ret
          exact ⟨by rw [HF.out]; rfl, HB.out⟩
        · have t1 : decide (x < -16) = false := decide_eq_false h1
          by_cases h2 : 15 < x
          · have HF : Hid (gd = false) := HNO.out (decide_eq_false (by omega))
            have t2 : decide (15 < x) = true := decide_eq_true h2
            clear HNO HYE h1 h2
            go_wp2
            go_ret
            exact ⟨by rw [HF.out]; rfl, HB.out⟩
          · have t2 : decide (15 < x) = false := decide_eq_false h2
            have HT2 := Lib.hid (HYE.out (decide_eq_true (by omega)))
            clear HNO HYE h1 h2
            go_wp2
            go_roundg (gk - 1)
            case rel => exact ⟨c + 1, by omega, by have := HGK.out; omega, by go_num, HT2.out, rfl⟩
            case measure => have := HGK.out; omega
      · obtain rfl : c = 3 := by omega
        have k1 := KM.out
        have HG := gains_all HT.out
        have HE2 : Hid (gd = (decide (0 ≤ master) && decide (master < ch) && decide (master < 8))) := by show _ = _; rw [HE.out, HG]; rfl
        clear HG hlt
        by_cases h1 : 0 ≤ master
        · have t1 : decide (0 ≤ master) = true := decide_eq_true h1
          by_cases h2 : master < ch
          · have t2 : decide (master < ch) = true := decide_eq_true h2
            by_cases h3 : master < 8
            · have t3 : decide (master < 8) = true := decide_eq_true h3
              have HF : Hid (gd = true) := by show _ = _; rw [HE2.out, t1, t2, t3]; rfl
              clear h1 h2 h3
              go_wp2
              go_ret
              exact ⟨by rw [HF.out]; rfl, HB.out⟩
            · have t3 : decide (master < 8) = false := decide_eq_false h3
              have HF : Hid (gd = false) := by show _ = _; rw [HE2.out, t3, Bool.and_false]
              clear h1 h2 h3
              go_wp2
              go_ret
              exact ⟨by rw [HF.out]; rfl, HB.out⟩
          · have t2 : decide (master < ch) = false := decide_eq_false h2
            have HF : Hid (gd = false) := by show _ = _; rw [HE2.out, t2, Bool.and_false]; rfl
            clear h1 h2
            go_wp2
            go_ret
            exact ⟨by rw [HF.out]; rfl, HB.out⟩
        · have t1 : decide (0 ≤ master) = false := decide_eq_false h1
          have HF : Hid (gd = false) := by show _ = _; rw [HE2.out, t1]; rfl
          clear h1
          go_wp2
          go_ret
          exact ⟨by rw [HF.out]; rfl, HB.out⟩

set_option maxHeartbeats 1600000 in
theorem rGood_w1 (s : Bool) (master : Int) (g1 g2 : Int) (ch : Int) (w : World) (hz : g1 ≠ 0) (hn : noneG ⟨s, master, 0, g1, g2⟩ = false) :
    Calls Try.prog 27 #[wvV ⟨s, master, 0, g1, g2⟩, .int .i64 ch] w fun e w' => e = .returned (.bool (goodW ⟨s, master, 0, g1, g2⟩ ch)) ∧ Below w.heap.size w w' := by
  unfold wvV
  dsimp only
  have e1 : (g1 == (0 : Int)) = false := by rw [beq_eq_false_iff_ne]; exact hz
  cases s with
  | false =>
    have HE : goodW ⟨false, master, 0, g1, g2⟩ ch = false := by unfold goodW; rw [hn, if_neg (by simp)]; rfl
    rw [HE]
    clear HE hn
    have hb0 := box_below w (.cells #[.bool false, .int .i64 master, .int .i64 0, .int .i64 g1, .int .i64 g2] 24)
    have hn0 := heap_alloc_new w (.cells #[.bool false, .int .i64 master, .int .i64 0, .int .i64 g1, .int .i64 g2] 24)
    have k0 : (w.alloc (.cells #[.bool false, .int .i64 master, .int .i64 0, .int .i64 g1, .int .i64 g2] 24)).cell? ⟨w.heap.size, 0, none⟩ = some (.bool false) := cell_of_heap hn0 0
    have k1 : (w.alloc (.cells #[.bool false, .int .i64 master, .int .i64 0, .int .i64 g1, .int .i64 g2] 24)).cell? ⟨w.heap.size, 1, none⟩ = some (.int .i64 master) := cell_of_heap hn0 1
    have k2 : (w.alloc (.cells #[.bool false, .int .i64 master, .int .i64 0, .int .i64 g1, .int .i64 g2] 24)).cell? ⟨w.heap.size, 2, none⟩ = some (.int .i64 0) := cell_of_heap hn0 2
    have k3 : (w.alloc (.cells #[.bool false, .int .i64 master, .int .i64 0, .int .i64 g1, .int .i64 g2] 24)).cell? ⟨w.heap.size, 3, none⟩ = some (.int .i64 g1) := cell_of_heap hn0 3
    have k4 : (w.alloc (.cells #[.bool false, .int .i64 master, .int .i64 0, .int .i64 g1, .int .i64 g2] 24)).cell? ⟨w.heap.size, 4, none⟩ = some (.int .i64 g2) := cell_of_heap hn0 4
    obtain ⟨W0, hW0⟩ : ∃ W0, W0 = w.alloc (.cells #[.bool false, .int .i64 master, .int .i64 0, .int .i64 g1, .int .i64 g2] 24) := ⟨_, rfl⟩
    have KG : Hid (∀ j, j < 3 → W0.cell? ⟨w.heap.size, 2 + j, none⟩ = some (.int .i64 (gAt 0 g1 g2 j))) := fun j hj => by
      rw [hW0]
      match j, hj with
      | 0, _ => exact k2
      | 1, _ => exact k3
      | 2, _ => exact k4
    have KM : Hid (W0.cell? ⟨w.heap.size, 1, none⟩ = some (.int .i64 master)) := by show _ = _; rw [hW0]; exact k1
    have HW0 := Lib.hid hW0
    have HB : Hid (Below w.heap.size w W0) := by show Below _ _ _; rw [hW0]; exact hb0
    clear hb0 hn0 hW0
    clear hz
    go_enter Try.func27, Try.ntmps27
    go_wp2
    rw [← HW0.out]
    go_ret
    exact ⟨rfl, HB.out⟩
  | true =>
    have HE : Hid (goodW ⟨true, master, 0, g1, g2⟩ ch = ((gIn 0 && gIn g1 && gIn g2) && true && decide (0 ≤ master) && decide (master < ch) && decide (master < 8))) := by show _ = _; unfold goodW; rw [hn, if_pos rfl]; rfl
    obtain ⟨gd, hgd⟩ : ∃ gd, gd = goodW ⟨true, master, 0, g1, g2⟩ ch := ⟨_, rfl⟩
    rw [← hgd] at HE ⊢
    have hb0 := box_below w (.cells #[.bool true, .int .i64 master, .int .i64 0, .int .i64 g1, .int .i64 g2] 24)
    have hn0 := heap_alloc_new w (.cells #[.bool true, .int .i64 master, .int .i64 0, .int .i64 g1, .int .i64 g2] 24)
    have k0 : (w.alloc (.cells #[.bool true, .int .i64 master, .int .i64 0, .int .i64 g1, .int .i64 g2] 24)).cell? ⟨w.heap.size, 0, none⟩ = some (.bool true) := cell_of_heap hn0 0
    have k1 : (w.alloc (.cells #[.bool true, .int .i64 master, .int .i64 0, .int .i64 g1, .int .i64 g2] 24)).cell? ⟨w.heap.size, 1, none⟩ = some (.int .i64 master) := cell_of_heap hn0 1
    have k2 : (w.alloc (.cells #[.bool true, .int .i64 master, .int .i64 0, .int .i64 g1, .int .i64 g2] 24)).cell? ⟨w.heap.size, 2, none⟩ = some (.int .i64 0) := cell_of_heap hn0 2
    have k3 : (w.alloc (.cells #[.bool true, .int .i64 master, .int .i64 0, .int .i64 g1, .int .i64 g2] 24)).cell? ⟨w.heap.size, 3, none⟩ = some (.int .i64 g1) := cell_of_heap hn0 3
    have k4 : (w.alloc (.cells #[.bool true, .int .i64 master, .int .i64 0, .int .i64 g1, .int .i64 g2] 24)).cell? ⟨w.heap.size, 4, none⟩ = some (.int .i64 g2) := cell_of_heap hn0 4
    obtain ⟨W0, hW0⟩ : ∃ W0, W0 = w.alloc (.cells #[.bool true, .int .i64 master, .int .i64 0, .int .i64 g1, .int .i64 g2] 24) := ⟨_, rfl⟩
    have KG : Hid (∀ j, j < 3 → W0.cell? ⟨w.heap.size, 2 + j, none⟩ = some (.int .i64 (gAt 0 g1 g2 j))) := fun j hj => by
      rw [hW0]
      match j, hj with
      | 0, _ => exact k2
      | 1, _ => exact k3
      | 2, _ => exact k4
    have KM : Hid (W0.cell? ⟨w.heap.size, 1, none⟩ = some (.int .i64 master)) := by show _ = _; rw [hW0]; exact k1
    have HW0 := Lib.hid hW0
    have HB : Hid (Below w.heap.size w W0) := by show Below _ _ _; rw [hW0]; exact hb0
    clear hb0 hn0 hW0
    clear hn hgd hz
    go_enter Try.func27, Try.ntmps27
    go_wp2
    rw [← HW0.out]
    clear k0 k1 k2 k3 k4
    go_loopg [6, 32] 3 (fun gk q i wr => ∃ c : Nat, c ≤ 3 ∧ gk + c = 3 ∧ i = .int .i64 c ∧ Hid (∀ j, j < c → gIn (gAt 0 g1 g2 j) = true) ∧ wr = W0)
    case atStart => exact ⟨0, by omega, by omega, rfl, fun j hj => absurd hj (by omega), rfl⟩
    case round =>
      obtain ⟨c, hc, hgk, rfl, HT, rfl⟩ := hrel
      have HGK := Lib.hid hgk
      clear hgk
      by_cases hlt : c < 3
      · have hcell := KG.out c hlt
        have HNO : Hid (gIn (gAt 0 g1 g2 c) = false → gd = false) := fun h => by rw [HE.out, gains_not hlt h]; rfl
        have HYE : Hid (gIn (gAt 0 g1 g2 c) = true → ∀ j, j < c + 1 → gIn (gAt 0 g1 g2 j) = true) := fun h j hj => by
          rcases Nat.lt_or_ge j c with h1 | h1
          · exact HT.out j h1
          · obtain rfl : j = c := by omega
            exact h
        generalize gAt 0 g1 g2 c = x at hcell HNO HYE
        by_cases h1 : x < -16
        · have HF : Hid (gd = false) := HNO.out (decide_eq_false (by omega))
          have t1 : decide (x < -16) = true := decide_eq_true h1
          clear HNO HYE h1
          go_wp2
          go_ret
          exact ⟨by rw [HF.out]; rfl, HB.out⟩
        · have t1 : decide (x < -16) = false := decide_eq_false h1
          by_cases h2 : 15 < x
          · have HF : Hid (gd = false) := HNO.out (decide_eq_false (by omega))
            have t2 : decide (15 < x) = true := decide_eq_true h2
            clear HNO HYE h1 h2
            go_wp2
            go_ret
            exact ⟨by rw [HF.out]; rfl, HB.out⟩
          · have t2 : decide (15 < x) = false := decide_eq_false h2
            have HT2 := Lib.hid (HYE.out (decide_eq_true (by omega)))
            clear HNO HYE h1 h2
            go_wp2
            go_roundg (gk - 1)
            case rel => exact ⟨c + 1, by omega, by have := HGK.out; omega, by go_num, HT2.out, rfl⟩
            case measure => have := HGK.out; omega
      · obtain rfl : c = 3 := by omega
        have k1 := KM.out
        have HG := gains_all HT.out
        have HE2 : Hid (gd = (decide (0 ≤ master) && decide (master < ch) && decide (master < 8))) := by show _ = _; rw [HE.out, HG]; rfl
        clear HG hlt
        by_cases h1 : 0 ≤ master
        · have t1 : decide (0 ≤ master) = true := decide_eq_true h1
          by_cases h2 : master < ch
          · have t2 : decide (master < ch) = true := decide_eq_true h2
            by_cases h3 : master < 8
            · have t3 : decide (master < 8) = true := decide_eq_true h3
              have HF : Hid (gd = true) := by show _ = _; rw [HE2.out, t1, t2, t3]; rfl
              clear h1 h2 h3
              go_wp2
              go_ret
              exact ⟨by rw [HF.out]; rfl, HB.out⟩
            · have t3 : decide (master < 8) = false := decide_eq_false h3
              have HF : Hid (gd = false) := by show _ = _; rw [HE2.out, t3, Bool.and_false]
              clear h1 h2 h3
              go_wp2
              go_ret
              exact ⟨by rw [HF.out]; rfl, HB.out⟩
          · have t2 : decide (master < ch) = false := decide_eq_false h2
            have HF : Hid (gd = false) := by show _ = _; rw [HE2.out, t2, Bool.and_false]; rfl
            clear h1 h2
            go_wp2
            go_ret
            exact ⟨by rw [HF.out]; rfl, HB.out⟩
        · have t1 : decide (0 ≤ master) = false := decide_eq_false h1
          have HF : Hid (gd = false) := by show _ = _; rw [HE2.out, t1]; rfl
          clear h1
          go_wp2
          go_ret
          exact ⟨by rw [HF.out]; rfl, HB.out⟩

set_option maxHeartbeats 1600000 in
theorem rGood_w2 (s : Bool) (master : Int) (g2 : Int) (ch : Int) (w : World) (hz : g2 ≠ 0) (hn : noneG ⟨s, master, 0, 0, g2⟩ = false) :
    Calls Try.prog 27 #[wvV ⟨s, master, 0, 0, g2⟩, .int .i64 ch] w fun e w' => e = .returned (.bool (goodW ⟨s, master, 0, 0, g2⟩ ch)) ∧ Below w.heap.size w w' := by
  unfold wvV
  dsimp only
  have e2 : (g2 == (0 : Int)) = false := by rw [beq_eq_false_iff_ne]; exact hz
  cases s with
  | false =>
    have HE : goodW ⟨false, master, 0, 0, g2⟩ ch = false := by unfold goodW; rw [hn, if_neg (by simp)]; rfl
    rw [HE]
    clear HE hn
    have hb0 := box_below w (.cells #[.bool false, .int .i64 master, .int .i64 0, .int .i64 0, .int .i64 g2] 24)
    have hn0 := heap_alloc_new w (.cells #[.bool false, .int .i64 master, .int .i64 0, .int .i64 0, .int .i64 g2] 24)
    have k0 : (w.alloc (.cells #[.bool false, .int .i64 master, .int .i64 0, .int .i64 0, .int .i64 g2] 24)).cell? ⟨w.heap.size, 0, none⟩ = some (.bool false) := cell_of_heap hn0 0
    have k1 : (w.alloc (.cells #[.bool false, .int .i64 master, .int .i64 0, .int .i64 0, .int .i64 g2] 24)).cell? ⟨w.heap.size, 1, none⟩ = some (.int .i64 master) := cell_of_heap hn0 1
    have k2 : (w.alloc (.cells #[.bool false, .int .i64 master, .int .i64 0, .int .i64 0, .int .i64 g2] 24)).cell? ⟨w.heap.size, 2, none⟩ = some (.int .i64 0) := cell_of_heap hn0 2
    have k3 : (w.alloc (.cells #[.bool false, .int .i64 master, .int .i64 0, .int .i64 0, .int .i64 g2] 24)).cell? ⟨w.heap.size, 3, none⟩ = some (.int .i64 0) := cell_of_heap hn0 3
    have k4 : (w.alloc (.cells #[.bool false, .int .i64 master, .int .i64 0, .int .i64 0, .int .i64 g2] 24)).cell? ⟨w.heap.size, 4, none⟩ = some (.int .i64 g2) := cell_of_heap hn0 4
    obtain ⟨W0, hW0⟩ : ∃ W0, W0 = w.alloc (.cells #[.bool false, .int .i64 master, .int .i64 0, .int .i64 0, .int .i64 g2] 24) := ⟨_, rfl⟩
    have KG : Hid (∀ j, j < 3 → W0.cell? ⟨w.heap.size, 2 + j, none⟩ = some (.int .i64 (gAt 0 0 g2 j))) := fun j hj => by
      rw [hW0]
      match j, hj with
      | 0, _ => exact k2
      | 1, _ => exact k3
      | 2, _ => exact k4
    have KM : Hid (W0.cell? ⟨w.heap.size, 1, none⟩ = some (.int .i64 master)) := by show _ = _; rw [hW0]; exact k1
    have HW0 := Lib.hid hW0
    have HB : Hid (Below w.heap.size w W0) := by show Below _ _ _; rw [hW0]; exact hb0
    clear hb0 hn0 hW0
    clear hz
    go_enter Try.func27, Try.ntmps27
    go_wp2
    rw [← HW0.out]
    go_ret
    exact ⟨rfl, HB.out⟩
  | true =>
    have HE : Hid (goodW ⟨true, master, 0, 0, g2⟩ ch = ((gIn 0 && gIn 0 && gIn g2) && true && decide (0 ≤ master) && decide (master < ch) && decide (master < 8))) := by show _ = _; unfold goodW; rw [hn, if_pos rfl]; rfl
    obtain ⟨gd, hgd⟩ : ∃ gd, gd = goodW ⟨true, master, 0, 0, g2⟩ ch := ⟨_, rfl⟩
    rw [← hgd] at HE ⊢
    have hb0 := box_below w (.cells #[.bool true, .int .i64 master, .int .i64 0, .int .i64 0, .int .i64 g2] 24)
    have hn0 := heap_alloc_new w (.cells #[.bool true, .int .i64 master, .int .i64 0, .int .i64 0, .int .i64 g2] 24)
    have k0 : (w.alloc (.cells #[.bool true, .int .i64 master, .int .i64 0, .int .i64 0, .int .i64 g2] 24)).cell? ⟨w.heap.size, 0, none⟩ = some (.bool true) := cell_of_heap hn0 0
    have k1 : (w.alloc (.cells #[.bool true, .int .i64 master, .int .i64 0, .int .i64 0, .int .i64 g2] 24)).cell? ⟨w.heap.size, 1, none⟩ = some (.int .i64 master) := cell_of_heap hn0 1
    have k2 : (w.alloc (.cells #[.bool true, .int .i64 master, .int .i64 0, .int .i64 0, .int .i64 g2] 24)).cell? ⟨w.heap.size, 2, none⟩ = some (.int .i64 0) := cell_of_heap hn0 2
    have k3 : (w.alloc (.cells #[.bool true, .int .i64 master, .int .i64 0, .int .i64 0, .int .i64 g2] 24)).cell? ⟨w.heap.size, 3, none⟩ = some (.int .i64 0) := cell_of_heap hn0 3
    have k4 : (w.alloc (.cells #[.bool true, .int .i64 master, .int .i64 0, .int .i64 0, .int .i64 g2] 24)).cell? ⟨w.heap.size, 4, none⟩ = some (.int .i64 g2) := cell_of_heap hn0 4
    obtain ⟨W0, hW0⟩ : ∃ W0, W0 = w.alloc (.cells #[.bool true, .int .i64 master, .int .i64 0, .int .i64 0, .int .i64 g2] 24) := ⟨_, rfl⟩
    have KG : Hid (∀ j, j < 3 → W0.cell? ⟨w.heap.size, 2 + j, none⟩ = some (.int .i64 (gAt 0 0 g2 j))) := fun j hj => by
      rw [hW0]
      match j, hj with
      | 0, _ => exact k2
      | 1, _ => exact k3
      | 2, _ => exact k4
    have KM : Hid (W0.cell? ⟨w.heap.size, 1, none⟩ = some (.int .i64 master)) := by show _ = _; rw [hW0]; exact k1
    have HW0 := Lib.hid hW0
    have HB : Hid (Below w.heap.size w W0) := by show Below _ _ _; rw [hW0]; exact hb0
    clear hb0 hn0 hW0
    clear hn hgd hz
    go_enter Try.func27, Try.ntmps27
    go_wp2
    rw [← HW0.out]
    clear k0 k1 k2 k3 k4
    go_loopg [6, 32] 3 (fun gk q i wr => ∃ c : Nat, c ≤ 3 ∧ gk + c = 3 ∧ i = .int .i64 c ∧ Hid (∀ j, j < c → gIn (gAt 0 0 g2 j) = true) ∧ wr = W0)
    case atStart => exact ⟨0, by omega, by omega, rfl, fun j hj => absurd hj (by omega), rfl⟩
    case round =>
      obtain ⟨c, hc, hgk, rfl, HT, rfl⟩ := hrel
      have HGK := Lib.hid hgk
      clear hgk
      by_cases hlt : c < 3
      · have hcell := KG.out c hlt
        have HNO : Hid (gIn (gAt 0 0 g2 c) = false → gd = false) := fun h => by rw [HE.out, gains_not hlt h]; rfl
        have HYE : Hid (gIn (gAt 0 0 g2 c) = true → ∀ j, j < c + 1 → gIn (gAt 0 0 g2 j) = true) := fun h j hj => by
          rcases Nat.lt_or_ge j c with h1 | h1
          · exact HT.out j h1
          · obtain rfl : j = c := by omega
            exact h
        generalize gAt 0 0 g2 c = x at hcell HNO HYE
        by_cases h1 : x < -16
        · have HF : Hid (gd = false) := HNO.out (decide_eq_false (by omega))
          have t1 : decide (x < -16) = true := decide_eq_true h1
          clear HNO HYE h1
          go_wp2
          go_ret
          exact ⟨by rw [HF.out]; rfl, HB.out⟩
        · have t1 : decide (x < -16) = false := decide_eq_false h1
          by_cases h2 : 15 < x
          · have HF : Hid (gd = false) := HNO.out (decide_eq_false (by omega))
            have t2 : decide (15 < x) = true := decide_eq_true h2
            clear HNO HYE h1 h2
            go_wp2
            go_ret
            exact ⟨by rw [HF.out]; rfl, HB.out⟩
          · have t2 : decide (15 < x) = false := decide_eq_false h2
            have HT2 := Lib.hid (HYE.out (decide_eq_true (by omega)))
            clear HNO HYE h1 h2
            go_wp2
            go_roundg (gk - 1)
            case rel => exact ⟨c + 1, by omega, by have := HGK.out; omega, by go_num, HT2.out, rfl⟩
            case measure => have := HGK.out; omega
      · obtain rfl : c = 3 := by omega
        have k1 := KM.out
        have HG := gains_all HT.out
        have HE2 : Hid (gd = (decide (0 ≤ master) && decide (master < ch) && decide (master < 8))) := by show _ = _; rw [HE.out, HG]; rfl
        clear HG hlt
        by_cases h1 : 0 ≤ master
        · have t1 : decide (0 ≤ master) = true := decide_eq_true h1
          by_cases h2 : master < ch
          · have t2 : decide (master < ch) = true := decide_eq_true h2
            by_cases h3 : master < 8
            · have t3 : decide (master < 8) = true := decide_eq_true h3
              have HF : Hid (gd = true) := by show _ = _; rw [HE2.out, t1, t2, t3]; rfl
              clear h1 h2 h3
              go_wp2
              go_ret
              exact ⟨by rw [HF.out]; rfl, HB.out⟩
            · have t3 : decide (master < 8) = false := decide_eq_false h3
              have HF : Hid (gd = false) := by show _ = _; rw [HE2.out, t3, Bool.and_false]
              clear h1 h2 h3
              go_wp2
              go_ret
              exact ⟨by rw [HF.out]; rfl, HB.out⟩
          · have t2 : decide (master < ch) = false := decide_eq_false h2
            have HF : Hid (gd = false) := by show _ = _; rw [HE2.out, t2, Bool.and_false]; rfl
            clear h1 h2
            go_wp2
            go_ret
            exact ⟨by rw [HF.out]; rfl, HB.out⟩
        · have t1 : decide (0 ≤ master) = false := decide_eq_false h1
          have HF : Hid (gd = false) := by show _ = _; rw [HE2.out, t1]; rfl
          clear h1
          go_wp2
          go_ret
          exact ⟨by rw [HF.out]; rfl, HB.out⟩

set_option maxHeartbeats 1600000 in
theorem rGood_w3 (s : Bool) (master : Int) (ch : Int) (w : World) (hn : noneG ⟨s, master, 0, 0, 0⟩ = true) :
    Calls Try.prog 27 #[wvV ⟨s, master, 0, 0, 0⟩, .int .i64 ch] w fun e w' => e = .returned (.bool (goodW ⟨s, master, 0, 0, 0⟩ ch)) ∧ Below w.heap.size w w' := by
  unfold wvV
  dsimp only
  cases s with
  | false =>
    have HE : goodW ⟨false, master, 0, 0, 0⟩ ch = decide (master = 0) := by unfold goodW; rw [hn, if_neg (by simp)]; rfl
    rw [HE]
    clear HE hn
    by_cases hm : master = 0
    · subst hm
      rw [decide_eq_true rfl]
      have hb0 := box_below w (.cells #[.bool false, .int .i64 0, .int .i64 0, .int .i64 0, .int .i64 0] 24)
      have hn0 := heap_alloc_new w (.cells #[.bool false, .int .i64 0, .int .i64 0, .int .i64 0, .int .i64 0] 24)
      have k0 : (w.alloc (.cells #[.bool false, .int .i64 0, .int .i64 0, .int .i64 0, .int .i64 0] 24)).cell? ⟨w.heap.size, 0, none⟩ = some (.bool false) := cell_of_heap hn0 0
      have k1 : (w.alloc (.cells #[.bool false, .int .i64 0, .int .i64 0, .int .i64 0, .int .i64 0] 24)).cell? ⟨w.heap.size, 1, none⟩ = some (.int .i64 0) := cell_of_heap hn0 1
      have k2 : (w.alloc (.cells #[.bool false, .int .i64 0, .int .i64 0, .int .i64 0, .int .i64 0] 24)).cell? ⟨w.heap.size, 2, none⟩ = some (.int .i64 0) := cell_of_heap hn0 2
      have k3 : (w.alloc (.cells #[.bool false, .int .i64 0, .int .i64 0, .int .i64 0, .int .i64 0] 24)).cell? ⟨w.heap.size, 3, none⟩ = some (.int .i64 0) := cell_of_heap hn0 3
      have k4 : (w.alloc (.cells #[.bool false, .int .i64 0, .int .i64 0, .int .i64 0, .int .i64 0] 24)).cell? ⟨w.heap.size, 4, none⟩ = some (.int .i64 0) := cell_of_heap hn0 4
      obtain ⟨W0, hW0⟩ : ∃ W0, W0 = w.alloc (.cells #[.bool false, .int .i64 0, .int .i64 0, .int .i64 0, .int .i64 0] 24) := ⟨_, rfl⟩
      have KG : Hid (∀ j, j < 3 → W0.cell? ⟨w.heap.size, 2 + j, none⟩ = some (.int .i64 (gAt 0 0 0 j))) := fun j hj => by
        rw [hW0]
        match j, hj with
        | 0, _ => exact k2
        | 1, _ => exact k3
        | 2, _ => exact k4
      have KM : Hid (W0.cell? ⟨w.heap.size, 1, none⟩ = some (.int .i64 0)) := by show _ = _; rw [hW0]; exact k1
      have HW0 := Lib.hid hW0
      have HB : Hid (Below w.heap.size w W0) := by show Below _ _ _; rw [hW0]; exact hb0
      clear hb0 hn0 hW0
      go_enter Try.func27, Try.ntmps27
      go_wp2
      rw [← HW0.out]
      go_ret
      exact ⟨rfl, HB.out⟩
    · rw [decide_eq_false hm]
      have tm : (master == (0 : Int)) = false := by rw [beq_eq_false_iff_ne]; exact hm
      have hb0 := box_below w (.cells #[.bool false, .int .i64 master, .int .i64 0, .int .i64 0, .int .i64 0] 24)
      have hn0 := heap_alloc_new w (.cells #[.bool false, .int .i64 master, .int .i64 0, .int .i64 0, .int .i64 0] 24)
      have k0 : (w.alloc (.cells #[.bool false, .int .i64 master, .int .i64 0, .int .i64 0, .int .i64 0] 24)).cell? ⟨w.heap.size, 0, none⟩ = some (.bool false) := cell_of_heap hn0 0
      have k1 : (w.alloc (.cells #[.bool false, .int .i64 master, .int .i64 0, .int .i64 0, .int .i64 0] 24)).cell? ⟨w.heap.size, 1, none⟩ = some (.int .i64 master) := cell_of_heap hn0 1
      have k2 : (w.alloc (.cells #[.bool false, .int .i64 master, .int .i64 0, .int .i64 0, .int .i64 0] 24)).cell? ⟨w.heap.size, 2, none⟩ = some (.int .i64 0) := cell_of_heap hn0 2
      have k3 : (w.alloc (.cells #[.bool false, .int .i64 master, .int .i64 0, .int .i64 0, .int .i64 0] 24)).cell? ⟨w.heap.size, 3, none⟩ = some (.int .i64 0) := cell_of_heap hn0 3
      have k4 : (w.alloc (.cells #[.bool false, .int .i64 master, .int .i64 0, .int .i64 0, .int .i64 0] 24)).cell? ⟨w.heap.size, 4, none⟩ = some (.int .i64 0) := cell_of_heap hn0 4
      obtain ⟨W0, hW0⟩ : ∃ W0, W0 = w.alloc (.cells #[.bool false, .int .i64 master, .int .i64 0, .int .i64 0, .int .i64 0] 24) := ⟨_, rfl⟩
      have KG : Hid (∀ j, j < 3 → W0.cell? ⟨w.heap.size, 2 + j, none⟩ = some (.int .i64 (gAt 0 0 0 j))) := fun j hj => by
        rw [hW0]
        match j, hj with
        | 0, _ => exact k2
        | 1, _ => exact k3
        | 2, _ => exact k4
      have KM : Hid (W0.cell? ⟨w.heap.size, 1, none⟩ = some (.int .i64 master)) := by show _ = _; rw [hW0]; exact k1
      have HW0 := Lib.hid hW0
      have HB : Hid (Below w.heap.size w W0) := by show Below _ _ _; rw [hW0]; exact hb0
      clear hb0 hn0 hW0
      clear hm
      go_enter Try.func27, Try.ntmps27
      go_wp2
      rw [← HW0.out]
      go_ret
      exact ⟨rfl, HB.out⟩
  | true =>
    have HE : Hid (goodW ⟨true, master, 0, 0, 0⟩ ch = ((gIn 0 && gIn 0 && gIn 0) && false && decide (0 ≤ master) && decide (master < ch) && decide (master < 8))) := by show _ = _; unfold goodW; rw [hn, if_pos rfl]; rfl
    obtain ⟨gd, hgd⟩ : ∃ gd, gd = goodW ⟨true, master, 0, 0, 0⟩ ch := ⟨_, rfl⟩
    rw [← hgd] at HE ⊢
    have hb0 := box_below w (.cells #[.bool true, .int .i64 master, .int .i64 0, .int .i64 0, .int .i64 0] 24)
    have hn0 := heap_alloc_new w (.cells #[.bool true, .int .i64 master, .int .i64 0, .int .i64 0, .int .i64 0] 24)
    have k0 : (w.alloc (.cells #[.bool true, .int .i64 master, .int .i64 0, .int .i64 0, .int .i64 0] 24)).cell? ⟨w.heap.size, 0, none⟩ = some (.bool true) := cell_of_heap hn0 0
    have k1 : (w.alloc (.cells #[.bool true, .int .i64 master, .int .i64 0, .int .i64 0, .int .i64 0] 24)).cell? ⟨w.heap.size, 1, none⟩ = some (.int .i64 master) := cell_of_heap hn0 1
    have k2 : (w.alloc (.cells #[.bool true, .int .i64 master, .int .i64 0, .int .i64 0, .int .i64 0] 24)).cell? ⟨w.heap.size, 2, none⟩ = some (.int .i64 0) := cell_of_heap hn0 2
    have k3 : (w.alloc (.cells #[.bool true, .int .i64 master, .int .i64 0, .int .i64 0, .int .i64 0] 24)).cell? ⟨w.heap.size, 3, none⟩ = some (.int .i64 0) := cell_of_heap hn0 3
    have k4 : (w.alloc (.cells #[.bool true, .int .i64 master, .int .i64 0, .int .i64 0, .int .i64 0] 24)).cell? ⟨w.heap.size, 4, none⟩ = some (.int .i64 0) := cell_of_heap hn0 4
    obtain ⟨W0, hW0⟩ : ∃ W0, W0 = w.alloc (.cells #[.bool true, .int .i64 master, .int .i64 0, .int .i64 0, .int .i64 0] 24) := ⟨_, rfl⟩
    have KG : Hid (∀ j, j < 3 → W0.cell? ⟨w.heap.size, 2 + j, none⟩ = some (.int .i64 (gAt 0 0 0 j))) := fun j hj => by
      rw [hW0]
      match j, hj with
      | 0, _ => exact k2
      | 1, _ => exact k3
      | 2, _ => exact k4
    have KM : Hid (W0.cell? ⟨w.heap.size, 1, none⟩ = some (.int .i64 master)) := by show _ = _; rw [hW0]; exact k1
    have HW0 := Lib.hid hW0
    have HB : Hid (Below w.heap.size w W0) := by show Below _ _ _; rw [hW0]; exact hb0
    clear hb0 hn0 hW0
    clear hn hgd
    go_enter Try.func27, Try.ntmps27
    go_wp2
    rw [← HW0.out]
    clear k0 k1 k2 k3 k4
    go_loopg [6, 32] 3 (fun gk q i wr => ∃ c : Nat, c ≤ 3 ∧ gk + c = 3 ∧ i = .int .i64 c ∧ Hid (∀ j, j < c → gIn (gAt 0 0 0 j) = true) ∧ wr = W0)
    case atStart => exact ⟨0, by omega, by omega, rfl, fun j hj => absurd hj (by omega), rfl⟩
    case round =>
      obtain ⟨c, hc, hgk, rfl, HT, rfl⟩ := hrel
      have HGK := Lib.hid hgk
      clear hgk
      by_cases hlt : c < 3
      · have hcell := KG.out c hlt
        have HNO : Hid (gIn (gAt 0 0 0 c) = false → gd = false) := fun h => by rw [HE.out, gains_not hlt h]; rfl
        have HYE : Hid (gIn (gAt 0 0 0 c) = true → ∀ j, j < c + 1 → gIn (gAt 0 0 0 j) = true) := fun h j hj => by
          rcases Nat.lt_or_ge j c with h1 | h1
          · exact HT.out j h1
          · obtain rfl : j = c := by omega
            exact h
        generalize gAt 0 0 0 c = x at hcell HNO HYE
        by_cases h1 : x < -16
        · have HF : Hid (gd = false) := HNO.out (decide_eq_false (by omega))
          have t1 : decide (x < -16) = true := decide_eq_true h1
          clear HNO HYE h1
          go_wp2
          go_ret
          exact ⟨by rw [HF.out]; rfl, HB.out⟩
        · have t1 : decide (x < -16) = false := decide_eq_false h1
          by_cases h2 : 15 < x
          · have HF : Hid (gd = false) := HNO.out (decide_eq_false (by omega))
            have t2 : decide (15 < x) = true := decide_eq_true h2
            clear HNO HYE h1 h2
            go_wp2
            go_ret
            exact ⟨by rw [HF.out]; rfl, HB.out⟩
          · have t2 : decide (15 < x) = false := decide_eq_false h2
            have HT2 := Lib.hid (HYE.out (decide_eq_true (by omega)))
            clear HNO HYE h1 h2
            go_wp2
            go_roundg (gk - 1)
            case rel => exact ⟨c + 1, by omega, by have := HGK.out; omega, by go_num, HT2.out, rfl⟩
            case measure => have := HGK.out; omega
      · obtain rfl : c = 3 := by omega
        have HF : Hid (gd = false) := by show _ = _; rw [HE.out, Bool.and_false]; rfl
        go_wp2
        go_ret
        exact ⟨by rw [HF.out]; rfl, HB.out⟩

theorem rGoodW (x : Wv) (ch : Int) (w : World) :
    Calls Try.prog 27 #[wvV x, .int .i64 ch] w fun e w' => e = .returned (.bool (goodW x ch)) ∧ Below w.heap.size w w' := by
  obtain ⟨s, master, g0, g1, g2⟩ := x
  rcases none_ways s master g0 g1 g2 with ⟨hz, hn⟩ | ⟨rfl, hz, hn⟩ | ⟨rfl, rfl, hz, hn⟩ | ⟨rfl, rfl, rfl, hn⟩
  · exact rGood_w0 s master g0 g1 g2 ch w hz hn
  · exact rGood_w1 s master g1 g2 ch w hz hn
  · exact rGood_w2 s master g2 ch w hz hn
  · exact rGood_w3 s master ch w hn
end Go.Proofs.Ytbbcemgcanclnaa
