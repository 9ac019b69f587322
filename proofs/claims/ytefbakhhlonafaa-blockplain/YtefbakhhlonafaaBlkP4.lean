import Derived.Test.YtefbakhhlonafaaBlkL1

namespace Go.Proofs.Ytefbakhhlonafaa
open Go.RowKit Go.Proofs Go.Proofs.PipeM Go.Proofs.PipeA Go.Proofs.BlkM Go.Proofs.BlkB
open Go.Proofs.LatM (goodL)
open Go.Proofs.LagM (goodT)
set_option maxRecDepth 100000

set_option maxHeartbeats 3200000 in
theorem cBitsOfNormal (s a g : Nat) (part : Int) (index rice data : List Int) (ia ra da : Option Addr) (ic rc dc : Nat) (w : World) (hil : index.length ≤ 16) (hlen : slideLen data part rice ≤ 1000000) (hI : BlkIn w ⟨2, 0, s, index, a, g, part, rice, data⟩ ia ra da ic rc dc) :
    Calls Try.prog 30 #[blkV ⟨2, 0, s, index, a, g, part, rice, data⟩ ia ra da ic rc dc] w fun e w' => e = .returned (.int .i64 ((11 + 7 * index.length + slideLen data part rice + (if a = 0 then 0 else 12) : Nat) : Int)) ∧ Below w.heap.size w w' := by
  obtain ⟨W0, hW0⟩ : ∃ W0, W0 = w.alloc (.cells #[.int .i64 2, .int .i64 0, .int .i64 s, .slice ia index.length ic, .int .i64 a, .int .i64 g, .int .i64 part, .slice ra rice.length rc, .slice da data.length dc] 24) := ⟨_, rfl⟩
  have hb0 := box_below w (.cells #[.int .i64 2, .int .i64 0, .int .i64 s, .slice ia index.length ic, .int .i64 a, .int .i64 g, .int .i64 part, .slice ra rice.length rc, .slice da data.length dc] 24)
  have hn0 := World.alloc_heap_new w (.cells #[.int .i64 2, .int .i64 0, .int .i64 s, .slice ia index.length ic, .int .i64 a, .int .i64 g, .int .i64 part, .slice ra rice.length rc, .slice da data.length dc] 24)
  rw [← hW0] at hb0 hn0
  have hI0 := hI.below hb0
  have K : Hid (∀ W, Below W0.heap.size W0 W → ∀ j v, (#[.int .i64 2, .int .i64 0, .int .i64 s, .slice ia index.length ic, .int .i64 a, .int .i64 g, .int .i64 part, .slice ra rice.length rc, .slice da data.length dc] : Array Value)[j]? = some v → W.cell? ⟨w.heap.size, j, none⟩ = some v) := fun W hW j v hj => by
    rw [hW.cell (p := ⟨w.heap.size, j, none⟩) (Array.getElem?_eq_some_iff.1 hn0).1, cell_of_heap hn0]
    exact hj
  have HPO := fun W => Lib.hid (cPartsOf ⟨2, 0, s, index, a, g, part, rice, data⟩ ia ra da ic rc dc W)
  have HSB : Hid (∀ W, Below W0.heap.size W0 W → Calls Try.prog 53 #[.slice da data.length dc, .agg #[.int .i64 part, .slice ra rice.length rc]] W fun e w' => e = .returned (.int .i64 (slideLen data part rice)) ∧ Below W.heap.size W w') := fun W hW => cBits da ra dc rc data part rice W hI.dc hI.dl hI.rl (hI0.d.below hW) (hI0.r.below hW)
  have HW0 := Lib.hid hW0
  have HBX := Lib.hid hb0
  have HD0 : Hid (Below W0.heap.size W0 W0.drew) := (keeps_drew_b W0 []).below (Nat.le_refl _) (by simp)
  unfold blkV at HPO ⊢
  dsimp only at HPO ⊢
  generalize slideLen data part rice = sl at *
  generalize index.length = il at *
  generalize rice.length = rl at *
  generalize data.length = dl at *
  have HSK : Hid (∀ W, Below W0.heap.size W0 W → W.cell? ⟨w.heap.size, 0, none⟩ = some (.int .i64 2) ∧ W.cell? ⟨w.heap.size, 1, none⟩ = some (.int .i64 0) ∧ W.cell? ⟨w.heap.size, 2, none⟩ = some (.int .i64 s) ∧ W.cell? ⟨w.heap.size, 3, none⟩ = some (.slice ia il ic) ∧ W.cell? ⟨w.heap.size, 4, none⟩ = some (.int .i64 a) ∧ W.cell? ⟨w.heap.size, 5, none⟩ = some (.int .i64 g) ∧ W.cell? ⟨w.heap.size, 6, none⟩ = some (.int .i64 part) ∧ W.cell? ⟨w.heap.size, 7, none⟩ = some (.slice ra rl rc) ∧ W.cell? ⟨w.heap.size, 8, none⟩ = some (.slice da dl dc)) := fun W h => ⟨K.out W h 0 _ rfl, K.out W h 1 _ rfl, K.out W h 2 _ rfl, K.out W h 3 _ rfl, K.out W h 4 _ rfl, K.out W h 5 _ rfl, K.out W h 6 _ rfl, K.out W h 7 _ rfl, K.out W h 8 _ rfl⟩
  have ps := HSK.out W0 (Below.refl _ _)
  have HN : Hid (((11 + 7 * il + sl + (if a = 0 then 0 else 12) : Nat) : Int) = if a = 0 then (11 + 7 * (il : Int) + (sl : Int)) else (11 + 7 * (il : Int) + (sl : Int)) + 12) := by
    show _ = _
    by_cases h : a = 0
    · rw [if_pos h, if_pos h]; omega
    · rw [if_neg h, if_neg h]; omega
  rw [HN.out]
  have hw1 : IntKind.i64.wrap (7 * (il : Int)) = 7 * (il : Int) := IntWalk.i64_in _ (by omega)
  have hw2 : IntKind.i64.wrap (10 + 7 * (il : Int)) = 10 + 7 * (il : Int) := IntWalk.i64_in _ (by omega)
  have hw3 : IntKind.i64.wrap (10 + 7 * (il : Int) + 1) = 11 + 7 * (il : Int) := by rw [IntWalk.i64_in _ (by omega)]; omega
  have hw4 : IntKind.i64.wrap (11 + 7 * (il : Int) + (sl : Int)) = 11 + 7 * (il : Int) + (sl : Int) := IntWalk.i64_in _ (by omega)
  have hw5 : IntKind.i64.wrap (11 + 7 * (il : Int) + (sl : Int) + 12) = 11 + 7 * (il : Int) + (sl : Int) + 12 := IntWalk.i64_in _ (by omega)
  clear hb0 hn0 hI0 hI hW0
  by_cases h0 : a = 0
  · have t0 : decide (0 < a) = false := decide_eq_false (by omega)
    rw [if_pos h0]
    clear h0 HN
    go_enter Try.func30, Try.ntmps30
    go_wp2_with fail
    rw [← HW0.out]
    go_region_held3 (fun W => W.cell? ⟨w.heap.size, 0, none⟩ = some (.int .i64 2) ∧ W.cell? ⟨w.heap.size, 1, none⟩ = some (.int .i64 0) ∧ W.cell? ⟨w.heap.size, 2, none⟩ = some (.int .i64 s) ∧ W.cell? ⟨w.heap.size, 3, none⟩ = some (.slice ia il ic) ∧ W.cell? ⟨w.heap.size, 4, none⟩ = some (.int .i64 a) ∧ W.cell? ⟨w.heap.size, 5, none⟩ = some (.int .i64 g) ∧ W.cell? ⟨w.heap.size, 6, none⟩ = some (.int .i64 part) ∧ W.cell? ⟨w.heap.size, 7, none⟩ = some (.slice ra rl rc) ∧ W.cell? ⟨w.heap.size, 8, none⟩ = some (.slice da dl dc))
      (first | exact ps | exact p0 | exact p1 | fail)
      (first
        | (go_at_call 54; refine (HPO _).out.mono ?_; rintro e w6 ⟨rfl, hb6⟩; have HB6 : Hid (Below W0.heap.size W0 w6) := HD0.out.trans hb6; have p0 := HSK.out w6 HB6.out; clear hb6)
        | (go_at_call 53; refine (HSB.out _ HB6.out).mono ?_; rintro e w7 ⟨rfl, hb7⟩; have HB7 : Hid (Below W0.heap.size W0 w7) := HB6.out.trans (hb7.mono HB6.out.size); have p1 := HSK.out w7 HB7.out; clear hb7)
        | fail)
    have k4 := K.out w7 HB7.out 4 (.int .i64 (a : Int)) rfl
    clear ps p0 p1
    go_wp2
    go_ret
    exact ⟨rfl, HBX.out.trans (HB7.out.mono HBX.out.size)⟩
  · have t0 : decide (0 < a) = true := decide_eq_true (by omega)
    rw [if_neg h0]
    clear h0 HN
    go_enter Try.func30, Try.ntmps30
    go_wp2_with fail
    rw [← HW0.out]
    go_region_held3 (fun W => W.cell? ⟨w.heap.size, 0, none⟩ = some (.int .i64 2) ∧ W.cell? ⟨w.heap.size, 1, none⟩ = some (.int .i64 0) ∧ W.cell? ⟨w.heap.size, 2, none⟩ = some (.int .i64 s) ∧ W.cell? ⟨w.heap.size, 3, none⟩ = some (.slice ia il ic) ∧ W.cell? ⟨w.heap.size, 4, none⟩ = some (.int .i64 a) ∧ W.cell? ⟨w.heap.size, 5, none⟩ = some (.int .i64 g) ∧ W.cell? ⟨w.heap.size, 6, none⟩ = some (.int .i64 part) ∧ W.cell? ⟨w.heap.size, 7, none⟩ = some (.slice ra rl rc) ∧ W.cell? ⟨w.heap.size, 8, none⟩ = some (.slice da dl dc))
      (first | exact ps | exact p0 | exact p1 | fail)
      (first
        | (go_at_call 54; refine (HPO _).out.mono ?_; rintro e w6 ⟨rfl, hb6⟩; have HB6 : Hid (Below W0.heap.size W0 w6) := HD0.out.trans hb6; have p0 := HSK.out w6 HB6.out; clear hb6)
        | (go_at_call 53; refine (HSB.out _ HB6.out).mono ?_; rintro e w7 ⟨rfl, hb7⟩; have HB7 : Hid (Below W0.heap.size W0 w7) := HB6.out.trans (hb7.mono HB6.out.size); have p1 := HSK.out w7 HB7.out; clear hb7)
        | fail)
    have k4 := K.out w7 HB7.out 4 (.int .i64 (a : Int)) rfl
    clear ps p0 p1
    go_wp2
    go_ret
    exact ⟨rfl, HBX.out.trans (HB7.out.mono HBX.out.size)⟩

set_option maxHeartbeats 1600000 in
theorem cBits_zero  (ia ra da : Option Addr) (ic rc dc : Nat) (k m : Nat) (w : World) (_hk : k ≤ 1024) (_hm2 : m ≤ 26) (_hI : BlkIn w ⟨0, 0, 0, [], 0, 0, 0, [], []⟩ ia ra da ic rc dc)
    (HR : ∀ W, Below w.heap.size w W → Calls Try.prog 29 #[blkV ⟨0, 0, 0, [], 0, 0, 0, [], []⟩ ia ra da ic rc dc, .int .i64 k, .int .i64 m] W fun e w' => e = .returned (.bool true) ∧ Below W.heap.size W w') {L : Nat} (hL : (bitsB ⟨0, 0, 0, [], 0, 0, 0, [], []⟩ m).length = L):
    Calls Try.prog 14 #[blkV ⟨0, 0, 0, [], 0, 0, 0, [], []⟩ ia ra da ic rc dc, .int .i64 k, .int .i64 m] w fun e w' => e = .returned (.int .i64 (L : Int)) ∧ Below w.heap.size w w' := by
  have HBX : Hid (∀ o, Below w.heap.size w (w.alloc o)) := fun o => box_below w o
  have HRR := Lib.hid HR
  obtain rfl : L = 2 := by rw [← hL, bits_zero]
  unfold blkV at *
  dsimp only [List.length_nil] at *
  clear _hI HR hL
  have K : Hid (∀ (W : World), Below (w.heap.size + 1) (w.alloc (.cells #[.int .i64 0, .int .i64 0, .int .i64 0, .slice ia 0 ic, .int .i64 0, .int .i64 0, .int .i64 0, .slice ra 0 rc, .slice da 0 dc] 24)) W → ∀ j v, (#[.int .i64 0, .int .i64 0, .int .i64 0, .slice ia 0 ic, .int .i64 0, .int .i64 0, .int .i64 0, .slice ra 0 rc, .slice da 0 dc] : Array Value)[j]? = some v → W.cell? ⟨w.heap.size, j, none⟩ = some v) := fun W hW j v hj => by
    rw [hW.cell (p := ⟨w.heap.size, j, none⟩) (by simp), cell_of_heap (World.alloc_heap_new w _)]
    exact hj
  go_enter Try.func14, Try.ntmps14
  go_wp2_with fail
  refine (HRR.out _ (HBX.out _)).mono ?_
  rintro e w1 ⟨rfl, hb⟩
  have hb' := hb.mono (show w.heap.size + 1 ≤ _ by simp)
  have k0 := K.out w1 hb' 0 (.int .i64 0) rfl
  have k1 := K.out w1 hb' 1 (.int .i64 0) rfl
  have k2 := K.out w1 hb' 2 (.int .i64 0) rfl
  have k3 := K.out w1 hb' 3 (.slice ia 0 ic) rfl
  have k4 := K.out w1 hb' 4 (.int .i64 0) rfl
  have k5 := K.out w1 hb' 5 (.int .i64 0) rfl
  have k6 := K.out w1 hb' 6 (.int .i64 0) rfl
  have k7 := K.out w1 hb' 7 (.slice ra 0 rc) rfl
  have k8 := K.out w1 hb' 8 (.slice da 0 dc) rfl
  have HB : Hid (Below w.heap.size w w1) := (HBX.out _).trans (hb.mono (by simp))
  clear hb hb'
  go_wp2
  go_ret
  exact ⟨rfl, HB.out⟩


set_option maxHeartbeats 1600000 in
theorem cBits_const (x : Int) (ia ra da : Option Addr) (ic rc dc : Nat) (k m : Nat) (w : World) (_hk : k ≤ 1024) (hm2 : m ≤ 26) (_hI : BlkIn w ⟨1, x, 0, [], 0, 0, 0, [], []⟩ ia ra da ic rc dc)
    (HR : ∀ W, Below w.heap.size w W → Calls Try.prog 29 #[blkV ⟨1, x, 0, [], 0, 0, 0, [], []⟩ ia ra da ic rc dc, .int .i64 k, .int .i64 m] W fun e w' => e = .returned (.bool true) ∧ Below W.heap.size W w') {L : Nat} (hL : (bitsB ⟨1, x, 0, [], 0, 0, 0, [], []⟩ m).length = L):
    Calls Try.prog 14 #[blkV ⟨1, x, 0, [], 0, 0, 0, [], []⟩ ia ra da ic rc dc, .int .i64 k, .int .i64 m] w fun e w' => e = .returned (.int .i64 (L : Int)) ∧ Below w.heap.size w w' := by
  have HBX : Hid (∀ o, Below w.heap.size w (w.alloc o)) := fun o => box_below w o
  have HRR := Lib.hid HR
  obtain rfl : L = 2 + m := by rw [← hL, bits_const]
  unfold blkV at *
  dsimp only [List.length_nil] at *
  have hwm : IntKind.i64.wrap (2 + (m : Int)) = ((2 + m : Nat) : Int) := by rw [IntWalk.i64_in _ (by omega)]; omega
  clear _hI HR hL
  have K : Hid (∀ (W : World), Below (w.heap.size + 1) (w.alloc (.cells #[.int .i64 1, .int .i64 x, .int .i64 0, .slice ia 0 ic, .int .i64 0, .int .i64 0, .int .i64 0, .slice ra 0 rc, .slice da 0 dc] 24)) W → ∀ j v, (#[.int .i64 1, .int .i64 x, .int .i64 0, .slice ia 0 ic, .int .i64 0, .int .i64 0, .int .i64 0, .slice ra 0 rc, .slice da 0 dc] : Array Value)[j]? = some v → W.cell? ⟨w.heap.size, j, none⟩ = some v) := fun W hW j v hj => by
    rw [hW.cell (p := ⟨w.heap.size, j, none⟩) (by simp), cell_of_heap (World.alloc_heap_new w _)]
    exact hj
  go_enter Try.func14, Try.ntmps14
  go_wp2_with fail
  refine (HRR.out _ (HBX.out _)).mono ?_
  rintro e w1 ⟨rfl, hb⟩
  have hb' := hb.mono (show w.heap.size + 1 ≤ _ by simp)
  have k0 := K.out w1 hb' 0 (.int .i64 1) rfl
  have k1 := K.out w1 hb' 1 (.int .i64 x) rfl
  have k2 := K.out w1 hb' 2 (.int .i64 0) rfl
  have k3 := K.out w1 hb' 3 (.slice ia 0 ic) rfl
  have k4 := K.out w1 hb' 4 (.int .i64 0) rfl
  have k5 := K.out w1 hb' 5 (.int .i64 0) rfl
  have k6 := K.out w1 hb' 6 (.int .i64 0) rfl
  have k7 := K.out w1 hb' 7 (.slice ra 0 rc) rfl
  have k8 := K.out w1 hb' 8 (.slice da 0 dc) rfl
  have HB : Hid (Below w.heap.size w w1) := (HBX.out _).trans (hb.mono (by simp))
  clear hb hb'
  go_wp2
  go_ret
  exact ⟨rfl, HB.out⟩


set_option maxHeartbeats 1600000 in
theorem cBits_raw (data : List Int) (ia ra da : Option Addr) (ic rc dc : Nat) (k m : Nat) (w : World) (hk : k ≤ 1024) (hm2 : m ≤ 26) (_hI : BlkIn w ⟨3, 0, 0, [], 0, 0, 0, [], data⟩ ia ra da ic rc dc)
    (HR : ∀ W, Below w.heap.size w W → Calls Try.prog 29 #[blkV ⟨3, 0, 0, [], 0, 0, 0, [], data⟩ ia ra da ic rc dc, .int .i64 k, .int .i64 m] W fun e w' => e = .returned (.bool true) ∧ Below W.heap.size W w') {L : Nat} (hL : (bitsB ⟨3, 0, 0, [], 0, 0, 0, [], data⟩ m).length = L) (hdk : data.length = k):
    Calls Try.prog 14 #[blkV ⟨3, 0, 0, [], 0, 0, 0, [], data⟩ ia ra da ic rc dc, .int .i64 k, .int .i64 m] w fun e w' => e = .returned (.int .i64 (L : Int)) ∧ Below w.heap.size w w' := by
  have HBX : Hid (∀ o, Below w.heap.size w (w.alloc o)) := fun o => box_below w o
  have HRR := Lib.hid HR
  obtain rfl : L = 2 + data.length * m := by rw [← hL, bits_raw]
  rw [hdk]
  have hkm : k * m ≤ 26624 := by
    have := Nat.mul_le_mul hk hm2
    omega
  have hw1 : IntKind.i64.wrap ((k : Int) * (m : Int)) = (k : Int) * (m : Int) := by
    rw [← Int.natCast_mul, IntWalk.i64_in _ (by omega)]
  have hw2 : IntKind.i64.wrap (2 + (k : Int) * (m : Int)) = ((2 + k * m : Nat) : Int) := by
    rw [← Int.natCast_mul, IntWalk.i64_in _ (by omega)]; omega
  unfold blkV at *
  dsimp only [List.length_nil] at *
  clear _hI HR hL hkm hdk
  generalize data.length = dl at *
  have K : Hid (∀ (W : World), Below (w.heap.size + 1) (w.alloc (.cells #[.int .i64 3, .int .i64 0, .int .i64 0, .slice ia 0 ic, .int .i64 0, .int .i64 0, .int .i64 0, .slice ra 0 rc, .slice da dl dc] 24)) W → ∀ j v, (#[.int .i64 3, .int .i64 0, .int .i64 0, .slice ia 0 ic, .int .i64 0, .int .i64 0, .int .i64 0, .slice ra 0 rc, .slice da dl dc] : Array Value)[j]? = some v → W.cell? ⟨w.heap.size, j, none⟩ = some v) := fun W hW j v hj => by
    rw [hW.cell (p := ⟨w.heap.size, j, none⟩) (by simp), cell_of_heap (World.alloc_heap_new w _)]
    exact hj
  go_enter Try.func14, Try.ntmps14
  go_wp2_with fail
  refine (HRR.out _ (HBX.out _)).mono ?_
  rintro e w1 ⟨rfl, hb⟩
  have hb' := hb.mono (show w.heap.size + 1 ≤ _ by simp)
  have k0 := K.out w1 hb' 0 (.int .i64 3) rfl
  have k1 := K.out w1 hb' 1 (.int .i64 0) rfl
  have k2 := K.out w1 hb' 2 (.int .i64 0) rfl
  have k3 := K.out w1 hb' 3 (.slice ia 0 ic) rfl
  have k4 := K.out w1 hb' 4 (.int .i64 0) rfl
  have k5 := K.out w1 hb' 5 (.int .i64 0) rfl
  have k6 := K.out w1 hb' 6 (.int .i64 0) rfl
  have k7 := K.out w1 hb' 7 (.slice ra 0 rc) rfl
  have k8 := K.out w1 hb' 8 (.slice da dl dc) rfl
  have HB : Hid (Below w.heap.size w w1) := (HBX.out _).trans (hb.mono (by simp))
  clear hb hb'
  go_wp2
  go_ret
  exact ⟨rfl, HB.out⟩


set_option maxHeartbeats 1600000 in
theorem cBits_normal (s a g : Nat) (part : Int) (index rice data : List Int) (ia ra da : Option Addr) (ic rc dc : Nat) (k m : Nat) (w : World) (_hk : k ≤ 1024) (_hm2 : m ≤ 26) (hI : BlkIn w ⟨2, 0, s, index, a, g, part, rice, data⟩ ia ra da ic rc dc)
    (HR : ∀ W, Below w.heap.size w W → Calls Try.prog 29 #[blkV ⟨2, 0, s, index, a, g, part, rice, data⟩ ia ra da ic rc dc, .int .i64 k, .int .i64 m] W fun e w' => e = .returned (.bool true) ∧ Below W.heap.size W w') {L : Nat} (hL : (bitsB ⟨2, 0, s, index, a, g, part, rice, data⟩ m).length = L) (hil : index.length ≤ 16) (hp : slideOk data part rice = true):
    Calls Try.prog 14 #[blkV ⟨2, 0, s, index, a, g, part, rice, data⟩ ia ra da ic rc dc, .int .i64 k, .int .i64 m] w fun e w' => e = .returned (.int .i64 (L : Int)) ∧ Below w.heap.size w w' := by
  have HBX : Hid (∀ o, Below w.heap.size w (w.alloc o)) := fun o => box_below w o
  have HRR := Lib.hid HR
  have hsl : slideLen data part rice ≤ 1000000 := by unfold slideLen; exact slide_size hp
  obtain ⟨M, hM⟩ : ∃ M, M = 11 + 7 * index.length + slideLen data part rice + (if a = 0 then 0 else 12) := ⟨_, rfl⟩
  have hML : L = 2 + M := by rw [← hL, bits_normal, hM]; omega
  have hM2 : M ≤ 2000000 := by
    rw [hM]
    split <;> omega
  have HBN : Hid (∀ W, Below w.heap.size w W → Calls Try.prog 30 #[blkV ⟨2, 0, s, index, a, g, part, rice, data⟩ ia ra da ic rc dc] W fun e w' => e = .returned (.int .i64 (M : Int)) ∧ Below W.heap.size W w') := fun W hW => by
    have h := cBitsOfNormal s a g part index rice data ia ra da ic rc dc W hil hsl (hI.below hW)
    rw [← hM] at h
    exact h
  have hwm : IntKind.i64.wrap (2 + (M : Int)) = (L : Int) := by rw [IntWalk.i64_in _ (by omega)]; omega
  unfold blkV at *
  dsimp only [List.length_nil] at *
  clear hI HR hL hM hML hM2 hsl hp hil
  generalize index.length = il at *
  generalize rice.length = rl at *
  generalize data.length = dl at *
  have K : Hid (∀ (W : World), Below (w.heap.size + 1) (w.alloc (.cells #[.int .i64 2, .int .i64 0, .int .i64 s, .slice ia il ic, .int .i64 a, .int .i64 g, .int .i64 part, .slice ra rl rc, .slice da dl dc] 24)) W → ∀ j v, (#[.int .i64 2, .int .i64 0, .int .i64 s, .slice ia il ic, .int .i64 a, .int .i64 g, .int .i64 part, .slice ra rl rc, .slice da dl dc] : Array Value)[j]? = some v → W.cell? ⟨w.heap.size, j, none⟩ = some v) := fun W hW j v hj => by
    rw [hW.cell (p := ⟨w.heap.size, j, none⟩) (by simp), cell_of_heap (World.alloc_heap_new w _)]
    exact hj
  go_enter Try.func14, Try.ntmps14
  go_wp2_with fail
  refine (HRR.out _ (HBX.out _)).mono ?_
  rintro e w1 ⟨rfl, hb⟩
  have hb' := hb.mono (show w.heap.size + 1 ≤ _ by simp)
  have k0 := K.out w1 hb' 0 (.int .i64 2) rfl
  have k1 := K.out w1 hb' 1 (.int .i64 0) rfl
  have k2 := K.out w1 hb' 2 (.int .i64 s) rfl
  have k3 := K.out w1 hb' 3 (.slice ia il ic) rfl
  have k4 := K.out w1 hb' 4 (.int .i64 a) rfl
  have k5 := K.out w1 hb' 5 (.int .i64 g) rfl
  have k6 := K.out w1 hb' 6 (.int .i64 part) rfl
  have k7 := K.out w1 hb' 7 (.slice ra rl rc) rfl
  have k8 := K.out w1 hb' 8 (.slice da dl dc) rfl
  have HB : Hid (Below w.heap.size w w1) := (HBX.out _).trans (hb.mono (by simp))
  clear hb hb'
  go_wp2_with fail
  refine (HBN.out _ HB.out).mono ?_
  rintro e w2 ⟨rfl, hb2⟩
  have HB2 : Hid (Below w.heap.size w w2) := HB.out.trans (hb2.mono HB.out.size)
  clear hb2 k0 k1 k2 k3 k4 k5 k6 k7 k8
  go_wp2
  go_ret
  exact ⟨rfl, HB2.out⟩


/-- **How many bits a right block has.** -/
theorem cBits10 (bd : Blk) (ia ra da : Option Addr) (ic rc dc : Nat) (n : Int) (m : Nat) (w : World) (hc : codeB bd n m = 0) (hwf : Wf9 bd) (hI : BlkIn w bd ia ra da ic rc dc) :
    Calls Try.prog 14 #[blkV bd ia ra da ic rc dc, .int .i64 n, .int .i64 m] w fun e w' => e = .returned (.int .i64 ((bitsB bd m).length : Int)) ∧ Below w.heap.size w w' := by
  obtain ⟨k, m', rfl, hm, hk1, hk, hm1, hm2, hf, _, hall⟩ := right_of hc
  obtain rfl : m = m' := by omega
  have HR : ∀ W, Below w.heap.size w W → Calls Try.prog 29 #[blkV bd ia ra da ic rc dc, .int .i64 k, .int .i64 m] W fun e w' => e = .returned (.bool true) ∧ Below W.heap.size W w' := fun W hW => by
    have h := cIsRight bd ia ra da ic rc dc k m W (hI.below hW) hwf
    rw [decide_eq_true hc] at h
    exact h
  cases shape_of hf with
  | zero => exact cBits_zero ia ra da ic rc dc k m w hk hm2 hI HR rfl
  | const x => exact cBits_const x ia ra da ic rc dc k m w hk hm2 hI HR rfl
  | raw data h => exact cBits_raw data ia ra da ic rc dc k m w hk hm2 hI HR rfl h
  | normal s a g part index rice data h hs ha hg hz hi ht hp => exact cBits_normal s a g part index rice data ia ra da ic rc dc k m w hk hm2 hI HR rfl (LatM.good_len hi) hp
end Go.Proofs.Ytefbakhhlonafaa
