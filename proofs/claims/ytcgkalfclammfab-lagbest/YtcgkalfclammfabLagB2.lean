import Derived.Test.YtcgkalfclammfabLagB1
namespace Go.Proofs.Ytcgkalfclammfab
open Go.RowKit Go.Proofs Go.Proofs.PipeA Go.Proofs.LagM
set_option maxRecDepth 100000

/-- What a term leaves: its sizes' sum. -/
def costT (l : List Int) (t : Nat × Nat) : Nat := sumN (offL t.1 (t.2 : Int) l)
/-- The better one of two: the first, where they leave the same. -/
def pick (l : List Int) (s t : Nat × Nat) : Nat × Nat := if costT l t < costT l s then t else s
/-- The best one behind the first gains of a lag; behind the first lags. -/
def bestG (l : List Int) (a : Nat) (s : Nat × Nat) : Nat → Nat × Nat
  | 0 => s
  | b + 1 => pick l (bestG l a s b) (a, b + 1)
def bestA (l : List Int) : Nat → Nat × Nat
  | 0 => (0, 0)
  | a + 1 => bestG l (a + 1) (bestA l a) 15
theorem pick_new {l : List Int} {s t : Nat × Nat} (h : costT l t < costT l s) : pick l s t = t := if_pos h
theorem pick_old {l : List Int} {s t : Nat × Nat} (h : ¬ costT l t < costT l s) : pick l s t = s := if_neg h
theorem bestG_next (l : List Int) (a : Nat) (s : Nat × Nat) {b : Nat} (h : 1 ≤ b) : bestG l a s (b + 1 - 1) = pick l (bestG l a s (b - 1)) (a, b) := by
  obtain ⟨c, rfl⟩ : ∃ c, b = c + 1 := ⟨b - 1, by omega⟩
  rfl
theorem bestA_next (l : List Int) {a b : Nat} (h : 1 ≤ a) (hb : b = 16) : bestG l a (bestA l (a - 1)) (b - 1) = bestA l (a + 1 - 1) := by
  obtain ⟨c, rfl⟩ : ∃ c, a = c + 1 := ⟨a - 1, by omega⟩
  subst hb
  rfl
theorem pick_le (l : List Int) (s t : Nat × Nat) : costT l (pick l s t) ≤ costT l s := by
  unfold pick
  split
  · omega
  · exact Nat.le_refl _
theorem bestG_le (l : List Int) (a : Nat) (s : Nat × Nat) : ∀ b, costT l (bestG l a s b) ≤ costT l s
  | 0 => Nat.le_refl _
  | b + 1 => Nat.le_trans (pick_le l _ _) (bestG_le l a s b)
theorem bestA_le (l : List Int) : ∀ a, costT l (bestA l a) ≤ costT l (0, 0)
  | 0 => Nat.le_refl _
  | a + 1 => Nat.le_trans (bestG_le l _ _ 15) (bestA_le l a)
/-- A term that may be, of these lags. -/
def OkT (a : Nat) (t : Nat × Nat) : Prop := (t.1 = 0 ∧ t.2 = 0) ∨ (1 ≤ t.1 ∧ t.1 ≤ a ∧ 1 ≤ t.2 ∧ t.2 ≤ 15)
theorem bestG_ok (l : List Int) {a : Nat} {s : Nat × Nat} (ha : 1 ≤ a) (hs : OkT a s) : ∀ b, b ≤ 15 → OkT a (bestG l a s b)
  | 0, _ => hs
  | b + 1, h => by
    unfold bestG pick
    split
    · right; simp only; omega
    · exact bestG_ok l ha hs b (by omega)
theorem bestA_ok (l : List Int) : ∀ a, OkT a (bestA l a)
  | 0 => .inl ⟨rfl, rfl⟩
  | a + 1 => bestG_ok l (by omega) (by
      rcases bestA_ok l a with h | h
      · exact .inl h
      · exact .inr (by omega)) 15 (Nat.le_refl _)

/-- Where Best stands: the best trial lies in block B. -/
structure BestSt (w : World) (B : Nat) (l : List Int) (t : Nat × Nat) (W : World) : Prop where
  b0 : W.heap[w.heap.size]? = some (.cells #[.int .i64 0, .int .i64 0] 23)
  bB : W.heap[B]? = some (.cells #[.int .i64 (t.1 : Int), .int .i64 (t.2 : Int), .int .u64 0, .int .u64 (costT l t : Nat)] 51)
  lt : w.heap.size < B
  below : Below w.heap.size w W
theorem BestSt.mono {w A C : World} {B : Nat} {l : List Int} {t : Nat × Nat} (h : BestSt w B l t A) (hb : Below A.heap.size A C) : BestSt w B l t C :=
  ⟨(hb.block _ (Array.getElem?_eq_some_iff.1 h.b0).1).trans h.b0, (hb.block _ (Array.getElem?_eq_some_iff.1 h.bB).1).trans h.bB, h.lt, h.below.trans (hb.mono h.below.size)⟩
theorem BestSt.size {w A : World} {B : Nat} {l : List Int} {t : Nat × Nat} (h : BestSt w B l t A) : B < A.heap.size := (Array.getElem?_eq_some_iff.1 h.bB).1
theorem BestSt.set {w W : World} {B : Nat} {l : List Int} {t u : Nat × Nat} (h : BestSt w B l t W) : BestSt w B l u ((((W.setCell ⟨B, 0, none⟩ (.int .i64 (u.1 : Int))).setCell ⟨B, 1, none⟩ (.int .i64 (u.2 : Int))).setCell ⟨B, 2, none⟩ (.int .u64 0)).setCell ⟨B, 3, none⟩ (.int .u64 (costT l u : Nat))) := by
  have hlt := h.lt
  have hne : w.heap.size ≠ B := by omega
  have hle : w.heap.size ≤ B := by omega
  exact ⟨(Below.heap_setCell _ _ _ _ hne).trans ((Below.heap_setCell _ _ _ _ hne).trans ((Below.heap_setCell _ _ _ _ hne).trans ((Below.heap_setCell _ _ _ _ hne).trans h.b0))), set_four _ _ _ _ h.bB, h.lt,
    (((h.below.setCell (p := ⟨B, 0, none⟩) hle _).setCell (p := ⟨B, 1, none⟩) hle _).setCell (p := ⟨B, 2, none⟩) hle _).setCell (p := ⟨B, 3, none⟩) hle _⟩

set_option maxHeartbeats 3200000 in
theorem cBest (ao : Option Addr) (cap : Nat) (l : List Int) (w : World) (hl : l.length ≤ 24) (hcap : l.length ≤ cap) (hb : l.all inB = true) (hi : IntsAt w ao l) :
    Calls Try.prog 17 #[.slice ao l.length cap] w fun e w' => e = .returned (termV ((bestA l (l.length - 1)).1 : Nat) ((bestA l (l.length - 1)).2 : Nat)) ∧ Below w.heap.size w w' := by
  obtain ⟨wa, hwa⟩ : ∃ wa, wa = w.alloc (.cells #[.int .i64 0, .int .i64 0] 23) := ⟨_, rfl⟩
  have hba : Below w.heap.size w wa := by rw [hwa]; exact box_below w _
  have h0a : wa.heap[w.heap.size]? = some (.cells #[.int .i64 0, .int .i64 0] 23) := by rw [hwa]; exact World.alloc_heap_new w _
  have HI := Lib.hid hi
  have HB := Lib.hid hb
  have HCT := Lib.hid (cContains ao cap l wa (by omega) (hi.below hba))
  have HT0 := Lib.hid (cTried 0 0 ao cap l wa (by omega) (by omega) (by omega) hcap hb (hi.below hba))
  rw [hb] at HCT
  have HBA := Lib.hid hba
  have H0A := Lib.hid h0a
  have HC0 : Hid (sumN (offL 0 0 l) = costT l (0, 0)) := rfl
  rw [HC0.out] at HT0
  unfold termV trialL at HT0
  unfold termV
  simp only [Int.natCast_zero, Bool.not_true] at HT0 HCT
  obtain ⟨s0, hs0⟩ : ∃ s0, s0 = costT l (0, 0) := ⟨_, rfl⟩
  rw [← hs0] at HT0
  have HS0 := Lib.hid hs0
  have HWA := Lib.hid hwa
  clear hi hb hba h0a hs0 hwa
  go_enter Try.func17, Try.ntmps17
  go_wp2_with fail
  rw [← HWA.out]
  refine HCT.out.mono ?_
  rintro e w1 ⟨rfl, rfl⟩
  go_wp2_with fail
  refine HT0.out.mono ?_
  rintro e w2 ⟨rfl, hb2⟩
  have hlt2 : w.heap.size < w2.heap.size := Nat.lt_of_lt_of_le (Array.getElem?_eq_some_iff.1 H0A.out).1 hb2.size
  have hb02 := HBA.out.trans (hb2.mono HBA.out.size)
  have hSt : BestSt w w2.heap.size l (0, 0) (w2.alloc (.cells #[.int .i64 0, .int .i64 0, .int .u64 0, .int .u64 (s0 : Nat)] 51)) :=
    ⟨(Below.heap_alloc _ _ _ hlt2).trans ((hb2.block _ (Array.getElem?_eq_some_iff.1 H0A.out).1).trans H0A.out), by rw [HS0.out]; exact World.alloc_heap_new w2 _, hlt2, hb02.alloc hb02.size _⟩
  have HST := Lib.hid hSt
  obtain ⟨B, hB⟩ : ∃ B, B = w2.heap.size := ⟨_, rfl⟩
  obtain ⟨w3, hw3⟩ : ∃ w3, w3 = w2.alloc (.cells #[.int .i64 0, .int .i64 0, .int .u64 0, .int .u64 (s0 : Nat)] 51) := ⟨_, rfl⟩
  rw [← hw3, ← hB] at HST
  have HW3 := Lib.hid hw3
  have HBB := Lib.hid hB
  clear hw3 hB hb2 hlt2 hb02 hSt HT0 HCT HWA H0A HBA
  go_wp2
  rw [← HW3.out, ← HBB.out]
  go_loopg [4, 5, 6] (l.length - 1) (fun gk i q5 q6 wr => ∃ A : Nat, 1 ≤ A ∧ (A ≤ l.length ∨ A = 1) ∧ gk = l.length - A ∧ i = .int .i64 A ∧ Hid (BestSt w B l (bestA l (A - 1)) wr))
  case atStart => exact ⟨1, Nat.le_refl _, .inr rfl, rfl, rfl, HST.out⟩
  case round =>
    obtain ⟨A, hA1, hA2, hgk, rfl, HZ⟩ := hrel
    have HGK := Lib.hid hgk
    have HA2 := Lib.hid hA2
    clear hgk hA2 HST HW3 HBB
    by_cases hlt : A < l.length
    · have hA255 : A ≤ 255 := by omega
      obtain ⟨W1, hW1⟩ : ∃ W1, W1 = wr := ⟨_, rfl⟩
      obtain ⟨G1, hG1⟩ : ∃ G1, G1 = gk := ⟨_, rfl⟩
      subst hW1 hG1
      have HZ1 := Lib.hid HZ.out
      have HGK1 := Lib.hid HGK.out
      have HBG : Hid (bestG l A (bestA l (A - 1)) (1 - 1) = bestA l (A - 1)) := rfl
      clear HZ HGK
      go_wp2
      go_loopg [5, 6] 15 (fun gk i q6 wr => ∃ G : Nat, 1 ≤ G ∧ G ≤ 16 ∧ gk + G = 16 ∧ i = .int .i64 G ∧ Hid (BestSt w B l (bestG l A (bestA l (A - 1)) (G - 1)) wr))
      case atStart => exact ⟨1, Nat.le_refl _, by omega, by omega, rfl, HZ1.out⟩
      case round =>
        obtain ⟨G, hG1, hG2, hgk, rfl, HZ⟩ := hrel
        have HGK := Lib.hid hgk
        clear hgk
        by_cases hg : G ≤ 15
        · have hTR := cTried A (G : Int) ao cap l wr (by omega) (by omega) (by omega) hcap HB.out (HI.out.below HZ.out.below)
          have HNX := Lib.hid (bestG_next l A (bestA l (A - 1)) hG1)
          obtain ⟨tB, hTB⟩ : ∃ tB, tB = bestG l A (bestA l (A - 1)) (G - 1) := ⟨_, rfl⟩
          rw [← hTB] at HZ HNX
          obtain ⟨cN, hcN⟩ : ∃ cN, cN = costT l (A, G) := ⟨_, rfl⟩
          rw [show sumN (offL A (G : Int) l) = cN from hcN.symm] at hTR
          obtain ⟨cB, hcB⟩ : ∃ cB, cB = costT l tB := ⟨_, rfl⟩
          unfold termV trialL at hTR
          have HTR := Lib.hid hTR
          have HCN := Lib.hid hcN
          have HCB := Lib.hid hcB
          have HLS := fun W => Lib.hid (cSLess cN cB W)
          unfold sizeV at HLS
          clear hTR hTB hcN hcB
          by_cases hless : cN < cB
          · have HP : Hid (pick l tB (A, G) = (A, G)) := pick_new (by rw [← HCN.out, ← HCB.out]; exact hless)
            rw [decide_eq_true hless] at HLS
            clear hless
            go_wp2_with fail
            refine HTR.out.mono ?_
            rintro e w5 ⟨rfl, hb5⟩
            have hZ5 := HZ.out.mono hb5
            have hZ6 := hZ5.mono (box_below w5 (.cells #[.int .i64 (A : Int), .int .i64 (G : Int), .int .u64 0, .int .u64 (cN : Nat)] 51))
            have hN6 := World.alloc_heap_new w5 (.cells #[.int .i64 (A : Int), .int .i64 (G : Int), .int .u64 0, .int .u64 (cN : Nat)] 51)
            obtain ⟨⟨k0, k1, k2, k3⟩, _⟩ := cells_four hZ6.bB
            rw [← HCB.out] at k3
            have HZ6 := Lib.hid hZ6
            have HN6 := Lib.hid hN6
            clear hb5 hZ5 hZ6 hN6 HTR HZ k0 k1
            go_wp2_with fail
            refine (HLS _).out.mono ?_
            rintro e w7 ⟨rfl, hb7⟩
            have hN7 := (hb7.block _ (Array.getElem?_eq_some_iff.1 HN6.out).1).trans HN6.out
            have HZ7 := Lib.hid (HZ6.out.mono hb7)
            obtain ⟨⟨n0, n1, n2, n3⟩, _⟩ := cells_four hN7
            obtain ⟨_, g0, g1, g2, g3⟩ := cells_four HZ7.out.bB
            have HZ8 : Hid (BestSt w B l (bestG l A (bestA l (A - 1)) (G + 1 - 1)) ((((w7.setCell ⟨B, 0, none⟩ (.int .i64 (A : Int))).setCell ⟨B, 1, none⟩ (.int .i64 (G : Int))).setCell ⟨B, 2, none⟩ (.int .u64 0)).setCell ⟨B, 3, none⟩ (.int .u64 (cN : Nat)))) := by
              have := HZ7.out.set (u := (A, G))
              rw [HNX.out, HP.out]
              rw [← HCN.out] at this
              exact this
            clear hb7 hN7 HZ6 HN6 HLS k2 k3
            go_wp2
            go_roundg (gk - 1)
            case rel => exact ⟨G + 1, by omega, by omega, by have := HGK.out; omega, by go_num, HZ8.out⟩
            case measure => have := HGK.out; omega
          · have HP : Hid (pick l tB (A, G) = tB) := pick_old (by rw [← HCN.out, ← HCB.out]; exact hless)
            rw [decide_eq_false hless] at HLS
            clear hless
            go_wp2_with fail
            refine HTR.out.mono ?_
            rintro e w5 ⟨rfl, hb5⟩
            have hZ5 := HZ.out.mono hb5
            have hZ6 := hZ5.mono (box_below w5 (.cells #[.int .i64 (A : Int), .int .i64 (G : Int), .int .u64 0, .int .u64 (cN : Nat)] 51))
            have hN6 := World.alloc_heap_new w5 (.cells #[.int .i64 (A : Int), .int .i64 (G : Int), .int .u64 0, .int .u64 (cN : Nat)] 51)
            obtain ⟨⟨k0, k1, k2, k3⟩, _⟩ := cells_four hZ6.bB
            rw [← HCB.out] at k3
            have HZ6 := Lib.hid hZ6
            have HN6 := Lib.hid hN6
            clear hb5 hZ5 hZ6 hN6 HTR HZ k0 k1
            go_wp2_with fail
            refine (HLS _).out.mono ?_
            rintro e w7 ⟨rfl, hb7⟩
            have hN7 := (hb7.block _ (Array.getElem?_eq_some_iff.1 HN6.out).1).trans HN6.out
            have HZ7 := Lib.hid (HZ6.out.mono hb7)
            have HZ8 : Hid (BestSt w B l (bestG l A (bestA l (A - 1)) (G + 1 - 1)) w7) := by
              show BestSt _ _ _ _ _
              rw [HNX.out, HP.out]
              exact HZ7.out
            clear hb7 hN7 HZ6 HN6 HLS k2 k3
            go_wp2
            go_roundg (gk - 1)
            case rel => exact ⟨G + 1, by omega, by omega, by have := HGK.out; omega, by go_num, HZ8.out⟩
            case measure => have := HGK.out; omega
        · have hG16 : G = 16 := by omega
          have HZ8 : Hid (BestSt w B l (bestA l (A + 1 - 1)) wr) := by
            show BestSt _ _ _ _ _
            rw [← bestA_next l hA1 hG16]
            exact HZ.out
          clear hG16 HZ HGK
          go_wp2
          go_roundg (G1 - 1)
          case rel => exact ⟨A + 1, by omega, .inl (by omega), by have := HGK1.out; omega, by go_num, HZ8.out⟩
          case measure => have := HGK1.out; omega
    · have hAl : A - 1 = l.length - 1 := by have := HA2.out; omega
      have hA255 : A ≤ 255 := by have := HA2.out; omega
      have hZ := HZ.out
      rw [hAl] at hZ
      have HZH := Lib.hid hZ
      obtain ⟨⟨p0, p1, p2, p3⟩, _⟩ := cells_four hZ.bB
      obtain ⟨q0, q1, g0, g1⟩ := cells_two hZ.b0
      obtain ⟨u, hu⟩ : ∃ u, u = bestA l (l.length - 1) := ⟨_, rfl⟩
      rw [← hu] at p0 p1
      have HU := Lib.hid hu
      have e0 := set_two (.int .i64 (u.1 : Int)) (.int .i64 (u.2 : Int)) HZH.out.b0
      obtain ⟨r0, r1, _, _⟩ := cells_two e0
      have R0 := Lib.hid r0
      have R1 := Lib.hid r1
      have HBE := Lib.hid ((HZH.out.below.setCell (p := ⟨w.heap.size, 0, none⟩) (Nat.le_refl _) (.int .i64 (u.1 : Int))).setCell (p := ⟨w.heap.size, 1, none⟩) (Nat.le_refl _) (.int .i64 (u.2 : Int)))
      clear hZ hu HZ HGK hAl r0 r1 e0 p2 p3
      go_wp2
      refine bodyPost_ret (v := .agg #[.int .i64 (u.1 : Int), .int .i64 (u.2 : Int)]) (by simp [results, Try.results17, go_sem, R0.out, R1.out]) rfl ?_
      exact ⟨by rw [← HU.out], HBE.out⟩
end Go.Proofs.Ytcgkalfclammfab
