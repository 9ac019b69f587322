import Derived.Test.YtefbakhhlonafaaBlkL1
import Derived.Test.YtefbakhhlonafaaBlkF6
import Derived.Test.YtefbakhhlonafaaRef3g

namespace Go.Proofs.Ytefbakhhlonafaa
open Go.RowKit Go.Proofs Go.Proofs.PipeM Go.Proofs.PipeA Go.Proofs.BlkM Go.Proofs.BlkB
set_option maxRecDepth 100000

/-- A row that may be written over. -/
def SevAt (W : World) (b off n : Nat) : Prop := ∀ j, j < n → (∃ v, W.cell? ⟨b, off + j, none⟩ = some v) ∧ W.frozen? ⟨b, off + j, none⟩ = false
theorem SevAt.set {W : World} {b off n c : Nat} {v : Value} (h : SevAt W b off n) (hc : c < n) : SevAt (W.setCell ⟨b, off + c, none⟩ v) b off n := by
  intro j hj
  rw [World.frozen?_setCell]
  refine ⟨?_, (h j hj).2⟩
  by_cases e : j = c
  · subst e
    obtain ⟨u, hu⟩ := (h j hj).1
    exact ⟨v, World.cell?_setCell_same' _ _ _ (by rw [hu]; rfl)⟩
  · obtain ⟨u, hu⟩ := (h j hj).1
    exact ⟨u, by rw [World.cell?_setCell_other _ _ _ _ (by simp)]; exact hu⟩

set_option maxHeartbeats 1600000 in
/-- Where the law asks nothing. -/
theorem samples_much (kind value shift lag gain part : Int) (ia ra da : Option Addr) (il ic rl rc dl dc : Nat) (n d : Int) (w : World) (h : (decide (il ≤ 24) && decide (rl ≤ 12) && decide (dl ≤ 64)) = false ∨ ((decide (il ≤ 24) && decide (rl ≤ 12) && decide (dl ≤ 64)) = true ∧ decide (64 < n) = true)) :
    Calls Try.prog 3 #[.agg #[.int .i64 kind, .int .i64 value, .int .i64 shift, .slice ia il ic, .int .i64 lag, .int .i64 gain, .int .i64 part, .slice ra rl rc, .slice da dl dc], .int .i64 n, .int .i64 d] w fun e w' => e = .returned (.bool true) ∧ Below w.heap.size w w' := by
  have HB : Hid (∀ o, Below w.heap.size w (w.alloc o)) := fun o => box_below w o
  have HAW := fun W => Lib.hid (awake10 W)
  have HFW := fun W => Lib.hid (cFew10 kind value shift lag gain part ia ra da il ic rl rc dl dc W)
  have K : Hid (∀ (W : World) (o : Array Value), Below (w.heap.size + 1) (w.alloc (.cells o 24)) W → ∀ j v, o[j]? = some v → W.cell? ⟨w.heap.size, j, none⟩ = some v) := fun W o hW j v hj => by
    rw [hW.cell (p := ⟨w.heap.size, j, none⟩) (by simp), cell_of_heap (World.alloc_heap_new w _)]
    exact hj
  generalize (decide (il ≤ 24) && decide (rl ≤ 12) && decide (dl ≤ 64)) = fw at *
  have go : ∀ fw', fw = fw' → (fw' = false ∨ (fw' = true ∧ decide (64 < n) = true)) → Calls Try.prog 3 #[.agg #[.int .i64 kind, .int .i64 value, .int .i64 shift, .slice ia il ic, .int .i64 lag, .int .i64 gain, .int .i64 part, .slice ra rl rc, .slice da dl dc], .int .i64 n, .int .i64 d] w fun e w' => e = .returned (.bool true) ∧ Below w.heap.size w w' := by
    intro fw' hfw h
    subst hfw
    rcases h with rfl | ⟨rfl, t1⟩
    all_goals
      go_enter Try.func3, Try.ntmps3
      go_wp2_with fail
      refine (HAW _).out.mono ?_
      rintro e w1 ⟨rfl, hb1⟩
      have hb' := hb1.mono (show w.heap.size + 1 ≤ _ by simp)
      have k0 := K.out w1 _ hb' 0 (.int .i64 kind) rfl
      have k1 := K.out w1 _ hb' 1 (.int .i64 value) rfl
      have k2 := K.out w1 _ hb' 2 (.int .i64 shift) rfl
      have k3 := K.out w1 _ hb' 3 (.slice ia il ic) rfl
      have k4 := K.out w1 _ hb' 4 (.int .i64 lag) rfl
      have k5 := K.out w1 _ hb' 5 (.int .i64 gain) rfl
      have k6 := K.out w1 _ hb' 6 (.int .i64 part) rfl
      have k7 := K.out w1 _ hb' 7 (.slice ra rl rc) rfl
      have k8 := K.out w1 _ hb' 8 (.slice da dl dc) rfl
      have HB1 : Hid (Below w.heap.size w w1) := (HB.out _).trans (hb1.mono (by simp))
      clear hb1 hb'
      go_wp2_with fail
      refine (HFW _).out.mono ?_
      rintro e w2 ⟨rfl, hb2⟩
      have HB2 : Hid (Below w.heap.size w w2) := HB1.out.trans (hb2.mono HB1.out.size)
      clear hb2 k0 k1 k2 k3 k4 k5 k6 k7 k8
      go_wp2_with fail
      refine (HAW _).out.mono ?_
      rintro e w3 ⟨rfl, hb3⟩
      have HB3 : Hid (Below w.heap.size w w3) := HB2.out.trans (hb3.mono HB2.out.size)
      clear hb3
      go_wp2
      go_ret
      exact ⟨rfl, HB3.out⟩
  exact go fw rfl h

set_option maxHeartbeats 6400000 in
theorem samples_few (b : Blk) (ia ra da : Option Addr) (ic rc dc : Nat) (n d : Int) (w : World) (hI : BlkIn w b ia ra da ic rc dc) (hw : Wf9 b) (hf : (decide (b.index.length ≤ 24) && decide (b.rice.length ≤ 12) && decide (b.data.length ≤ 64)) = true) (hn : n ≤ 64) :
    Calls Try.prog 3 #[blkV b ia ra da ic rc dc, .int .i64 n, .int .i64 d] w fun e w' => e = .returned (.bool true) ∧ Below w.heap.size w w' := by
  have HAW := fun W => Lib.hid (awake10 W)
  have hbx := fun o => box_below w o
  obtain ⟨kind, value, shift, index, lag, gain, part, rice, data⟩ := b
  have HFW := fun W => Lib.hid (cFew10 kind value shift lag gain part ia ra da index.length ic rice.length rc data.length dc W)
  dsimp only at hf
  rw [hf] at HFW
  obtain ⟨W0, hW0⟩ : ∃ W0, W0 = w.alloc (.cells #[.int .i64 kind, .int .i64 value, .int .i64 shift, .slice ia index.length ic, .int .i64 lag, .int .i64 gain, .int .i64 part, .slice ra rice.length rc, .slice da data.length dc] 24) := ⟨_, rfl⟩
  have hb0 := box_below w (.cells #[.int .i64 kind, .int .i64 value, .int .i64 shift, .slice ia index.length ic, .int .i64 lag, .int .i64 gain, .int .i64 part, .slice ra rice.length rc, .slice da data.length dc] 24)
  have hn0 := World.alloc_heap_new w (.cells #[.int .i64 kind, .int .i64 value, .int .i64 shift, .slice ia index.length ic, .int .i64 lag, .int .i64 gain, .int .i64 part, .slice ra rice.length rc, .slice da data.length dc] 24)
  rw [← hW0] at hb0 hn0
  have hI0 := hI.below hb0
  have HC1 : Hid (∀ W, Below W0.heap.size W0 W → Calls Try.prog 7 #[blkV ⟨kind, value, shift, index, lag, gain, part, rice, data⟩ ia ra da ic rc dc, .int .i64 n, .int .i64 d] W (SampW (codeB ⟨kind, value, shift, index, lag, gain, part, rice, data⟩ n d) (outB ⟨kind, value, shift, index, lag, gain, part, rice, data⟩ n.toNat) W)) := fun W hW => cSamplesW ⟨kind, value, shift, index, lag, gain, part, rice, data⟩ ia ra da ic rc dc n d W (hI0.below hW) hw
  have HC2 : Hid (∀ W, Below W0.heap.size W0 W → Calls Try.prog 8 #[blkV ⟨kind, value, shift, index, lag, gain, part, rice, data⟩ ia ra da ic rc dc, .int .i64 n, .int .i64 d] W (SampIs (codeB ⟨kind, value, shift, index, lag, gain, part, rice, data⟩ n d) (outB ⟨kind, value, shift, index, lag, gain, part, rice, data⟩ n.toNat) W)) := fun W hW => rSamples10 ⟨kind, value, shift, index, lag, gain, part, rice, data⟩ ia ra da ic rc dc n d W (hI0.below hW)
  have K : Hid (∀ W, Below W0.heap.size W0 W → ∀ j v, (#[.int .i64 kind, .int .i64 value, .int .i64 shift, .slice ia index.length ic, .int .i64 lag, .int .i64 gain, .int .i64 part, .slice ra rice.length rc, .slice da data.length dc] : Array Value)[j]? = some v → W.cell? ⟨w.heap.size, j, none⟩ = some v) := fun W hW j v hj => by
    rw [hW.cell (p := ⟨w.heap.size, j, none⟩) (Array.getElem?_eq_some_iff.1 hn0).1, cell_of_heap hn0]
    exact hj
  have hol : codeB ⟨kind, value, shift, index, lag, gain, part, rice, data⟩ n d = 0 → (outB ⟨kind, value, shift, index, lag, gain, part, rice, data⟩ n.toNat).length ≤ 1024 := fun h => by
    obtain ⟨k, m, rfl, rfl, _, hk, _, _, hff, _⟩ := right_of h
    rw [show ((k : Int)).toNat = k from rfl, outB_len hff]
    exact hk
  have HOL := Lib.hid hol
  have t1 : decide (64 < n) = false := decide_eq_false (by omega)
  have HW0 := Lib.hid hW0
  have HB0 := Lib.hid hb0
  have hsz0 : w.heap.size < W0.heap.size := (Array.getElem?_eq_some_iff.1 hn0).1
  unfold blkV at HC1 HC2 ⊢
  dsimp only at HC1 HC2 ⊢
  generalize codeB ⟨kind, value, shift, index, lag, gain, part, rice, data⟩ n d = cd at *
  generalize outB ⟨kind, value, shift, index, lag, gain, part, rice, data⟩ n.toNat = O at *
  generalize index.length = il at *
  generalize rice.length = rl at *
  generalize data.length = dl at *
  clear hI hw hf hn hW0 hb0 hn0 hI0 hbx hol
  have KA : Hid (∀ W, Below W0.heap.size W0 W → W.cell? ⟨w.heap.size, 0, none⟩ = some (.int .i64 kind) ∧ W.cell? ⟨w.heap.size, 1, none⟩ = some (.int .i64 value) ∧ W.cell? ⟨w.heap.size, 2, none⟩ = some (.int .i64 shift) ∧ W.cell? ⟨w.heap.size, 3, none⟩ = some (.slice ia il ic) ∧ W.cell? ⟨w.heap.size, 4, none⟩ = some (.int .i64 lag) ∧ W.cell? ⟨w.heap.size, 5, none⟩ = some (.int .i64 gain) ∧ W.cell? ⟨w.heap.size, 6, none⟩ = some (.int .i64 part) ∧ W.cell? ⟨w.heap.size, 7, none⟩ = some (.slice ra rl rc) ∧ W.cell? ⟨w.heap.size, 8, none⟩ = some (.slice da dl dc)) := fun W h => ⟨K.out W h 0 _ rfl, K.out W h 1 _ rfl, K.out W h 2 _ rfl, K.out W h 3 _ rfl, K.out W h 4 _ rfl, K.out W h 5 _ rfl, K.out W h 6 _ rfl, K.out W h 7 _ rfl, K.out W h 8 _ rfl⟩
  go_enter Try.func3, Try.ntmps3
  go_wp2_with fail
  rw [← HW0.out]
  refine (HAW _).out.mono ?_
  rintro e w1 ⟨rfl, hb1⟩
  have HB1 := Lib.hid hb1
  obtain ⟨k0, k1, k2, k3, k4, k5, k6, k7, k8⟩ := KA.out w1 hb1
  clear hb1
  go_wp2_with fail
  refine (HFW _).out.mono ?_
  rintro e w2 ⟨rfl, hb2⟩
  have HB2 : Hid (Below W0.heap.size W0 w2) := HB1.out.trans (hb2.mono HB1.out.size)
  clear hb2 k0 k1 k2 k3 k4 k5 k6 k7 k8
  go_wp2
  go_loopg [7, 8, 9, 10, 11, 24] 2 (fun gk q1 q2 q3 q4 q5 i wr => ∃ c : Nat, c ≤ 2 ∧ gk + c = 2 ∧ i = .int .i64 c ∧ Hid (Below W0.heap.size W0 wr))
  case atStart => exact ⟨0, by omega, by omega, rfl, HB2⟩
  case round =>
    obtain ⟨c, hc, hgk, rfl, HBR⟩ := hrel
    obtain ⟨G2, rfl⟩ : ∃ G2, G2 = gk := ⟨_, rfl⟩
    obtain ⟨WR, rfl⟩ : ∃ WR, WR = wr := ⟨_, rfl⟩
    have HGK := Lib.hid hgk
    clear hgk
    by_cases hlt : c < 2
    · obtain ⟨k0, k1, k2, k3, k4, k5, k6, k7, k8⟩ := KA.out WR HBR.out
      have HS1 := Lib.hid (HC1.out WR HBR.out)
      have hct : decide ((c : Int) < 2) = true := decide_eq_true (by omega)
      go_wp2_with fail
      refine HS1.out.mono ?_
      rintro e w3 h3
      have hb3 : Below WR.heap.size WR w3 := by rcases h3 with ⟨_, _, h⟩ | ⟨_, _, _, _, _, _, h, _⟩ <;> exact h
      have HB3 : Hid (Below W0.heap.size W0 w3) := HBR.out.trans (hb3.mono HBR.out.size)
      have HS2 := Lib.hid (HC2.out w3 HB3.out)
      have HH3 := Lib.hid h3
      obtain ⟨m0, m1, m2, m3, m4, m5, m6, m7, m8⟩ := KA.out w3 HB3.out
      clear h3 hb3 k0 k1 k2 k3 k4 k5 k6 k7 k8
      by_cases hcd : cd = 0
      rotate_left
      · obtain ⟨_, rfl, _⟩ := HH3.out.resolve_right (fun h => hcd h.1)
        have HN := Lib.hid hcd
        clear hcd HH3
        go_wp2_with fail
        refine HS2.out.mono ?_
        rintro e w4 h4
        obtain ⟨_, rfl, hb4⟩ := h4.resolve_right (fun h => HN.out h.1)
        have HB4 : Hid (Below W0.heap.size W0 w4) := HB3.out.trans (hb4.mono HB3.out.size)
        have hsm := refSame none none 0 0 [] [] w4 (by simp) (fun j hj => by simp at hj) (fun j hj => by simp at hj)
        rw [decide_eq_true rfl] at hsm
        have HSM := Lib.hid hsm
        have u1 : (cd != cd) = false := by simp
        dsimp only [List.length_nil] at HSM
        clear h4 hb4 m0 m1 m2 m3 m4 m5 m6 m7 m8 hsm
        go_wp2_with fail
        refine HSM.out.mono ?_
        rintro e w5 ⟨rfl, k5, hw5⟩
        have HB5 : Hid (Below W0.heap.size W0 w5) := by show Below _ _ _; rw [hw5]; exact HB4.out.trans ((keeps_drewN w4 k5 []).below HB4.out.size (by simp))
        clear hw5
        go_wp2
        go_loopg [11, 51] 0 (fun gk q i wr => i = .int .i64 0 ∧ Hid (Below W0.heap.size W0 wr))
        case atStart => exact ⟨rfl, HB5⟩
        case round =>
          obtain ⟨rfl, HB6⟩ := hrel
          go_wp2
          go_roundg (G2 - 1)
          case rel => exact ⟨c + 1, by omega, by have := HGK.out; omega, by go_num, HB6⟩
          case measure => have := HGK.out; omega
      · subst hcd
        obtain ⟨_, ao, cap, he, hi3, _, _, hf3, hw3⟩ := HH3.out.resolve_left (fun h => h.1 rfl)
        have HO := Lib.hid (HOL.out rfl)
        generalize hoe : O.length = ol at *
        have HOE := Lib.hid hoe
        have hol1 : ol ≤ 1024 := by have := HO.out; omega
        subst he
        have HI3 := Lib.hid hi3
        have HF3 : Hid (FreshOf W0 ao) := fun g off e => Nat.le_trans HBR.out.size (hf3 g off e)
        have HWR3 := Lib.hid hw3
        clear hi3 hf3 hw3 HH3 hoe
        go_wp2_with fail
        refine HS2.out.mono ?_
        rintro e w4 h4
        obtain ⟨_, ao4, cap4, he, hi4, _, hb4, _⟩ := h4.resolve_left (fun h => h.1 rfl)
        rw [HOE.out] at he
        subst he
        have HB4 : Hid (Below W0.heap.size W0 w4) := HB3.out.trans (hb4.mono HB3.out.size)
        have HI4 := Lib.hid (HI3.out.below hb4)
        have hsm := refSame ao ao4 cap cap4 O O w4 (by have := HO.out; have := HOE.out; omega) HI4.out hi4
        rw [decide_eq_true rfl, HOE.out] at hsm
        have HSM := Lib.hid hsm
        have HSV : Hid (∀ b off, ao = some ⟨b, off, none⟩ → 0 < ol → SevAt w4 b off ol ∧ W0.heap.size ≤ b ∧ b < w4.heap.size) := fun b off e h0 => by
          have hl3 : b < w3.heap.size := by
            obtain ⟨b', off', e', hh, _⟩ := HI3.out 0 (by rw [HOE.out]; exact h0)
            rw [e] at e'
            cases e'
            exact hh
          refine ⟨fun j hj => ?_, HF3.out b off e, Nat.lt_of_lt_of_le hl3 hb4.size⟩
          obtain ⟨b', off', e', _, hcl⟩ := HI4.out j (by rw [HOE.out]; exact hj)
          rw [e] at e'
          cases e'
          exact ⟨⟨_, hcl⟩, (hb4.frozen (p := ⟨b, off + j, none⟩) hl3).trans (HWR3.out b off e j hj)⟩
        clear h4 hb4 hi4 m0 m1 m2 m3 m4 m5 m6 m7 m8 hsm
        go_wp2_with fail
        refine HSM.out.mono ?_
        rintro e w5 ⟨rfl, k5, hw5⟩
        have HB5 : Hid (Below W0.heap.size W0 w5) := by show Below _ _ _; rw [hw5]; exact HB4.out.trans ((keeps_drewN w4 k5 []).below HB4.out.size (by simp))
        have HS5 : Hid (∀ b off, ao = some ⟨b, off, none⟩ → 0 < ol → SevAt w5 b off ol ∧ W0.heap.size ≤ b ∧ b < w5.heap.size) := by
          show ∀ b off, ao = some ⟨b, off, none⟩ → 0 < ol → SevAt w5 b off ol ∧ W0.heap.size ≤ b ∧ b < w5.heap.size
          rw [hw5]
          exact HSV.out
        clear hw5 HSV HSM
        have HAD : Hid (0 < ol → ∃ b off, ao = some ⟨b, off, none⟩) := fun h0 => by
          obtain ⟨b', off', e', _⟩ := HI3.out 0 (by rw [HOE.out]; exact h0)
          exact ⟨b', off', e'⟩
        go_wp2
        go_loopg [11, 51] ol (fun gk q i wr => ∃ x : Nat, x ≤ ol ∧ gk + x = ol ∧ i = .int .i64 x ∧ Hid (∀ b off, ao = some ⟨b, off, none⟩ → 0 < ol → SevAt wr b off ol ∧ W0.heap.size ≤ b ∧ b < wr.heap.size) ∧ Hid (Below W0.heap.size W0 wr))
        case atStart => exact ⟨0, Nat.zero_le _, by omega, rfl, HS5, HB5⟩
        case round =>
          obtain ⟨x, hx, hgx, rfl, HSX, HBX⟩ := hrel
          have HGX := Lib.hid hgx
          clear hgx
          by_cases hlx : x < ol
          · obtain ⟨b, off, rfl⟩ := HAD.out (by omega)
            obtain ⟨hsv, hb0, hbw⟩ := HSX.out b off rfl (by omega)
            obtain ⟨⟨u, hu⟩, f0⟩ := hsv x hlx
            have HS6 : Hid (∀ b' off', (some ⟨b, off, none⟩ : Option Addr) = some ⟨b', off', none⟩ → 0 < ol → SevAt (wr.setCell ⟨b, off + x, none⟩ (.int .i64 7)) b' off' ol ∧ W0.heap.size ≤ b' ∧ b' < (wr.setCell ⟨b, off + x, none⟩ (.int .i64 7)).heap.size) := fun b' off' e _ => by
              cases e
              exact ⟨hsv.set hlx, hb0, by simpa using hbw⟩
            have HB6 : Hid (Below W0.heap.size W0 (wr.setCell ⟨b, off + x, none⟩ (.int .i64 7))) := HBX.out.setCell (p := ⟨b, off + x, none⟩) hb0 _
            clear hsv
            go_wp2
            go_roundg (gk - 1)
            case rel => exact ⟨x + 1, by omega, by have := HGX.out; omega, by go_num, HS6, HB6⟩
            case measure => have := HGX.out; omega
          · obtain rfl : x = ol := by omega
            go_wp2
            go_roundg (G2 - 1)
            case rel => exact ⟨c + 1, by omega, by have := HGK.out; omega, by go_num, HBX⟩
            case measure => have := HGK.out; omega
    · obtain rfl : c = 2 := by omega
      have HF : Hid (Below w.heap.size w WR) := HB0.out.trans (HBR.out.mono HB0.out.size)
      go_wp2
      go_ret
      exact ⟨rfl, HF.out⟩

/-- **BlockSamples.** -/
theorem blockSamples (b : Blk) (ia ra da : Option Addr) (il ic rl rc dl dc : Nat) (n d : Int) (w : World) (hw : Wf9 b) (h1 : ∀ (_ : (decide (il ≤ 24) && decide (rl ≤ 12) && decide (dl ≤ 64)) = true), ∃ index rice data : List Int, il = index.length ∧ rl = rice.length ∧ dl = data.length ∧ BlkIn w { b with index := index, rice := rice, data := data } ia ra da ic rc dc) :
    Calls Try.prog 3 #[.agg #[.int .i64 b.kind, .int .i64 b.value, .int .i64 b.shift, .slice ia il ic, .int .i64 b.lag, .int .i64 b.gain, .int .i64 b.part, .slice ra rl rc, .slice da dl dc], .int .i64 n, .int .i64 d] w fun e w' => e = .returned (.bool true) ∧ Below w.heap.size w w' := by
  cases hf : (decide (il ≤ 24) && decide (rl ≤ 12) && decide (dl ≤ 64)) with
  | false => exact samples_much _ _ _ _ _ _ ia ra da il ic rl rc dl dc n d w (.inl hf)
  | true =>
    by_cases hn : n ≤ 64
    · obtain ⟨index, rice, data, rfl, rfl, rfl, hI⟩ := h1 hf
      exact samples_few { b with index := index, rice := rice, data := data } ia ra da ic rc dc n d w hI ⟨hw.v, hw.s, hw.l, hw.g, hw.p⟩ hf hn
    · exact samples_much _ _ _ _ _ _ ia ra da il ic rl rc dl dc n d w (.inr ⟨hf, decide_eq_true (by omega)⟩)
end Go.Proofs.Ytefbakhhlonafaa
