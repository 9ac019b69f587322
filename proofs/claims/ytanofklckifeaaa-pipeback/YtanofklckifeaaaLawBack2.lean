import Derived.Test.YtanofklckifeaaaLawBack1
namespace Go.Proofs.Ytanofklckifeaaa
open Go.RowKit Go.Proofs Go.Proofs.PipeM Go.Proofs.PipeA

theorem keeps_drew_b (w : World) (bs : List Nat) : Keeps bs w w.drew := ⟨rfl, rfl, rfl, Nat.le_refl _, fun _ _ _ => rfl⟩

set_option maxRecDepth 100000 in
set_option maxHeartbeats 1600000 in
theorem back_small (ao : Option Addr) (cap : Nat) (xs : List (Int × Int × Int)) (w : World) (hl : xs.length ≤ 60) (hz : ActsFit xs) (hd : ActsAt w ao xs) :
    Calls Try.prog 4 #[.slice ao xs.length cap] w fun e w' => e = .returned (.bool true) ∧ Below w.heap.size w w' := by
  obtain ⟨i0, hi, hz0, hz1, hz2⟩ := info_parts info_act
  have HD := Lib.hid hd
  have HZ := Lib.hid hz
  clear hd hz
  obtain ⟨len, hlen⟩ : ∃ len, len = xs.length := ⟨_, rfl⟩
  rw [← hlen] at hl ⊢
  have HLEN := Lib.hid hlen
  clear hlen
  go_enter Try.func4, Try.ntmps4
  go_wp2_with fail
  refine (awake w).mono ?_
  rintro e w1 ⟨rfl, hb1⟩
  have HB1 := Lib.hid hb1
  clear hb1
  have t1 : decide ((60 : Int) < (len : Int)) = false := decide_eq_false (by omega)
  go_wp2
  obtain ⟨B, hB⟩ : ∃ B, B = w1.heap.size := ⟨_, rfl⟩
  have HR0 : Hid (BackRel w w1.heap.size (.slice none 0 0) [] (w1.alloc (.cells #[.slice none 0 0, .int .i64 0] 26))) :=
    ⟨_, _, wr_fresh w1, World.ownsRow_nil _ _ _ _, (fun g hg => by cases hg), HB1.out.alloc HB1.out.size _, HB1.out.size, (fun t ht => by simp at ht), by simp [runs], (fun t ht => by simp at ht), by simp⟩
  generalize hW0 : w1.alloc (.cells #[.slice none 0 0, .int .i64 0] 26) = W0 at HR0 ⊢
  rw [← hB] at HR0 ⊢
  clear hW0 hB
  go_loopg [4, 20] len (fun gk o i wr => ∃ (j : Nat) (ys : List (Int × Int × Int)) (ao' : Option Addr) (cap' : Nat), j ≤ len ∧ gk + j = len ∧ i = .int .i64 j ∧ o = .slice ao' ys.length cap' ∧ ys.length ≤ j ∧ Hid (BackRel w B (.slice ao' ys.length cap') ys wr))
  case atStart => exact ⟨0, [], none, 0, Nat.zero_le _, by omega, rfl, rfl, Nat.le_refl _, HR0⟩
  case round =>
    obtain ⟨j, ys, ao', cap', hj, hgk, rfl, rfl, hyj, HR⟩ := hrel
    have HGK := Lib.hid hgk
    clear hgk HR0
    have HBR : Hid (Below w.heap.size w wr) := by obtain ⟨_, _, _, _, _, h, _⟩ := HR.out; exact h
    by_cases hlt : j < len
    · have hjl : j < xs.length := by have := HLEN.out; omega
      obtain ⟨g, off, rfl, hg, c0, c1, c2⟩ := (HD.out.below HBR.out) j hjl
      have hxb := HZ.out xs[j] (List.getElem_mem hjl)
      obtain ⟨k, hk⟩ : ∃ k, k = xs[j].1 := ⟨_, rfl⟩
      obtain ⟨x, hx⟩ : ∃ x, x = xs[j].2.1 := ⟨_, rfl⟩
      obtain ⟨n, hn⟩ : ∃ n, n = xs[j].2.2 := ⟨_, rfl⟩
      rw [← hk] at c0
      rw [← hx] at c1 hxb
      rw [← hn] at c2
      have HXB := Lib.hid hxb
      have HKA : Hid (Keeps [] wr (wr.alloc (.cells #[.int .i64 k, .int .i64 x, .int .i64 n] 28))) := keeps_of_below ((Below.refl _ _).alloc (Nat.le_refl _) _) _
      obtain ⟨v1, zs1, hw1, hown, hap, hbel, hBB, hok, hr, hfit, hyl⟩ := HR.out
      have HRA := Lib.hid (HR.out.keeps HKA.out)
      have HVB := Lib.hid (own_block_lt hw1.own)
      have HBLT := Lib.hid hw1.lt
      have HW1 := Lib.hid (hw1.keeps HKA.out (by simp) (by simp))
      have hc1 := HW1.out.c1
      have HOWN := Lib.hid (ownsRow_keeps hown HKA.out (by simp))
      have HAP := Lib.hid hap
      have HBEL := Lib.hid (hbel.alloc hbel.size (.cells #[.int .i64 k, .int .i64 x, .int .i64 n] 28))
      have HBB := Lib.hid hBB
      have HOK := Lib.hid hok
      have HFIT := Lib.hid hfit
      clear hk hx hn hxb hg hw1 hown hap hbel hBB hok hfit
      by_cases h8 : (runs ys).length < 8000
      · have t2 : decide (((runs ys).length : Int) < 8000) = true := decide_eq_true (by omega)
        go_wp2_with fail
        refine (wLen _ _ _ hc1).mono ?_
        rintro e w2 ⟨rfl, rfl⟩
        go_wp2_with fail
        refine (wDo B v1 (runs ys) zs1 k x n _ HXB.out (by omega) HW1.out).mono ?_
        rintro e w3 ⟨rfl, hw3⟩
        have hAB : wr.heap.size ∉ B :: v1.ownBlock.toList := by
          intro hc
          rw [List.mem_cons] at hc
          rcases hc with hc | hc
          · have := HBLT.out; omega
          · simp at hc; have := (HVB.out _ hc).2; omega
        obtain ⟨v2, zs2, hw2, hown2, hap2, hbel2⟩ := BackRel.done HOWN.out HAP.out HBEL.out HBB.out (fun g hg => (HVB.out g hg).1) hw3
        have hk3 : Keeps (B :: v1.ownBlock.toList) (wr.alloc (.cells #[.int .i64 k, .int .i64 x, .int .i64 n] 28)) w3 := by obtain ⟨_, _, _, h, _⟩ := hw3; exact h
        obtain ⟨A, hA⟩ : ∃ A, A = wr.heap.size := ⟨_, rfl⟩
        have a0 : w3.cell? ⟨A, 0, none⟩ = some (.int .i64 k) := by rw [hA, hk3.cell (p := ⟨wr.heap.size, 0, none⟩) (by simp) hAB]; simp
        have a1 : w3.cell? ⟨A, 1, none⟩ = some (.int .i64 x) := by rw [hA, hk3.cell (p := ⟨wr.heap.size, 1, none⟩) (by simp) hAB]; simp
        have a2 : w3.cell? ⟨A, 2, none⟩ = some (.int .i64 n) := by rw [hA, hk3.cell (p := ⟨wr.heap.size, 2, none⟩) (by simp) hAB]; simp
        rw [← hA]
        have HW2 := Lib.hid hw2
        have HOWN2 := Lib.hid hown2
        have HAP2 := Lib.hid hap2
        have HBEL2 := Lib.hid hbel2
        have hbl := actBits_le (runs ys) k x n
        have hBlt : B < w3.heap.size := hw2.lt
        clear hw3 hk3 hA hAB hw2 hown2 hap2 hbel2 c0 c1 c2 hc1
        cases hok : actOk k x n
        · have e : actBits (runs ys) k x n = runs ys := by unfold actBits; rw [hok]; simp
          rw [e] at HW2
          clear hok e
          go_wp2
          go_roundg (gk - 1)
          case rel => exact ⟨j + 1, ys, ao', cap', by omega, by have := HGK.out; omega, by go_num, rfl, by omega, ⟨v2, zs2, HW2.out, HOWN2.out, HAP2.out, HBEL2.out, HBB.out, HOK.out, hr, HFIT.out, hyl⟩⟩
          case measure => have := HGK.out; omega
        · have HOKT := Lib.hid hok
          clear hok
          go_wp2_with (at_builtin; refine wpList_append_own2 _ rfl _ _ 22 rfl (B + 1) 28 i0 (.agg #[.int .i64 0, .int .i64 0, .int .i64 0]) 3 24 und_acts hi hz0 hz1 hz2 rfl (by decide) _ _ _ rfl (HOWN2.out.alloc _) ⟨w3.heap.size, 0, none⟩ 1 1 [.int .i64 k, .int .i64 x, .int .i64 n] rfl rfl ?c1 ?c2 ?c3 ?c4 ?c5 ?_)
          case c1 =>
            intro j u hj
            match j, hj with
            | 0, hj => simp at hj; subst hj; simp [Addr.add]
            | 1, hj => simp at hj; subst hj; simp [Addr.add]
            | 2, hj => simp at hj; subst hj; simp [Addr.add]
          case c2 => intro u hu; simp at hu; rcases hu with rfl | rfl | rfl <;> rfl
          case c3 => unfold maxLen; omega
          case c4 => omega
          case c5 => simp; omega
          intro o' w4 hown4 hgrow hwh
          have hkA : Keeps [] w3 (w3.alloc (.cells #[.int .i64 k, .int .i64 x, .int .i64 n] 28)) := keeps_of_below ((Below.refl _ _).alloc (Nat.le_refl _) _) _
          have HR4 : Hid (BackRel w B o' (ys ++ [(k, x, n)]) w4) := back_grown HW2.out HOWN2.out HAP2.out HBEL2.out HBB.out HOK.out HOKT.out HFIT.out HXB.out (by omega) (by omega) hown4 hgrow hwh
          obtain ⟨ao4, cap4, ho4⟩ := own_slice hown4
          rw [ho4] at HR4 ⊢
          clear hown4 hgrow hwh hkA ho4
          go_wp2
          go_roundg (gk - 1)
          case rel => exact ⟨j + 1, ys ++ [(k, x, n)], ao4, cap4, by omega, by have := HGK.out; omega, by go_num, by simp, by simp; omega, by simpa using HR4⟩
          case measure => have := HGK.out; omega
      · have t2 : decide (((runs ys).length : Int) < 8000) = false := decide_eq_false (by omega)
        go_wp2_with fail
        refine (wLen _ _ _ hc1).mono ?_
        rintro e w2 ⟨rfl, rfl⟩
        clear c0 c1 c2 hc1
        go_wp2
        go_roundg (gk - 1)
        case rel => exact ⟨j + 1, ys, ao', cap', by omega, by have := HGK.out; omega, by go_num, rfl, by omega, HRA⟩
        case measure => have := HGK.out; omega
    · obtain rfl : j = len := by omega
      obtain ⟨v1, zs1, hw1, hown, hap, hbel, hBB, hok, hr, hfit, hyl⟩ := HR.out
      have HW1 := Lib.hid hw1
      have HOWN := Lib.hid hown
      have HBB := Lib.hid hBB
      have HOK := Lib.hid hok
      have HFIT := Lib.hid hfit
      clear hw1 hown hap hbel hBB hok hfit
      go_wp2_with fail
      refine (wBytes B v1 (runs ys) zs1 wr (by omega) HW1.out).mono ?_
      rintro e w2 ⟨g2, rfl, hown2, hb2⟩
      have hBA : BytesAt w2 (some ⟨g2, 0, none⟩) zs1 := bytes_own hown2
      have HOWNA := Lib.hid (ownsRow_keeps HOWN.out (keeps_of_below hb2 []) (by simp))
      have HB2 : Hid (Below w.heap.size w w2) := HBR.out.trans (hb2.mono HBR.out.size)
      have HBA := Lib.hid hBA
      have hzl : zs1.length ≤ 2000 := by have := HW1.out.packs.length; omega
      clear hown2 hb2 hBA
      go_wp2_with fail
      refine (rOpen _ _ zs1 w2 HBA.out HW1.out.packs.1 (by omega)).mono ?_
      rintro e w3 ⟨rfl, hr3, hb3⟩
      have HOWN3 := Lib.hid (ownsRow_keeps HOWNA.out (keeps_of_below hb3 []) (by simp))
      have HB3 : Hid (Below w.heap.size w w3) := HB2.out.trans (hb3.mono HB2.out.size)
      obtain ⟨R, hR⟩ : ∃ R, R = w2.heap.size := ⟨_, rfl⟩
      rw [← hR] at hr3 ⊢
      have HRB : Hid (w.heap.size ≤ R) := by have := HB2.out.size; show _ ≤ _; omega
      have HRO : Hid (∀ gg, (Value.slice ao' ys.length cap').ownBlock = some gg → gg ≠ R) := fun gg hg => by have := (own_block_lt HOWNA.out gg hg).2; omega
      have HR3 := Lib.hid hr3
      clear hr3 hb3 hR
      go_wp2
      have HRD0 : Hid (RdIs w3 R (some ⟨g2, 0, none⟩) zs1.length zs1 (runs (ys.take 0)).length 0) := by simpa [runs] using HR3
      go_loopg [41] ys.length (fun gk2 i wr2 => ∃ c : Nat, c ≤ ys.length ∧ gk2 + c = ys.length ∧ i = .int .i64 c ∧ Hid (RdIs wr2 R (some ⟨g2, 0, none⟩) zs1.length zs1 (runs (ys.take c)).length 0) ∧ Hid (wr2.ownsRow (B + 1) 28 3 (.slice ao' ys.length cap') ys.length (actCells ys)) ∧ Hid (Below w.heap.size w wr2))
      case atStart => exact ⟨0, Nat.zero_le _, by omega, rfl, HRD0, HOWN3, HB3⟩
      case round =>
        obtain ⟨c, hc, hgk, rfl, HRD, HOW, HBW⟩ := hrel
        have HGK2 := Lib.hid hgk
        clear hgk HOWN3 HB3 HRD0 HR3 HOWNA HB2 HBA HOWN HR HBR HGK hlt
        by_cases hlt2 : c < ys.length
        · obtain ⟨gg, off, rfl, hgg, c0, c1, c2⟩ := (acts_own HOW.out) c hlt2
          have hokc := HOK.out ys[c] (List.getElem_mem hlt2)
          obtain ⟨r, hbits⟩ := runs_next HW1.out.packs c hlt2
          have hnext : runs (ys.take (c + 1)) = actBits (runs (ys.take c)) ys[c].1 ys[c].2.1 ys[c].2.2 := by rw [List.take_succ_eq_append_getElem hlt2, runs_snoc]
          obtain ⟨k, hk⟩ : ∃ k, k = ys[c].1 := ⟨_, rfl⟩
          obtain ⟨x, hx⟩ : ∃ x, x = ys[c].2.1 := ⟨_, rfl⟩
          obtain ⟨n, hn⟩ : ∃ n, n = ys[c].2.2 := ⟨_, rfl⟩
          rw [← hk, ← hx, ← hn] at hokc hbits hnext
          rw [← hk] at c0
          rw [← hx] at c1
          rw [← hn] at c2
          obtain ⟨l, hl'⟩ : ∃ l, l = runs (ys.take c) := ⟨_, rfl⟩
          rw [← hl'] at HRD hbits hnext
          have HNEXT := Lib.hid hnext
          have HBITS := Lib.hid hbits
          have HOKC := Lib.hid hokc
          have hkA : Keeps [] wr (wr.alloc (.cells #[.int .i64 k, .int .i64 x, .int .i64 n] 28)) := keeps_of_below ((Below.refl _ _).alloc (Nat.le_refl _) _) _
          have HRDA := Lib.hid (HRD.out.keeps hkA (by simp) (by simp))
          have HOWA := Lib.hid (ownsRow_keeps HOW.out hkA (by simp))
          have HBWA : Hid (Below w.heap.size w (wr.alloc (.cells #[.int .i64 k, .int .i64 x, .int .i64 n] 28))) := HBW.out.alloc HBW.out.size _
          have hRlt := HRD.out.lt
          clear hk hx hn hl' hnext hbits hokc hkA hgg
          have a0 : (wr.alloc (.cells #[.int .i64 k, .int .i64 x, .int .i64 n] 28)).cell? ⟨wr.heap.size, 0, none⟩ = some (.int .i64 k) := by simp
          have a1 : (wr.alloc (.cells #[.int .i64 k, .int .i64 x, .int .i64 n] 28)).cell? ⟨wr.heap.size, 1, none⟩ = some (.int .i64 x) := by simp
          have a2 : (wr.alloc (.cells #[.int .i64 k, .int .i64 x, .int .i64 n] 28)).cell? ⟨wr.heap.size, 2, none⟩ = some (.int .i64 n) := by simp
          have hA1 : wr.heap.size < (wr.alloc (.cells #[.int .i64 k, .int .i64 x, .int .i64 n] 28)).heap.size := by simp
          by_cases h1 : k = 1
          · subst h1
            go_wp2
            generalize wr.alloc (.cells #[.int .i64 1, .int .i64 x, .int .i64 n] 28) = W5 at HRDA HOWA HBWA a0 a1 a2 hA1 ⊢
            generalize wr.heap.size = A at a0 a1 a2 hA1 hRlt ⊢
            clear c0 c1 c2 HRD HOW HBW
            go_region_with (go_at_call 14; refine (back1 R _ _ zs1 l r x n _ HOKC.out HBITS.out (HRDA.out.keeps (keeps_drew W5) (by simp) (by simp))).mono ?_; rintro e w5 ⟨rfl, ht⟩; have b1 : w5.cell? ⟨A, 1, none⟩ = some (.int .i64 x) := (ht.2.cell (p := ⟨A, 1, none⟩) hA1 (by simp; omega)).trans a1)
            all_goals
              go_wp2
              go_roundg (gk - 1)
              case rel => exact ⟨c + 1, by omega, by have := HGK2.out; omega, by go_num, by rw [HNEXT.out]; exact ht.1, ownsRow_keeps HOWA.out ((keeps_drew_b W5 [R]).trans ht.2) (fun y hy => by have := HRO.out y hy; simp; exact this), HBWA.out.trans (((keeps_drew_b W5 [R]).trans ht.2).below HBWA.out.size (by intro y hy; simp at hy; have := HRB.out; omega))⟩
              case measure => have := HGK2.out; omega
          · by_cases h2 : k = 2
            · subst h2
              clear h1
              go_wp2
              generalize wr.alloc (.cells #[.int .i64 2, .int .i64 x, .int .i64 n] 28) = W5 at HRDA HOWA HBWA a0 a1 a2 hA1 ⊢
              generalize wr.heap.size = A at a0 a1 a2 hA1 hRlt ⊢
              clear c0 c1 c2 HRD HOW HBW
              go_region_with (go_at_call 15; refine (back2 R _ _ zs1 l r x n _ HOKC.out HBITS.out (HRDA.out.keeps (keeps_drew W5) (by simp) (by simp))).mono ?_; rintro e w5 ⟨rfl, ht⟩; have b1 : w5.cell? ⟨A, 1, none⟩ = some (.int .i64 x) := (ht.2.cell (p := ⟨A, 1, none⟩) hA1 (by simp; omega)).trans a1)
              all_goals
                go_wp2
                go_roundg (gk - 1)
                case rel => exact ⟨c + 1, by omega, by have := HGK2.out; omega, by go_num, by rw [HNEXT.out]; exact ht.1, ownsRow_keeps HOWA.out ((keeps_drew_b W5 [R]).trans ht.2) (fun y hy => by have := HRO.out y hy; simp; exact this), HBWA.out.trans (((keeps_drew_b W5 [R]).trans ht.2).below HBWA.out.size (by intro y hy; simp at hy; have := HRB.out; omega))⟩
                case measure => have := HGK2.out; omega
            · by_cases h3 : k = 3
              · subst h3
                clear h1 h2
                go_wp2
                generalize wr.alloc (.cells #[.int .i64 3, .int .i64 x, .int .i64 n] 28) = W5 at HRDA HOWA HBWA a0 a1 a2 hA1 ⊢
                generalize wr.heap.size = A at a0 a1 a2 hA1 hRlt ⊢
                clear c0 c1 c2 HRD HOW HBW
                go_region_with (go_at_call 16; refine (back3 R _ _ zs1 l r x n _ HOKC.out HBITS.out (HRDA.out.keeps (keeps_drew W5) (by simp) (by simp))).mono ?_; rintro e w5 ⟨rfl, ht⟩; have b1 : w5.cell? ⟨A, 2, none⟩ = some (.int .i64 n) := (ht.2.cell (p := ⟨A, 2, none⟩) hA1 (by simp; omega)).trans a2)
                all_goals
                  go_wp2
                  go_roundg (gk - 1)
                  case rel => exact ⟨c + 1, by omega, by have := HGK2.out; omega, by go_num, by rw [HNEXT.out]; exact ht.1, ownsRow_keeps HOWA.out ((keeps_drew_b W5 [R]).trans ht.2) (fun y hy => by have := HRO.out y hy; simp; exact this), HBWA.out.trans (((keeps_drew_b W5 [R]).trans ht.2).below HBWA.out.size (by intro y hy; simp at hy; have := HRB.out; omega))⟩
                  case measure => have := HGK2.out; omega
              · by_cases h4 : k = 4
                · subst h4
                  have e4 : actBits l 4 x n = pad l := by unfold actBits; rw [HOKC.out]; simp
                  rw [e4] at HBITS HNEXT
                  clear h1 h2 h3 e4
                  go_wp2_with fail
                  generalize wr.alloc (.cells #[.int .i64 4, .int .i64 x, .int .i64 n] 28) = W5 at HRDA HOWA HBWA a0 a1 a2 hA1 ⊢
                  generalize wr.heap.size = A at a0 a1 a2 hA1 hRlt ⊢
                  clear c0 c1 c2 HRD HOW HBW
                  refine (back4 R _ _ zs1 l r _ HBITS.out HRDA.out).mono ?_
                  rintro e w5 ⟨rfl, ht⟩
                  go_wp2
                  go_roundg (gk - 1)
                  case rel => exact ⟨c + 1, by omega, by have := HGK2.out; omega, by go_num, by rw [HNEXT.out]; exact ht.1, ownsRow_keeps HOWA.out ht.2 (fun y hy => by have := HRO.out y hy; simp; exact this), HBWA.out.trans (ht.2.below HBWA.out.size (by intro y hy; simp at hy; have := HRB.out; omega))⟩
                  case measure => have := HGK2.out; omega
                · have e5 : actBits l k x n = l := by unfold actBits; rw [HOKC.out]; simp [h1, h2, h3, h4]
                  rw [e5] at HNEXT
                  have t1 : (k == 1) = false := beq_eq_false_iff_ne.2 h1
                  have t2 : (k == 2) = false := beq_eq_false_iff_ne.2 h2
                  have t3 : (k == 3) = false := beq_eq_false_iff_ne.2 h3
                  have t4 : (k == 4) = false := beq_eq_false_iff_ne.2 h4
                  clear h1 h2 h3 h4 e5
                  go_wp2
                  generalize wr.alloc (.cells #[.int .i64 k, .int .i64 x, .int .i64 n] 28) = W5 at HRDA HOWA HBWA a0 a1 a2 hA1 ⊢
                  go_roundg (gk - 1)
                  case rel => exact ⟨c + 1, by omega, by have := HGK2.out; omega, by go_num, by rw [HNEXT.out]; exact HRDA.out, HOWA, HBWA⟩
                  case measure => have := HGK2.out; omega
        · obtain rfl : c = ys.length := by omega
          rw [List.take_length] at HRD
          have hend : endOf zs1 (runs ys).length = 0 := end_packs HW1.out.packs
          have hleft : 8 * zs1.length - (runs ys).length < 8 := by have := HW1.out.packs.length; omega
          have HEND := Lib.hid hend
          have HLEFT := Lib.hid hleft
          clear hend hleft
          go_wp2_with fail
          refine (rFail R _ _ zs1 _ 0 wr HRD.out).mono ?_
          rintro e w5 ⟨rfl, rfl⟩
          go_wp2_with fail
          refine (rEnd R _ _ zs1 _ wr HRD.out).mono ?_
          rintro e w5 ⟨rfl, hk5⟩
          rw [HEND.out]
          have HRD5 := Lib.hid (HRD.out.keeps hk5 (by simp) (by simp))
          have HB5 : Hid (Below w.heap.size w w5) := HBW.out.trans (hk5.below HBW.out.size (by simp))
          clear hk5
          go_wp2_with fail
          refine (rLeft R _ _ zs1 _ 0 w5 HRD5.out).mono ?_
          rintro e w6 ⟨rfl, m, rfl⟩
          have hlt8 : (((8 * zs1.length - (runs ys).length : Nat)) : Int) < 8 := by have := HLEFT.out; omega
          obtain ⟨q, hq⟩ : ∃ q : Int, q = ((8 * zs1.length - (runs ys).length : Nat) : Int) := ⟨_, rfl⟩
          rw [← hq] at hlt8 ⊢
          clear hq
          go_wp2
          go_ret
          exact ⟨rfl, HB5.out.trans ((keeps_drewN w5 m []).below HB5.out.size (by simp))⟩
set_option maxHeartbeats 1000000 in
theorem back_big (ao : Option Addr) (cap len : Nat) (w : World) (hl : 60 < len) :
    Calls Try.prog 4 #[.slice ao len cap] w fun e w' => e = .returned (.bool true) ∧ Below w.heap.size w w' := by
  have t1 : decide ((60 : Int) < (len : Int)) = true := decide_eq_true (by omega)
  go_enter Try.func4, Try.ntmps4
  go_wp2_with fail
  refine (awake w).mono ?_
  rintro e w1 ⟨rfl, hb1⟩
  have HB1 := Lib.hid hb1
  clear hb1
  go_wp2_with fail
  refine (awake w1).mono ?_
  rintro e w2 ⟨rfl, hb2⟩
  have HB2 := Lib.hid hb2
  clear hb2
  go_wp2
  go_ret
  exact ⟨rfl, HB1.out.trans (HB2.out.mono HB1.out.size)⟩
end Go.Proofs.Ytanofklckifeaaa
