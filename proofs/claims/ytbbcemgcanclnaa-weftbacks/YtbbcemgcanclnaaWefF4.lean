import Derived.Test.YtbbcemgcanclnaaWefF3
import Derived.Laws.AppendOwn
namespace Go.Proofs.Ytbbcemgcanclnaa
open Go.RowKit Go.Proofs Go.Proofs.PipeM Go.Proofs.PipeA Go.Proofs.WefM
set_option maxRecDepth 100000

set_option maxHeartbeats 6400000 in
theorem rBackW (x : Wv) (ao bo : Option Addr) (cap cap2 : Nat) (own m : List Int) (most : Int) (w : World) (hl : own.length ≤ 100000) (hl2 : m.length ≤ 100000) (hi : IntsAt w ao own) (hj : IntsAt w bo m) :
    Calls Try.prog 13 #[wvV x, .slice ao own.length cap, .slice bo m.length cap2, .int .i64 most] w (RowR (codeBack x own m most) (backL x own m) w) := by
  obtain ⟨i0, hii, hz0, hz1, hz2⟩ := info_parts info_int
  have hb0 := box_below w (.cells #[.bool x.some, .int .i64 x.master, .int .i64 x.g0, .int .i64 x.g1, .int .i64 x.g2] 24)
  have hn0 := heap_alloc_new w (.cells #[.bool x.some, .int .i64 x.master, .int .i64 x.g0, .int .i64 x.g1, .int .i64 x.g2] 24)
  have k0 := cell_of_heap hn0 0
  have k1 := cell_of_heap hn0 1
  have k2 := cell_of_heap hn0 2
  have k3 := cell_of_heap hn0 3
  have k4 := cell_of_heap hn0 4
  simp only [List.getElem?_toArray, List.getElem?_cons_zero, List.getElem?_cons_succ] at k0 k1 k2 k3 k4
  obtain ⟨W0, hW0⟩ : ∃ W0, W0 = w.alloc (.cells #[.bool x.some, .int .i64 x.master, .int .i64 x.g0, .int .i64 x.g1, .int .i64 x.g2] 24) := ⟨_, rfl⟩
  have HKC : Hid (∀ W, Below W0.heap.size W0 W → W.cell? ⟨w.heap.size, 2, none⟩ = some (.int .i64 x.g0) ∧ W.cell? ⟨w.heap.size, 3, none⟩ = some (.int .i64 x.g1) ∧ W.cell? ⟨w.heap.size, 4, none⟩ = some (.int .i64 x.g2)) := fun W hb => by
    have hlt : w.heap.size < W0.heap.size := by rw [hW0]; exact (Array.getElem?_eq_some_iff.1 hn0).1
    exact ⟨(hb.cell (p := ⟨w.heap.size, 2, none⟩) hlt).trans (by rw [hW0]; exact k2), (hb.cell (p := ⟨w.heap.size, 3, none⟩) hlt).trans (by rw [hW0]; exact k3), (hb.cell (p := ⟨w.heap.size, 4, none⟩) hlt).trans (by rw [hW0]; exact k4)⟩
  have hbW : Below w.heap.size w W0 := by rw [hW0]; exact hb0
  have hw0 : w.heap.size < W0.heap.size := by rw [hW0]; exact (Array.getElem?_eq_some_iff.1 hn0).1
  have hi0 := hi.below hbW
  have hj0 := hj.below hbW
  have HGD := Lib.hid (rGoodW x 8 W0)
  have HIM := fun W (hb : Below W0.heap.size W0 W) => Lib.hid (rIn bo cap2 m W hl2 (hj0.below hb))
  have HW0 := Lib.hid hW0
  have HBX := Lib.hid hbW
  have HE : Hid (∀ c W, codeBack x own m most = c → c ≠ 0 → Below w.heap.size w W → RowR (codeBack x own m most) (backL x own m) w (.returned (.tuple #[.slice none 0 0, .int .i64 c])) W) := fun c W h1 h2 hb => by
    subst h1; exact .inl ⟨h2, rfl, hb⟩
  unfold wvV at HGD ⊢
  cases hg : goodW x 8 with
  | false =>
    have HC : Hid (codeBack x own m most = 2) := by show _ = _; unfold codeBack; rw [hg]; rfl
    rw [hg] at HGD
    clear hi hj hi0 hj0 hg hb0 hn0 hW0 HIM
    go_enter Try.func13, Try.ntmps13
    go_wp2_with fail
    rw [← HW0.out]
    refine HGD.out.mono ?_
    rintro e w1 ⟨rfl, hb1⟩
    have HB1 := Lib.hid (HBX.out.trans (hb1.mono HBX.out.size))
    clear hb1 k0 k1 k2 k3 k4
    go_wp2
    refine bodyPost_ret (v := .tuple #[.slice none 0 0, .int .i64 2]) (by simp [results, Try.results13, go_sem]) rfl ?_
    exact HE.out 2 _ HC.out (by decide) HB1.out
  | true =>
    rw [hg] at HGD
    by_cases hlen : own.length = m.length
    · have t1 : ((own.length : Int) != (m.length : Int)) = false := by rw [bne_eq_false_iff_eq]; omega
      have t1n : (own.length != m.length) = false := by rw [bne_eq_false_iff_eq]; exact hlen
      by_cases hm0 : most < 0
      · have t2 : decide (most < 0) = true := decide_eq_true hm0
        have HC : Hid (codeBack x own m most = 1) := by show _ = _; unfold codeBack; rw [hg, if_pos rfl, if_pos hlen, if_neg (by omega)]
        clear hi hj hi0 hj0 hg hb0 hn0 hW0 HIM hm0
        generalize hq : m.length = ml at *
        clear hlen hq
        go_enter Try.func13, Try.ntmps13
        go_wp2_with fail
        rw [← HW0.out]
        refine HGD.out.mono ?_
        rintro e w1 ⟨rfl, hb1⟩
        have HB1 := Lib.hid (HBX.out.trans (hb1.mono HBX.out.size))
        clear hb1 k0 k1 k2 k3 k4
        go_wp2
        refine bodyPost_ret (v := .tuple #[.slice none 0 0, .int .i64 1]) (by simp [results, Try.results13, go_sem]) rfl ?_
        exact HE.out 1 _ HC.out (by decide) HB1.out
      · have t2 : decide (most < 0) = false := decide_eq_false hm0
        by_cases hm1 : 8388607 < most
        · have t3 : decide (8388607 < most) = true := decide_eq_true hm1
          have HC : Hid (codeBack x own m most = 1) := by show _ = _; unfold codeBack; rw [hg, if_pos rfl, if_pos hlen, if_neg (by omega)]
          clear hi hj hi0 hj0 hg hb0 hn0 hW0 HIM hm0 hm1
          generalize hq : m.length = ml at *
          clear hlen hq
          go_enter Try.func13, Try.ntmps13
          go_wp2_with fail
          rw [← HW0.out]
          refine HGD.out.mono ?_
          rintro e w1 ⟨rfl, hb1⟩
          have HB1 := Lib.hid (HBX.out.trans (hb1.mono HBX.out.size))
          clear hb1 k0 k1 k2 k3 k4
          go_wp2
          refine bodyPost_ret (v := .tuple #[.slice none 0 0, .int .i64 1]) (by simp [results, Try.results13, go_sem]) rfl ?_
          exact HE.out 1 _ HC.out (by decide) HB1.out
        · have t3 : decide (8388607 < most) = false := decide_eq_false hm1
          cases hm : m.all inS with
          | false =>
            have HC : Hid (codeBack x own m most = 9) := by show _ = _; unfold codeBack; rw [hg, if_pos rfl, if_pos hlen, if_pos (by omega), hm]; rfl
            rw [hm] at HIM
            clear hi hj hi0 hj0 hg hb0 hn0 hW0 hm hm0 hm1
            generalize hq : m.length = ml at *
            clear hlen hq
            go_enter Try.func13, Try.ntmps13
            go_wp2_with fail
            rw [← HW0.out]
            refine HGD.out.mono ?_
            rintro e w1 ⟨rfl, hb1⟩
            have HB1 := Lib.hid (HBX.out.trans (hb1.mono HBX.out.size))
            have HI2 := HIM w1 hb1
            clear HIM hb1 k0 k1 k2 k3 k4
            go_wp2_with fail
            refine HI2.out.mono ?_
            rintro e w3 ⟨rfl, rfl⟩
            go_wp2
            refine bodyPost_ret (v := .tuple #[.slice none 0 0, .int .i64 9]) (by simp [results, Try.results13, go_sem]) rfl ?_
            exact HE.out 9 _ HC.out (by decide) HB1.out
          | true =>
            rw [hm] at HIM
            have hgs := good_gains hg
            have HCD : Hid (codeBack x own m most = if (backL x own m).all (inM most) then 0 else 9) := by show _ = _; unfold codeBack; rw [hg, if_pos rfl, if_pos hlen, if_pos (by omega), hm]; rfl
            have HFO : Hid (∀ i W, i < own.length → Below W0.heap.size W0 W → Calls Try.prog 29 #[gnV x, .slice bo m.length cap2, .int .i64 i] W fun e w' => e = .returned (.int .i64 (fore x m i)) ∧ Below W.heap.size W w') := fun i W h hb => rForeseen x bo cap2 m i W hgs hm hl2 (by omega) (hj0.below hb)
            have HFB : Hid (∀ i, -25165824 ≤ fore x m i ∧ fore x m i ≤ 25165824) := fore_bound hg hm
            have HFA : Hid (∀ (i : Nat) (h : i < own.length), own[i] < -33554433 ∨ 33554433 < own[i] → codeBack x own m most = 9) := fun i h hf => by
              have := far_back hg hm (show 0 ≤ most ∧ most ≤ 8388607 by omega) h (by rw [getD_ltW h]; exact hf)
              rw [HCD.out, this]; rfl
            have HNO : Hid (∀ (i : Nat) (h : i < own.length), inM most (own[i] + fore x m i) = false → codeBack x own m most = 9) := fun i h hf => by
              have hb : (backL x own m).all (inM most) = false := by
                cases hh : (backL x own m).all (inM most) with
                | false => rfl
                | true =>
                  have h1 := List.all_eq_true.1 hh _ (List.getElem_mem (l := backL x own m) (by rw [backL_length]; exact h))
                  rw [backL_at h, getD_ltW h] at h1
                  exact absurd (h1.symm.trans hf) (by decide)
              rw [HCD.out, hb]; rfl
            have HIO : Hid (∀ W, Below W0.heap.size W0 W → IntsAt W ao own) := fun W hb => hi0.below hb
            have HRL : Hid (∀ j (hj : j < own.length), intsOf ((backL x own m).take (j + 1)) = intsOf ((backL x own m).take j) ++ [.int .i64 (own[j] + fore x m j)]) := fun j hj => by
              rw [intsOf_takeW (by rw [backL_length]; exact hj), backL_at hj, getD_ltW hj]
            have HTK : Hid (∀ j (hj : j < own.length), ((backL x own m).take (j + 1)).all (inM most) = (((backL x own m).take j).all (inM most) && inM most (own[j] + fore x m j))) := fun j hj => by
              rw [List.take_succ_eq_append_getElem (by rw [backL_length]; exact hj), List.all_append, backL_at hj, getD_ltW hj]; simp
            have HLT : Hid (∀ b off, ao = some ⟨b, off, none⟩ → 0 < own.length → b < W0.heap.size) := fun b off e h => by
              obtain ⟨b', off', e', hb', _⟩ := hi0 0 h
              rw [e] at e'
              cases e'
              exact hb'
            have HF : Hid (∀ W v, W.ownsRow W0.heap.size 3 1 v own.length (intsOf (backL x own m)) → (backL x own m).all (inM most) = true → Below W0.heap.size W0 W → ∃ ro rc, v = .slice ro own.length rc ∧ RowR (codeBack x own m most) (backL x own m) w (.returned (.tuple #[.slice ro own.length rc, .int .i64 0])) W) := fun W v h ha hb => by
              obtain ⟨ro, rc, rfl⟩ := own_slice h
              have hcp := own_capW h
              have e := backL_length x own m
              refine ⟨ro, rc, rfl, .inr ⟨by rw [HCD.out, ha]; rfl, ro, rc, by rw [e], ints_own (cap := rc) (by rw [e]; exact h), by rw [e]; exact hcp, fun g off e' => ?_, hbW.trans (hb.mono hbW.size)⟩⟩
              subst e'
              have := (own_block_lt h g rfl).1
              omega
            have HTF : Hid (((backL x own m).take own.length) = backL x own m) := List.take_of_length_le (by rw [backL_length]; exact Nat.le_refl _)
            have wm : IntKind.i64.wrap (-most) = -most := IntWalk.i64_in _ (by omega)
            have wm1 : IntKind.i64.wrap (-most - 1) = -most - 1 := IntWalk.i64_in _ (by omega)
            unfold gnV at HFO
            clear hi hj hi0 hj0 hg hb0 hn0 hW0 hm hgs hbW HCD
            generalize hq : m.length = ml at *
            clear hlen hq
            go_enter Try.func13, Try.ntmps13
            go_wp2_with fail
            rw [← HW0.out]
            refine HGD.out.mono ?_
            rintro e w1 ⟨rfl, hb1⟩
            have HB1 := Lib.hid hb1
            have HI2 := HIM w1 hb1
            clear HIM hb1 k0 k1 k2 k3 k4
            go_wp2_with fail
            refine HI2.out.mono ?_
            rintro e w3 ⟨rfl, rfl⟩
            go_wp2
            go_loopg [10, 11, 12, 32] own.length (fun gk va q1 q2 i wr => ∃ c : Nat, c ≤ own.length ∧ gk + c = own.length ∧ i = .int .i64 c ∧ Hid (((backL x own m).take c).all (inM most) = true) ∧ wr.ownsRow W0.heap.size 3 1 va c (intsOf ((backL x own m).take c)) ∧ Hid (Below W0.heap.size W0 wr))
            case atStart => exact ⟨0, Nat.zero_le _, by omega, rfl, by simp [Hid], World.ownsRow_nil _ _ _ _, HB1⟩
            case round =>
              obtain ⟨c, hcl, hgk, rfl, HT, hown, HW⟩ := hrel
              have HGK := Lib.hid hgk
              clear hgk
              by_cases hlt : c < own.length
              · obtain ⟨b, off, rfl, hbr, hcell⟩ := HIO.out wr HW.out c hlt
                have HFAc := Lib.hid (HFA.out c hlt)
                have HNOc := Lib.hid (HNO.out c hlt)
                have hfb := HFB.out c
                have HNEW := Lib.hid (HRL.out c hlt)
                have HTKc := Lib.hid (HTK.out c hlt)
                have HFC := fun W hb => Lib.hid (HFO.out c W hlt hb)
                have hbW := HLT.out b off rfl (by omega)
                have HE9 := fun (h : codeBack x own m most = 9) => Lib.hid (HE.out 9 wr h (by decide) (HBX.out.trans (HW.out.mono HBX.out.size)))
                generalize own[c] = y at hcell HFAc HNOc HNEW HTKc
                generalize fore x m c = f at hfb HNEW HFC HNOc HTKc
                have y0 : wr.cell? ⟨b, off + c, none⟩ = some (.int .i64 y) := hcell
                by_cases h1 : 1099511627776 < y
                · have u1 : decide (1099511627776 < y) = true := decide_eq_true h1
                  have H9 := HE9 (HFAc.out (.inr (by omega)))
                  clear h1 HFC HNEW hfb hown
                  go_wp2
                  refine bodyPost_ret (v := .tuple #[.slice none 0 0, .int .i64 9]) (by simp [results, Try.results13, go_sem]) rfl ?_
                  exact H9.out
                · have u1 : decide (1099511627776 < y) = false := decide_eq_false h1
                  by_cases h2 : y < -1099511627776
                  · have u2 : decide (y < -1099511627776) = true := decide_eq_true h2
                    have H9 := HE9 (HFAc.out (.inl (by omega)))
                    clear h1 h2 HFC HNEW hfb hown
                    go_wp2
                    refine bodyPost_ret (v := .tuple #[.slice none 0 0, .int .i64 9]) (by simp [results, Try.results13, go_sem]) rfl ?_
                    exact H9.out
                  · have u2 : decide (y < -1099511627776) = false := decide_eq_false h2
                    obtain ⟨xr, hxr⟩ : ∃ xr, xr = y + f := ⟨_, rfl⟩
                    rw [← hxr] at HNEW HNOc HTKc
                    have hxb : -2199023255552 ≤ xr ∧ xr ≤ 2199023255552 := by omega
                    have hwx : IntKind.i64.wrap (y + f) = xr := by rw [hxr]; exact IntWalk.i64_in _ (by omega)
                    have HFAR := Lib.hid (own_farW hown hbW)
                    have hszr := HW.out.size
                    obtain ⟨q0, q1, q2⟩ := HKC.out wr HW.out
                    have hwr : w.heap.size < wr.heap.size := by omega
                    have HOW := Lib.hid hown
                    clear hxr hfb hcell h1 h2 hown HE9
                    go_wp2_with fail
                    go_region_held3 (fun w' => w'.cell? ⟨b, off + c, none⟩ = some (.int .i64 y) ∧ w'.cell? ⟨w.heap.size, 2, none⟩ = some (.int .i64 x.g0) ∧ w'.cell? ⟨w.heap.size, 3, none⟩ = some (.int .i64 x.g1) ∧ w'.cell? ⟨w.heap.size, 4, none⟩ = some (.int .i64 x.g2))
                      (first
                        | exact ⟨y0, q0, q1, q2⟩
                        | exact ⟨p0, p1, p2, p3⟩
                        | fail)
                      (first
                        | (go_at_call 29; refine (HFC _ (HW.out.trans ((keeps_drew_b wr []).below HW.out.size (by simp)))).out.mono ?_; rintro e w6 ⟨rfl, hbl6⟩; have hbl6' : Below wr.heap.size wr w6 := ((keeps_drew_b wr []).below (Nat.le_refl _) (by simp)).trans hbl6; have p0 := (hbl6'.cell (p := ⟨b, off + c, none⟩) hbr).trans y0; have p1 := (hbl6'.cell (p := ⟨w.heap.size, 2, none⟩) hwr).trans q0; have p2 := (hbl6'.cell (p := ⟨w.heap.size, 3, none⟩) hwr).trans q1; have p3 := (hbl6'.cell (p := ⟨w.heap.size, 4, none⟩) hwr).trans q2; have HB6 := Lib.hid hbl6'; clear hbl6 hbl6')
                        | fail)
                    have HW6 : Hid (Below W0.heap.size W0 w6) := HW.out.trans (HB6.out.mono HW.out.size)
                    have HE9 := fun (h : codeBack x own m most = 9) => Lib.hid (HE.out 9 w6 h (by decide) (HBX.out.trans (HW6.out.mono HBX.out.size)))
                    clear p0 p1 p2 p3 y0 q0 q1 q2
                    by_cases h3 : most < xr
                    · have u3 : decide (most < xr) = true := decide_eq_true h3
                      have H9 := HE9 (HNOc.out (decide_eq_false (by omega)))
                      clear h3 HNEW HE9
                      go_wp2
                      refine bodyPost_ret (v := .tuple #[.slice none 0 0, .int .i64 9]) (by simp [results, Try.results13, go_sem]) rfl ?_
                      exact H9.out
                    · have u3 : decide (most < xr) = false := decide_eq_false h3
                      by_cases h4 : xr < -most - 1
                      · have u4 : decide (xr < -most - 1) = true := decide_eq_true h4
                        have H9 := HE9 (HNOc.out (decide_eq_false (by omega)))
                        clear h3 h4 HNEW HE9
                        go_wp2
                        refine bodyPost_ret (v := .tuple #[.slice none 0 0, .int .i64 9]) (by simp [results, Try.results13, go_sem]) rfl ?_
                        exact H9.out
                      · have u4 : decide (xr < -most - 1) = false := decide_eq_false h4
                        have HT2 : Hid (((backL x own m).take (c + 1)).all (inM most) = true) := by show _ = _; rw [HTKc.out, HT.out, show inM most xr = true from decide_eq_true (by omega)]; rfl
                        have hown6 := ownsRow_below HOW.out HB6.out
                        have hs6 := HW6.out.size
                        clear h3 h4 HE9 HNOc HFAc HOW
                        go_wp2_with (at_builtin; refine wpList_append_own2 _ rfl _ _ 25 rfl W0.heap.size 3 i0 (.int .i64 0) 1 8 Try.underlying25 hii hz0 hz1 hz2 rfl (by decide) _ _ _ rfl (hown6.alloc _) ⟨w6.heap.size, 0, none⟩ 1 1 [.int .i64 xr] rfl rfl ?c1 ?c2 ?c3 ?c4 ?c5 ?_)
                        case c1 =>
                          intro j u hj
                          match j, hj with
                          | 0, hj => simp at hj; subst hj; simp [Addr.add]
                        case c2 => intro u hu; simp at hu; subst hu; rfl
                        case c3 => unfold maxLen; omega
                        case c4 => omega
                        case c5 => simp; omega
                        intro v' w7 hown7 hgrow hat
                        rw [← HNEW.out] at hown7
                        have HW7 : Hid (Below W0.heap.size W0 w7) := (HW6.out.trans ((box_below w6 (.cells #[.int .i64 xr] 3)).mono hs6)).grown hgrow (by simp; omega) (by intro g hg; exact (own_block_lt hown6 g hg).1)
                        clear hgrow hat hown6
                        go_wp2
                        go_roundg (gk - 1)
                        case rel => exact ⟨c + 1, by omega, by have := HGK.out; omega, by go_num, HT2, hown7, HW7⟩
                        case measure => have := HGK.out; omega
              · obtain rfl : c = own.length := by omega
                have h := hown
                have ht := HT.out
                rw [HTF.out] at h ht
                obtain ⟨ro, rc, rfl, HR⟩ := HF.out wr _ h ht HW.out
                have HRR := Lib.hid HR
                clear hown h HR ht
                go_wp2
                refine bodyPost_ret (v := .tuple #[.slice ro own.length rc, .int .i64 0]) (by simp [results, Try.results13, go_sem]) rfl ?_
                exact HRR.out
    · have HC : Hid (codeBack x own m most = 8) := by show _ = _; unfold codeBack; rw [hg, if_pos rfl, if_neg hlen]
      have t1 : ((own.length : Int) != (m.length : Int)) = true := by rw [bne_iff_ne]; omega
      have t1n : (own.length != m.length) = true := by rw [bne_iff_ne]; exact hlen
      clear hi hj hi0 hj0 hg hb0 hn0 hW0 HIM hlen
      go_enter Try.func13, Try.ntmps13
      go_wp2_with fail
      rw [← HW0.out]
      refine HGD.out.mono ?_
      rintro e w1 ⟨rfl, hb1⟩
      have HB1 := Lib.hid (HBX.out.trans (hb1.mono HBX.out.size))
      clear hb1 k0 k1 k2 k3 k4
      go_wp2
      refine bodyPost_ret (v := .tuple #[.slice none 0 0, .int .i64 8]) (by simp [results, Try.results13, go_sem]) rfl ?_
      exact HE.out 8 _ HC.out (by decide) HB1.out
end Go.Proofs.Ytbbcemgcanclnaa
