import Derived.Test.YtbbcemgcanclnaaWefF2
import Derived.Deep.AppendLies
import Derived.Deep.RegionHeld3
namespace Go.Proofs.Ytbbcemgcanclnaa
open Go.RowKit Go.Proofs Go.Proofs.PipeM Go.Proofs.PipeA Go.Proofs.WefM
set_option maxRecDepth 100000

theorem own_farW {w : World} {base n size b : Nat} {e : TypeId} {xs : List Value} {v : Value} (h : w.ownsRow base e size v n xs) (hb : b < base) : some b ≠ v.ownBlock := by
  intro he
  have := (own_block_lt h b he.symm).1
  omega
theorem cellW {W : World} {a : Addr} {v : Value} (o : Obj) (hlt : a.block < W.heap.size) (h : W.cell? a = some v) : (W.alloc o).cell? a = some v := ((box_below W o).cell (p := a) hlt).trans h
theorem own_capW {w : World} {base size n cap : Nat} {e : TypeId} {xs : List Value} {ao : Option Addr} (h : w.ownsRow base e size (.slice ao n cap) n xs) : n ≤ cap := by
  rcases h.2 with ⟨h1, h2⟩ | ⟨g, cap', cur, h1, _, _, h2, _⟩
  · omega
  · cases h1; exact h2
theorem intsOf_takeW {l : List Int} {j : Nat} (h : j < l.length) : intsOf (l.take (j + 1)) = intsOf (l.take j) ++ [.int .i64 l[j]] := by
  unfold intsOf
  rw [List.take_succ_eq_append_getElem h, List.map_append]; rfl
/-- Numbers in new memory, or what is wrong. -/
def RowR (code : Int) (m : List Int) (w : World) (e : Ending) (w' : World) : Prop :=
  (code ≠ 0 ∧ e = .returned (.tuple #[.slice none 0 0, .int .i64 code]) ∧ Below w.heap.size w w') ∨
  (code = 0 ∧ ∃ ao cap, e = .returned (.tuple #[.slice ao m.length cap, .int .i64 0]) ∧ IntsAt w' ao m ∧ m.length ≤ cap ∧ (∀ g off, ao = some ⟨g, off, none⟩ → w.heap.size ≤ g) ∧ Below w.heap.size w w')

set_option maxHeartbeats 3200000 in
theorem rRestW (x : Wv) (ao bo : Option Addr) (cap cap2 : Nat) (own m : List Int) (w : World) (hl : own.length ≤ 100000) (hl2 : m.length ≤ 100000) (hi : IntsAt w ao own) (hj : IntsAt w bo m) :
    Calls Try.prog 10 #[wvV x, .slice ao own.length cap, .slice bo m.length cap2] w (RowR (codeRest x own m) (restL x own m) w) := by
  obtain ⟨i0, hii, hz0, hz1, hz2⟩ := info_parts info_int
  have hb0 := box_below w (.cells #[.bool x.some, .int .i64 x.master, .int .i64 x.g0, .int .i64 x.g1, .int .i64 x.g2] 24)
  have hn0 := heap_alloc_new w (.cells #[.bool x.some, .int .i64 x.master, .int .i64 x.g0, .int .i64 x.g1, .int .i64 x.g2] 24)
  have k0 := cell_of_heap hn0 0
  have k1 := cell_of_heap hn0 1
  have k2 := cell_of_heap hn0 2
  have k3 := cell_of_heap hn0 3
  have k4 := cell_of_heap hn0 4
  simp only [List.getElem?_toArray, List.getElem?_cons_zero, List.getElem?_cons_succ] at k0 k1 k2 k3 k4
  obtain ⟨W0, hW0⟩ : ∃ W0, W0 = w.alloc (.cells #[.bool x.some, .int .i64 x.master, .int .i64 x.g0, .int .i64 x.g1, .int .i64 x.g2] 24) := ⟨_, rfl⟩
  have HKC : Hid (∀ W, Below W0.heap.size W0 W → W.cell? ⟨w.heap.size, 2, none⟩ = some (.int .i64 x.g0) ∧ W.cell? ⟨w.heap.size, 3, none⟩ = some (.int .i64 x.g1) ∧ W.cell? ⟨w.heap.size, 4, none⟩ = some (.int .i64 x.g2)) := fun W hb => by
    have hlt : w.heap.size < W0.heap.size := by rw [hW0]; exact (Array.getElem?_eq_some_iff.1 hn0).1
    exact ⟨(hb.cell (p := ⟨w.heap.size, 2, none⟩) hlt).trans (by rw [hW0]; exact k2), (hb.cell (p := ⟨w.heap.size, 3, none⟩) hlt).trans (by rw [hW0]; exact k3), (hb.cell (p := ⟨w.heap.size, 4, none⟩) hlt).trans (by rw [hW0]; exact k4)⟩
  have hbW : Below w.heap.size w W0 := by rw [hW0]; exact hb0
  have hw0 : w.heap.size < W0.heap.size := by rw [hW0]; exact (Array.getElem?_eq_some_iff.1 hn0).1
  have hi0 := hi.below hbW
  have hj0 := hj.below hbW
  have HGD := Lib.hid (rGoodW x 8 W0)
  have HIN := fun W (hb : Below W0.heap.size W0 W) => Lib.hid (rIn ao cap own W hl (hi0.below hb))
  have HIM := fun W (hb : Below W0.heap.size W0 W) => Lib.hid (rIn bo cap2 m W hl2 (hj0.below hb))
  have HW0 := Lib.hid hW0
  have HBX := Lib.hid hbW
  have HE : Hid (∀ c W, codeRest x own m = c → c ≠ 0 → Below w.heap.size w W → RowR (codeRest x own m) (restL x own m) w (.returned (.tuple #[.slice none 0 0, .int .i64 c])) W) := fun c W h1 h2 hb => by
    subst h1; exact .inl ⟨h2, rfl, hb⟩
  unfold wvV at HGD ⊢
  cases hg : goodW x 8 with
  | false =>
    have hc : codeRest x own m = 2 := by unfold codeRest; rw [hg]; rfl
    have HC := Lib.hid hc
    rw [hg] at HGD
    clear hi hj hi0 hj0 hc hg hb0 hn0 hW0
    go_enter Try.func10, Try.ntmps10
    go_wp2_with fail
    rw [← HW0.out]
    refine HGD.out.mono ?_
    rintro e w1 ⟨rfl, hb1⟩
    have HB1 := Lib.hid (HBX.out.trans (hb1.mono HBX.out.size))
    clear hb1 k0 k1 k2 k3 k4
    go_wp2
    refine bodyPost_ret (v := .tuple #[.slice none 0 0, .int .i64 2]) (by simp [results, Try.results10, go_sem]) rfl ?_
    exact HE.out 2 _ HC.out (by decide) HB1.out
  | true =>
    rw [hg] at HGD
    by_cases hlen : own.length = m.length
    · have t1 : ((own.length : Int) != (m.length : Int)) = false := by rw [bne_eq_false_iff_eq]; omega
      have t1n : (own.length != m.length) = false := by rw [bne_eq_false_iff_eq]; exact hlen
      cases ho : own.all inS with
      | false =>
        have hc : codeRest x own m = 9 := by unfold codeRest; rw [hg, if_pos rfl, if_pos hlen, ho]; rfl
        have HC := Lib.hid hc
        rw [ho] at HIN
        clear hi hj hi0 hj0 hc hg hb0 hn0 hW0 ho HIM
        generalize hq : m.length = ml at *
        clear hlen hq
        go_enter Try.func10, Try.ntmps10
        go_wp2_with fail
        rw [← HW0.out]
        refine HGD.out.mono ?_
        rintro e w1 ⟨rfl, hb1⟩
        have HB1 := Lib.hid (HBX.out.trans (hb1.mono HBX.out.size))
        have HI1 := HIN w1 hb1
        clear hb1 k0 k1 k2 k3 k4 HIN
        go_wp2_with fail
        refine HI1.out.mono ?_
        rintro e w2 ⟨rfl, rfl⟩
        go_wp2
        refine bodyPost_ret (v := .tuple #[.slice none 0 0, .int .i64 9]) (by simp [results, Try.results10, go_sem]) rfl ?_
        exact HE.out 9 _ HC.out (by decide) HB1.out
      | true =>
        rw [ho] at HIN
        cases hm : m.all inS with
        | false =>
          have hc : codeRest x own m = 9 := by unfold codeRest; rw [hg, if_pos rfl, if_pos hlen, ho, hm]; rfl
          have HC := Lib.hid hc
          rw [hm] at HIM
          clear hi hj hi0 hj0 hc hg hb0 hn0 hW0 ho hm
          generalize hq : m.length = ml at *
          clear hlen hq
          go_enter Try.func10, Try.ntmps10
          go_wp2_with fail
          rw [← HW0.out]
          refine HGD.out.mono ?_
          rintro e w1 ⟨rfl, hb1⟩
          have HB1 := Lib.hid (HBX.out.trans (hb1.mono HBX.out.size))
          have HI1 := HIN w1 hb1
          have HI2 := HIM w1 hb1
          clear hb1 k0 k1 k2 k3 k4 HIN HIM
          go_wp2_with fail
          refine HI1.out.mono ?_
          rintro e w2 ⟨rfl, rfl⟩
          go_wp2_with fail
          refine HI2.out.mono ?_
          rintro e w3 ⟨rfl, rfl⟩
          go_wp2
          refine bodyPost_ret (v := .tuple #[.slice none 0 0, .int .i64 9]) (by simp [results, Try.results10, go_sem]) rfl ?_
          exact HE.out 9 _ HC.out (by decide) HB1.out
        | true =>
          have hc : codeRest x own m = 0 := by unfold codeRest; rw [hg, if_pos rfl, if_pos hlen, ho, hm]; rfl
          rw [hm] at HIM
          have hgs := good_gains hg
          have HFO : Hid (∀ i W, i < own.length → Below W0.heap.size W0 W → Calls Try.prog 29 #[gnV x, .slice bo m.length cap2, .int .i64 i] W fun e w' => e = .returned (.int .i64 (fore x m i)) ∧ Below W.heap.size W w') := fun i W h hb => rForeseen x bo cap2 m i W hgs hm hl2 (by omega) (hj0.below hb)
          have HFB : Hid (∀ i, -25165824 ≤ fore x m i ∧ fore x m i ≤ 25165824) := fore_bound hg hm
          have HOB : Hid (∀ y ∈ own, -8388608 ≤ y ∧ y ≤ 8388607) := all_S ho
          have HIO : Hid (∀ W, Below W0.heap.size W0 W → IntsAt W ao own) := fun W hb => hi0.below hb
          have HRL : Hid (∀ j (hj : j < own.length), intsOf ((restL x own m).take (j + 1)) = intsOf ((restL x own m).take j) ++ [.int .i64 (own[j] - fore x m j)]) := fun j hj => by
            rw [intsOf_takeW (by rw [restL_length]; exact hj), restL_at hj, getD_ltW hj]
          have HLT : Hid (∀ b off, ao = some ⟨b, off, none⟩ → 0 < own.length → b < W0.heap.size) := fun b off e h => by
            obtain ⟨b', off', e', hb', _⟩ := hi0 0 h
            rw [e] at e'
            cases e'
            exact hb'
          have HF : Hid (∀ W v, W.ownsRow W0.heap.size 3 1 v own.length (intsOf (restL x own m)) → Below W0.heap.size W0 W → ∃ ro rc, v = .slice ro own.length rc ∧ RowR (codeRest x own m) (restL x own m) w (.returned (.tuple #[.slice ro own.length rc, .int .i64 0])) W) := fun W v h hb => by
            obtain ⟨ro, rc, rfl⟩ := own_slice h
            have hcp := own_capW h
            have e := restL_length x own m
            refine ⟨ro, rc, rfl, .inr ⟨hc, ro, rc, by rw [e], ints_own (cap := rc) (by rw [e]; exact h), by rw [e]; exact hcp, fun g off e' => ?_, hbW.trans (hb.mono hbW.size)⟩⟩
            subst e'
            have := (own_block_lt h g rfl).1
            omega
          unfold gnV at HFO
          clear hi hj hi0 hj0 hc hg hb0 hn0 hW0 ho hm hgs hbW
          generalize hq : m.length = ml at *
          clear hlen hq
          go_enter Try.func10, Try.ntmps10
          go_wp2_with fail
          rw [← HW0.out]
          refine HGD.out.mono ?_
          rintro e w1 ⟨rfl, hb1⟩
          have HB1 := Lib.hid hb1
          have HI1 := HIN w1 hb1
          have HI2 := HIM w1 hb1
          clear hb1 k0 k1 k2 k3 k4 HIN HIM
          go_wp2_with fail
          refine HI1.out.mono ?_
          rintro e w2 ⟨rfl, rfl⟩
          go_wp2_with fail
          refine HI2.out.mono ?_
          rintro e w3 ⟨rfl, rfl⟩
          go_wp2
          go_loopg [8, 9, 28] own.length (fun gk va q i wr => ∃ c : Nat, c ≤ own.length ∧ gk + c = own.length ∧ i = .int .i64 c ∧ wr.ownsRow W0.heap.size 3 1 va c (intsOf ((restL x own m).take c)) ∧ Hid (Below W0.heap.size W0 wr))
          case atStart => exact ⟨0, Nat.zero_le _, by omega, rfl, World.ownsRow_nil _ _ _ _, HB1⟩
          case round =>
            obtain ⟨c, hcl, hgk, rfl, hown, HW⟩ := hrel
            have HGK := Lib.hid hgk
            clear hgk
            by_cases hlt : c < own.length
            · obtain ⟨b, off, rfl, hbr, hcell⟩ := HIO.out wr HW.out c hlt
              have hxb := HOB.out _ (List.getElem_mem hlt)
              have hfb := HFB.out c
              have HNEW := Lib.hid (HRL.out c hlt)
              have HFC := fun W hb => Lib.hid (HFO.out c W hlt hb)
              have hbW := HLT.out b off rfl (by omega)
              generalize own[c] = y at hcell hxb HNEW
              generalize fore x m c = f at hfb HNEW HFC
              obtain ⟨xr, hxr⟩ : ∃ xr, xr = y - f := ⟨_, rfl⟩
              rw [← hxr] at HNEW
              have hwx : IntKind.i64.wrap (y - f) = xr := by rw [hxr]; exact IntWalk.i64_in _ (by omega)
              have HFAR := Lib.hid (own_farW hown hbW)
              have hszr := HW.out.size
              have HFA2 := Lib.hid (own_farW hown hw0)
              have y0 : wr.cell? ⟨b, off + c, none⟩ = some (.int .i64 y) := hcell
              obtain ⟨q0, q1, q2⟩ := HKC.out wr HW.out
              have hwr : w.heap.size < wr.heap.size := by omega
              clear hxr hxb hfb hcell
              go_wp2_with fail
              go_region_held3 (fun w' => w'.cell? ⟨b, off + c, none⟩ = some (.int .i64 y) ∧ w'.cell? ⟨w.heap.size, 2, none⟩ = some (.int .i64 x.g0) ∧ w'.cell? ⟨w.heap.size, 3, none⟩ = some (.int .i64 x.g1) ∧ w'.cell? ⟨w.heap.size, 4, none⟩ = some (.int .i64 x.g2))
                (first
                  | exact ⟨y0, q0, q1, q2⟩
                  | exact ⟨p0, p1, p2, p3⟩
                  | exact ⟨cellW (a := ⟨b, off + c, none⟩) _ hb6 p0, cellW (a := ⟨w.heap.size, 2, none⟩) _ hb7 p1, cellW (a := ⟨w.heap.size, 3, none⟩) _ hb7 p2, cellW (a := ⟨w.heap.size, 4, none⟩) _ hb7 p3⟩
                  | exact ⟨(hgrow.cell_far ⟨b, off + c, none⟩ (by simp; omega) HFAR.out).trans (cellW (a := ⟨b, off + c, none⟩) _ hb6 p0), (hgrow.cell_far ⟨w.heap.size, 2, none⟩ (by simp; omega) HFA2.out).trans (cellW (a := ⟨w.heap.size, 2, none⟩) _ hb7 p1), (hgrow.cell_far ⟨w.heap.size, 3, none⟩ (by simp; omega) HFA2.out).trans (cellW (a := ⟨w.heap.size, 3, none⟩) _ hb7 p2), (hgrow.cell_far ⟨w.heap.size, 4, none⟩ (by simp; omega) HFA2.out).trans (cellW (a := ⟨w.heap.size, 4, none⟩) _ hb7 p3)⟩
                  | fail)
                (first
                  | (go_at_call 29; refine (HFC _ (HW.out.trans ((keeps_drew_b wr []).below HW.out.size (by simp)))).out.mono ?_; rintro e w6 ⟨rfl, hbl6⟩; have hbl6' : Below wr.heap.size wr w6 := ((keeps_drew_b wr []).below (Nat.le_refl _) (by simp)).trans hbl6; have p0 := (hbl6'.cell (p := ⟨b, off + c, none⟩) hbr).trans y0; have p1 := (hbl6'.cell (p := ⟨w.heap.size, 2, none⟩) hwr).trans q0; have p2 := (hbl6'.cell (p := ⟨w.heap.size, 3, none⟩) hwr).trans q1; have p3 := (hbl6'.cell (p := ⟨w.heap.size, 4, none⟩) hwr).trans q2; have hb6 : b < w6.heap.size := Nat.lt_of_lt_of_le hbr hbl6'.size; have hb7 : w.heap.size < w6.heap.size := Nat.lt_of_lt_of_le hwr hbl6'.size; have hs6 := hbl6'.size; have HB6 := Lib.hid hbl6'; have hown' := ownsRow_below hown hbl6'; clear hbl6 hbl6')
                  | (refine step_append_lies _ (by rfl) _ _ 25 (by rfl) W0.heap.size 3 i0 (.int .i64 0) 1 8 Try.underlying25 hii hz0 hz1 hz2 rfl (by decide) _ c (intsOf ((restL x own m).take c)) (by rfl) (hown'.alloc (.cells #[.int .i64 xr] 3)) ⟨w6.heap.size, 0, none⟩ 1 1 [.int .i64 xr] (by rfl) (by rfl) (World.news_of_block (cs := #[.int .i64 xr]) (t := 3) (fr := (0, 0)) (heap_alloc_new _ _)) (by intro u hu; simp at hu; subst hu; rfl) (by omega) (by unfold maxLen; omega) (by omega) (by simp; omega) _ rfl ?_; intro g7 cap7 w7 hown7 hgrow hat hlt7)
                  | fail)
              rw [← HNEW.out] at hown7
              have HW7 : Hid (Below W0.heap.size W0 w7) := ((HW.out.trans (HB6.out.mono HW.out.size)).trans ((box_below w6 (.cells #[.int .i64 xr] 3)).mono (by omega))).grown hgrow (by simp; omega) (by intro x hx; exact (own_block_lt hown x hx).1)
              clear hgrow hat hlt7 hown hown'
              go_wp2
              go_roundg (gk - 1)
              case rel => exact ⟨c + 1, by omega, by have := HGK.out; omega, by go_num, hown7, HW7⟩
              case measure => have := HGK.out; omega
            · obtain rfl : c = own.length := by omega
              have h := hown
              rw [List.take_of_length_le (by rw [restL_length]; exact Nat.le_refl _)] at h
              obtain ⟨ro, rc, rfl, HR⟩ := HF.out wr _ h HW.out
              have HRR := Lib.hid HR
              clear hown h HR
              go_wp2
              refine bodyPost_ret (v := .tuple #[.slice ro own.length rc, .int .i64 0]) (by simp [results, Try.results10, go_sem]) rfl ?_
              exact HRR.out
    · have hc : codeRest x own m = 8 := by unfold codeRest; rw [hg, if_pos rfl, if_neg hlen]
      have HC := Lib.hid hc
      have t1 : ((own.length : Int) != (m.length : Int)) = true := by rw [bne_iff_ne]; omega
      have t1n : (own.length != m.length) = true := by rw [bne_iff_ne]; exact hlen
      clear hi hj hi0 hj0 hc hg hb0 hn0 hW0 HIN HIM hlen
      go_enter Try.func10, Try.ntmps10
      go_wp2_with fail
      rw [← HW0.out]
      refine HGD.out.mono ?_
      rintro e w1 ⟨rfl, hb1⟩
      have HB1 := Lib.hid (HBX.out.trans (hb1.mono HBX.out.size))
      clear hb1 k0 k1 k2 k3 k4
      go_wp2
      refine bodyPost_ret (v := .tuple #[.slice none 0 0, .int .i64 8]) (by simp [results, Try.results10, go_sem]) rfl ?_
      exact HE.out 8 _ HC.out (by decide) HB1.out
end Go.Proofs.Ytbbcemgcanclnaa
