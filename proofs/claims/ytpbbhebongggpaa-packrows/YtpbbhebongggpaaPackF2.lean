import Derived.Test.YtpbbhebongggpaaPackF1
import Derived.Deep.AppendLies
import Derived.Deep.RegionHeld3
namespace Go.Proofs.Ytpbbhebongggpaa
open Go.RowKit Go.Proofs Go.Proofs.PipeM Go.Proofs.PipeA Go.Proofs.PackM
set_option maxRecDepth 100000

theorem row_all_take {B : Int} {l : List Int} {k : Nat} (hk : k < l.length) : (l.take (k + 1)).all (hasB B) = ((l.take k).all (hasB B) && hasB B l[k]) := by
  rw [List.take_succ_eq_append_getElem hk, List.all_append]; simp
theorem row_all_no {B : Int} {l : List Int} {k : Nat} (hk : k < l.length) (h : hasB B l[k] = false) : l.all (hasB B) = false := by
  cases ha : l.all (hasB B) with
  | false => rfl
  | true => rw [List.all_eq_true.1 ha _ (List.getElem_mem hk)] at h; cases h

set_option maxHeartbeats 3200000 in
theorem rCheck (ao : Option Addr) (cap : Nat) (rows : List (List Int)) (B : Int) (g : Bool) (w : World) (hs : Small rows) (hi : RowsAt w ao rows) :
    Calls Try.prog 11 #[.agg #[.int .i64 B, .bool g], .slice ao rows.length cap] w fun e w' => e = .returned (.int .i64 (code B rows)) ∧ Below w.heap.size w w' := by
  have HB := fun o => Lib.hid (box_below w o)
  have HG := fun W => Lib.hid (rGood B g W)
  have HI := Lib.hid hi
  have HS := Lib.hid hs
  have hl12 := hs.1
  clear hi hs
  cases hgd : good B
  · have HC := Lib.hid (code_bad rows hgd)
    rw [hgd] at HG
    clear hgd
    go_enter Try.func11, Try.ntmps11
    go_wp2_with fail
    refine (HG _).out.mono ?_
    rintro e w1 ⟨rfl, hb⟩
    have HB1 := Lib.hid ((HB _).out.trans (hb.mono (HB _).out.size))
    clear hb
    go_wp2
    go_ret
    exact ⟨by rw [HC.out]; rfl, HB1.out⟩
  · have HGD := Lib.hid hgd
    have HHA := fun n W => Lib.hid (rHas B n W (of_decide_eq_true hgd))
    rw [hgd] at HG
    clear hgd
    by_cases hcnt : 1 ≤ rows.length ∧ rows.length ≤ 8
    · have t1 : decide ((rows.length : Int) < 1) = false := decide_eq_false (by omega)
      have t2 : decide (8 < (rows.length : Int)) = false := decide_eq_false (by omega)
      have h0 : 0 < rows.length := hcnt.1
      obtain ⟨b, off, ro, rc, rfl, hg0, hcell0, _⟩ := HI.out 0 h0
      rw [Nat.add_zero] at hcell0
      have hx0 := HS.out.2 rows[0] (List.getElem_mem _)
      have HX0 : Hid (rows.headD [] = rows[0]) := head_get h0
      obtain ⟨x0, hx0e⟩ : ∃ x0, x0 = rows[0].length := ⟨_, rfl⟩
      rw [← hx0e] at hcell0 hx0
      have HX0E := Lib.hid hx0e
      clear hx0e
      go_enter Try.func11, Try.ntmps11
      go_wp2_with fail
      refine (HG _).out.mono ?_
      rintro e w1 ⟨rfl, hb⟩
      have HB1 := Lib.hid ((HB _).out.trans (hb.mono (HB _).out.size))
      have c0 : w1.cell? ⟨w.heap.size, 0, none⟩ = some (.int .i64 B) := (hb.cell (p := ⟨w.heap.size, 0, none⟩) (by simp)).trans (by simp)
      clear hb
      go_wp2
      go_loopg [5, 21] rows.length (fun gk q i wr => ∃ c d : Nat, c ≤ rows.length ∧ gk + c = rows.length ∧ i = .int .i64 c ∧ Hid (levelTo rows c = true) ∧ Hid (wr = w1.drewN d))
      case atStart => exact ⟨0, 0, Nat.zero_le _, by omega, rfl, rfl, rfl⟩
      case round =>
        obtain ⟨c, d, hc, hgk, rfl, HT, HW⟩ := hrel
        have HGK := Lib.hid hgk
        clear hgk
        have hcellw : wr.cell? ⟨b, off, none⟩ = some (.slice ro x0 rc) := by rw [HW.out]; exact (HB1.out.cell (p := ⟨b, off, none⟩) hg0).trans hcell0
        by_cases hlt : c < rows.length
        · obtain ⟨b', off', ro', rc', e0, hg, hcell, _⟩ := HI.out c hlt
          cases e0
          have hcellc : wr.cell? ⟨b, off + c, none⟩ = some (.slice ro' rows[c].length rc') := by rw [HW.out]; exact (HB1.out.cell (p := ⟨b, off + c, none⟩) hg).trans hcell
          have hxc := HS.out.2 rows[c] (List.getElem_mem _)
          have HSTEP := Lib.hid (level_step hlt)
          have HNO := Lib.hid (level_no hlt)
          rw [HX0.out, ← HX0E.out] at HSTEP HNO
          generalize rows[c].length = x at hcellc hxc HSTEP HNO
          clear hcell hg
          by_cases hxy : x = x0
          · have t : ((x : Int) != (x0 : Int)) = false := by rw [bne_eq_false_iff_eq]; omega
            have tt : decide (1048576 < (x : Int)) = false := decide_eq_false (by omega)
            have HL2 : Hid (levelTo rows (c + 1) = true) := by show _ = _; rw [HSTEP.out, HT.out]; simpa using hxy
            clear hxy HSTEP HNO
            go_wp2
            go_quiet (fail)
            go_wp2
            go_roundg (gk - 1)
            case rel => exact ⟨c + 1, _, by omega, by have := HGK.out; omega, by go_num, HL2, by show _ = _; rw [HW.out]; exact World.drewN_drewN _ _ _⟩
            case measure => have := HGK.out; omega
          · have t : ((x : Int) != (x0 : Int)) = true := by rw [bne_iff_ne]; omega
            have HL2 := Lib.hid (code_level HGD.out (HNO.out (by simpa using hxy)))
            clear hxy HSTEP HNO
            go_wp2
            go_quiet (fail)
            go_wp2
            go_ret
            exact ⟨by rw [HL2.out]; rfl, by rw [HW.out]; exact below_drewN (below_drewN HB1.out _) _⟩
        · obtain rfl : c = rows.length := by omega
          have HC : Hid (code B rows = if allHas B rows = true then 0 else 9) := by
            have := HT.out; rw [level_all] at this
            exact code_has HGD.out hcnt.1 hcnt.2 this
          have HW1 : Hid (Below w.heap.size w wr) := by rw [HW.out]; exact below_drewN HB1.out _
          obtain ⟨cd, hcd⟩ : ∃ cd, cd = code B rows := ⟨_, rfl⟩
          have HCD := Lib.hid hcd
          rw [← hcd] at HC
          have c0r : wr.cell? ⟨w.heap.size, 0, none⟩ = some (.int .i64 B) := by rw [HW.out]; exact c0
          clear hcellw hcd HW
          obtain ⟨W2, rfl⟩ : ∃ W2, W2 = wr := ⟨_, rfl⟩
          go_wp2
          go_loopg [6, 45] rows.length (fun gk q i wr => ∃ c d : Nat, c ≤ rows.length ∧ gk + c = rows.length ∧ i = .int .i64 c ∧ Hid (hasTo B rows c = true) ∧ Hid (wr = W2.drewN d))
          case atStart => exact ⟨0, 0, Nat.zero_le _, by omega, rfl, rfl, rfl⟩
          case round =>
            obtain ⟨c, d, hc, hgk, rfl, HT, HW⟩ := hrel
            have HGK := Lib.hid hgk
            clear hgk
            by_cases hlt : c < rows.length
            · obtain ⟨b', off', ro', rc', e0, hg, hcell, hints⟩ := HI.out c hlt
              cases e0
              have hcellc := (HW1.out.cell (p := ⟨b, off + c, none⟩) hg).trans hcell
              have HINTS := Lib.hid (hints.below HW1.out)
              have hxc := HS.out.2 rows[c] (List.getElem_mem _)
              have HSTEP := Lib.hid (has_step (B := B) hlt)
              have HNO := Lib.hid (has_no (B := B) hlt)
              generalize rows[c] = row at hcellc hxc HSTEP HNO HINTS
              obtain ⟨x, hxe⟩ : ∃ x, x = row.length := ⟨_, rfl⟩
              rw [← hxe] at hcellc hxc
              have HXE := Lib.hid hxe
              have hcelld : wr.cell? ⟨b, off + c, none⟩ = some (.slice ro' x rc') := by rw [HW.out]; exact hcellc
              clear hcell hg hints hxe hcellc
              obtain ⟨W3, rfl⟩ : ∃ W3, W3 = wr := ⟨_, rfl⟩
              obtain ⟨G3, rfl⟩ : ∃ G3, G3 = gk := ⟨_, rfl⟩
              go_wp2
              go_loopg [7, 53] x (fun gk q i wr => ∃ k e : Nat, k ≤ x ∧ gk + k = x ∧ i = .int .i64 k ∧ Hid ((row.take k).all (hasB B) = true) ∧ Hid (wr = W3.drewN e))
              case atStart => exact ⟨0, 0, Nat.zero_le _, by omega, rfl, rfl, rfl⟩
              case round =>
                obtain ⟨k, e, hk, hgk, rfl, HT3, HW3⟩ := hrel
                have HGK3 := Lib.hid hgk
                clear hgk
                by_cases hltk : k < x
                · have hkr : k < row.length := by have := HXE.out; omega
                  obtain ⟨b3, off3, rfl, hb3, hcell3⟩ := HINTS.out k hkr
                  have y1 : wr.cell? ⟨w.heap.size, 0, none⟩ = some (.int .i64 B) := by rw [HW3.out, HW.out]; exact c0r
                  have y2 : wr.cell? ⟨b, off + c, none⟩ = some (.slice (some ⟨b3, off3, none⟩) x rc') := by rw [HW3.out]; exact hcelld
                  have y3 : wr.cell? ⟨b3, off3 + k, none⟩ = some (.int .i64 row[k]) := by rw [HW3.out, HW.out]; exact hcell3
                  have HTK := Lib.hid (row_all_take (B := B) hkr)
                  have HNK := Lib.hid (row_all_no (B := B) hkr)
                  have HHK := fun n => Lib.hid (quiet_left (HHA row[k] (wr.drewN n)).out)
                  clear hb3 hcell3
                  cases hh : hasB B row[k]
                  · have HR9 : Hid (cd = 9) := by show _ = _; rw [HC.out, HNO.out (HNK.out hh)]; rfl
                    rw [hh] at HHK
                    clear hh HTK HNK
                    generalize row[k] = nn at y3 HHK
                    go_wp2
                    go_quiet ((go_at_call 20; exact (HHK _).out))
                    go_wp2
                    go_ret
                    exact ⟨by rw [← HCD.out, HR9.out]; rfl, by rw [HW3.out, HW.out]; exact below_drewN (below_drewN (below_drewN HW1.out _) _) _⟩
                  · have HT4 : Hid ((row.take (k + 1)).all (hasB B) = true) := by show _ = _; rw [HTK.out, HT3.out, hh]; rfl
                    rw [hh] at HHK
                    clear hh HTK HNK
                    generalize row[k] = nn at y3 HHK
                    go_wp2
                    go_quiet ((go_at_call 20; exact (HHK _).out))
                    go_wp2
                    go_roundg (gk - 1)
                    case rel => exact ⟨k + 1, _, by omega, by have := HGK3.out; omega, by go_num, HT4, by show _ = _; rw [HW3.out]; exact World.drewN_drewN _ _ _⟩
                    case measure => have := HGK3.out; omega
                · obtain rfl : k = x := by omega
                  have HT4 : Hid (hasTo B rows (c + 1) = true) := by
                    have := HT3.out
                    rw [HXE.out, List.take_length] at this
                    show _ = _; rw [HSTEP.out, HT.out, this]; rfl
                  go_wp2
                  go_roundg (G3 - 1)
                  case rel => exact ⟨c + 1, _, by omega, by have := HGK.out; omega, by go_num, HT4, by show _ = _; rw [HW3.out, HW.out]; exact World.drewN_drewN _ _ _⟩
                  case measure => have := HGK.out; omega
            · obtain rfl : c = rows.length := by omega
              have HR0 : Hid (cd = 0) := by have := HT.out; rw [has_all] at this; show _ = _; rw [HC.out, this]; rfl
              go_wp2
              go_ret
              exact ⟨by rw [← HCD.out, HR0.out]; rfl, by rw [HW.out]; exact below_drewN HW1.out _⟩
    · have HC := Lib.hid (code_count HGD.out hcnt)
      by_cases h1 : rows.length < 1
      · have t1 : decide ((rows.length : Int) < 1) = true := decide_eq_true (by omega)
        clear hcnt h1
        go_enter Try.func11, Try.ntmps11
        go_wp2_with fail
        refine (HG _).out.mono ?_
        rintro e w1 ⟨rfl, hb⟩
        have HB1 := Lib.hid ((HB _).out.trans (hb.mono (HB _).out.size))
        clear hb
        go_wp2
        go_ret
        exact ⟨by rw [HC.out]; rfl, HB1.out⟩
      · have t1 : decide ((rows.length : Int) < 1) = false := decide_eq_false (by omega)
        have t2 : decide (8 < (rows.length : Int)) = true := decide_eq_true (by omega)
        clear hcnt h1
        go_enter Try.func11, Try.ntmps11
        go_wp2_with fail
        refine (HG _).out.mono ?_
        rintro e w1 ⟨rfl, hb⟩
        have HB1 := Lib.hid ((HB _).out.trans (hb.mono (HB _).out.size))
        clear hb
        go_wp2
        go_ret
        exact ⟨by rw [HC.out]; rfl, HB1.out⟩
end Go.Proofs.Ytpbbhebongggpaa
