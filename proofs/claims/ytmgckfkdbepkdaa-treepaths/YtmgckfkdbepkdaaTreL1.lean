import Derived.Test.YtmgckfkdbepkdaaTreP2
namespace Go.Proofs.Ytmgckfkdbepkdaa
open Go.RowKit Go.Proofs Go.Proofs.PipeA Go.Proofs.TreM
set_option maxRecDepth 100000

set_option maxHeartbeats 1600000 in
theorem awake9 (w : World) : Calls Try.prog 10 #[] w fun e w' => e = .returned (.bool true) ∧ Below w.heap.size w w' := by
  have HR := Lib.hid (cLeaves 64 [49, 49, 48] w (by simp))
  have hlv : leavesOf 64 [49, 49, 48] = some [16, 16, 32] := by decide
  have hcd : codeL 64 [49, 49, 48] = 0 := by decide
  go_enter Try.func10, Try.ntmps10
  go_wp2_with fail
  refine HR.out.mono ?_
  rintro e w1 h
  rcases h with ⟨h, _⟩ | ⟨_, ao, cap, l, hl, rfl, hi, hcp, _, hb1⟩
  · exact absurd hcd h
  · obtain rfl : l = [16, 16, 32] := Option.some.inj (hl.symm.trans hlv)
    have hb2 := box_below w1 (.cells #[.int .i64 16, .int .i64 16, .int .i64 32] 3)
    have h3 := World.alloc_heap_new w1 (.cells #[.int .i64 16, .int .i64 16, .int .i64 32] 3)
    have HS := Lib.hid (same_yes ao (some ⟨w1.heap.size, 0, none⟩) cap 3 [16, 16, 32] (w1.alloc (.cells #[.int .i64 16, .int .i64 16, .int .i64 32] 3)) (by simp) (hi.below hb2) (ints_block (l := [16, 16, 32]) h3))
    have HB2 := Lib.hid (hb1.trans (hb2.mono hb1.size))
    simp only [List.length_cons, List.length_nil, Nat.zero_add, Nat.reduceAdd] at HS ⊢
    clear hi hcp hb1 hb2 h3 HR hlv hcd hl
    go_wp2_with fail
    refine HS.out.mono ?_
    rintro e w2 ⟨rfl, k, hw2⟩
    have HB3 : Hid (Below w.heap.size w w2) := by show Below _ _ _; rw [hw2]; exact below_drewN HB2.out k
    clear hw2
    go_wp2
    go_ret
    exact ⟨rfl, HB3.out⟩

set_option maxHeartbeats 3200000 in
theorem treeLeaves (s : List UInt8) (size : Int) (w : World) (hz : -9223372036854775808 ≤ size ∧ size ≤ 9223372036854775807) (hsl : s.length ≤ 9223372036854775807) :
    Calls Try.prog 3 #[.string (bs s), .int .i64 size] w fun e w' => e = .returned (.bool true) ∧ Below w.heap.size w w' := by
  have HA := fun W => Lib.hid (awake9 W)
  by_cases hlen : s.length ≤ 200
  · have HC := fun W => Lib.hid (cLeaves size s W (by omega))
    have HR := fun W => Lib.hid (rLeaves size s W hz (by omega))
    obtain ⟨S, hS⟩ : ∃ S, S = bs s := ⟨_, rfl⟩
    have hSz : S.size ≤ 200 := by rw [hS, bs_size]; exact hlen
    have HSS := Lib.hid hS
    rw [← hS] at HC HR ⊢
    clear hS hlen hsl
    go_enter Try.func3, Try.ntmps3
    go_wp2_with fail
    refine (HA _).out.mono ?_
    rintro e w1 ⟨rfl, hb1⟩
    have HB1 := Lib.hid hb1
    clear hb1
    go_wp2_with fail
    refine (HC _).out.mono ?_
    rintro e w2 h2
    rcases h2 with ⟨hc, rfl, hb2⟩ | ⟨hc, ao2, cap2, l, hlv, rfl, hi2, hcp2, hl16, hb2⟩
    · have hne : (codeL size s != 0) = true := by rw [bne_iff_ne]; exact hc
      have HB2 := Lib.hid (HB1.out.trans (hb2.mono HB1.out.size))
      have HCD := Lib.hid hc
      obtain ⟨cd, hcd⟩ : ∃ cd, cd = codeL size s := ⟨_, rfl⟩
      have HCE := Lib.hid hcd
      rw [← hcd] at hne ⊢
      clear hc hb2 hcd
      go_wp2_with fail
      refine (HR _).out.mono ?_
      rintro e w3 h3
      rcases h3 with ⟨_, rfl, hb3⟩ | ⟨hc, _⟩
      · have HB3 := Lib.hid (HB2.out.trans (hb3.mono HB2.out.size))
        have HSN := fun W => Lib.hid (same_nil W)
        rw [← HCE.out]
        clear hb3
        go_wp2_with fail
        refine (HSN _).out.mono ?_
        rintro e w4 ⟨rfl, k, hw4⟩
        have HB4 : Hid (Below w.heap.size w w4) := by show Below _ _ _; rw [hw4]; exact below_drewN HB3.out k
        clear hw4
        go_wp2
        go_ret
        exact ⟨rfl, HB4.out⟩
      · exact absurd hc HCD.out
    · have HB2 := Lib.hid (HB1.out.trans (hb2.mono HB1.out.size))
      obtain ⟨n, rfl, hn1, hn2, _⟩ := codeL_zero hc
      rw [Int.toNat_natCast] at hlv
      have hrd := leavesOf_some.1 hlv
      have hsum := (rd_like 4 n s l [] hrd).1
      have hbd := rd_bound 4 n s l [] hrd
      have htx := leaves_text hlv
      have HLV := Lib.hid hlv
      have HI2 := Lib.hid hi2
      have HC0 := Lib.hid hc
      have HSUM := Lib.hid hsum
      have HBD := Lib.hid hbd
      have HTX := Lib.hid htx
      clear hc hb2 hlv hi2 hrd hsum hbd htx
      go_wp2_with fail
      refine (HR _).out.mono ?_
      rintro e w3 h3
      rcases h3 with ⟨hc, _⟩ | ⟨_, ao3, cap3, l3, hlv3, rfl, hi3, _, _, hb3⟩
      · exact absurd HC0.out hc
      · rw [Int.toNat_natCast] at hlv3
        obtain rfl : l3 = l := Option.some.inj (hlv3.symm.trans HLV.out)
        have HB3 := Lib.hid (HB2.out.trans (hb3.mono HB2.out.size))
        have HS3 := Lib.hid (same_yes ao2 ao3 cap2 cap3 l3 w3 (by omega) (HI2.out.below hb3) hi3)
        have HI3 := Lib.hid (HI2.out.below hb3)
        clear hb3 hi3 hlv3
        go_wp2_with fail
        refine HS3.out.mono ?_
        rintro e w4 ⟨rfl, k4, rfl⟩
        have HB4 : Hid (Below w.heap.size w (w3.drewN k4)) := below_drewN HB3.out k4
        have HI4 : Hid (IntsAt (w3.drewN k4) ao2 l3) := HI3.out.drewN k4
        generalize w3.drewN k4 = w4 at *
        clear HS3 HI3 HI2 HB3
        go_wp2
        go_loopg [9, 11, 47] l3.length (fun gk s q i wr => ∃ c : Nat, c ≤ l3.length ∧ gk + c = l3.length ∧ i = .int .i64 c ∧ s = .int .i64 (l3.take c).sum ∧ w4 = wr)
        case atStart => exact ⟨0, Nat.zero_le _, by omega, rfl, rfl, rfl⟩
        case round =>
          obtain ⟨c, hc, hgk, rfl, rfl, rfl⟩ := hrel
          have HGK := Lib.hid hgk
          clear hgk
          by_cases hlt : c < l3.length
          · obtain ⟨b, off, rfl, _, hcell⟩ := HI4.out c hlt
            have hxb := HBD.out _ (List.getElem_mem hlt)
            have hsb : -100000000 ≤ (l3.take c).sum ∧ (l3.take c).sum ≤ 100000000 := by
              have := sum_bound (l := l3.take c) (fun x hx => by have := HBD.out x (List.mem_of_mem_take hx); omega)
              rw [List.length_take] at this
              omega
            have hsn : (l3.take (c + 1)).sum = (l3.take c).sum + l3[c] := by
              rw [List.take_succ_eq_append_getElem hlt, List.sum_append]; simp
            generalize l3[c] = x at *
            obtain ⟨s', hs'⟩ : ∃ s', s' = (l3.take (c + 1)).sum := ⟨_, rfl⟩
            rw [← hs'] at hsn
            have HE := Lib.hid hs'
            generalize (l3.take c).sum = s0 at *
            have hw : IntKind.i64.wrap (s0 + x) = s' := by rw [IntWalk.i64_in _ (by omega)]; omega
            clear hsn hs' hsb hxb
            go_wp2
            go_roundg (gk - 1)
            case rel => exact ⟨c + 1, by omega, by have := HGK.out; omega, by go_num, by rw [← HE.out], rfl⟩
            case measure => have := HGK.out; omega
          · obtain rfl : c = l3.length := by omega
            rw [List.take_length, HSUM.out]
            have HX := Lib.hid (cText (n : Int) ao2 cap2 l3 w4 (by omega) hcp2 HI4.out)
            have HCX : Hid (codeX (n : Int) l3 = 0) := codeX_some (sizeB_nat hn1 hn2) HTX.out
            clear HGK hc hlt
            go_wp2_with fail
            refine HX.out.mono ?_
            rintro e w5 ⟨hb5, h5⟩
            rcases h5 with ⟨h5, _⟩ | ⟨_, t, ht, rfl, _⟩
            · exact absurd HCX.out h5
            · rw [Int.toNat_natCast] at ht
              obtain rfl : t = s := Option.some.inj (ht.symm.trans HTX.out)
              have HB5 := Lib.hid (HB4.out.trans (hb5.mono HB4.out.size))
              rw [← HSS.out]
              clear hb5 ht HX
              go_wp2
              go_ret
              exact ⟨by simp, HB5.out⟩
  · obtain ⟨S, hS⟩ : ∃ S, S = bs s := ⟨_, rfl⟩
    have hSz : 200 < S.size := by rw [hS, bs_size]; omega
    have hSz2 : S.size ≤ 9223372036854775807 := by rw [hS, bs_size]; exact hsl
    rw [← hS]
    clear hS hlen hsl
    go_enter Try.func3, Try.ntmps3
    go_wp2_with fail
    refine (HA _).out.mono ?_
    rintro e w1 ⟨rfl, hb1⟩
    have HB1 := Lib.hid hb1
    clear hb1
    go_wp2_with fail
    refine (HA _).out.mono ?_
    rintro e w2 ⟨rfl, hb2⟩
    have HB2 := Lib.hid (HB1.out.trans (hb2.mono HB1.out.size))
    clear hb2
    go_wp2
    go_ret
    exact ⟨rfl, HB2.out⟩
end Go.Proofs.Ytmgckfkdbepkdaa
