import Derived.Test.YtmgckfkdbepkdaaTreL1
import Derived.Test.YtmgckfkdbepkdaaTreT4
import Derived.Test.YtmgckfkdbepkdaaTreU
import Derived.Test.YtmgckfkdbepkdaaMore9
namespace Go.Proofs.Ytmgckfkdbepkdaa
open Go.RowKit Go.Proofs Go.Proofs.PipeM Go.Proofs.PipeA Go.Proofs.TreM
set_option maxRecDepth 100000

set_option maxHeartbeats 1600000 in
theorem treePuts_much (s : List UInt8) (size : Int) (mo : Option Addr) (mcap : Nat) (ms : List Nat) (w : World) (hs : s.length ≤ 9223372036854775807) (hm : ms.length ≤ 9223372036854775807) (h : ¬ (s.length ≤ 200 ∧ ms.length ≤ 20)) :
    Calls Try.prog 5 #[.string (bs s), .int .i64 size, .slice mo ms.length mcap] w fun e w' => e = .returned (.bool true) ∧ Below w.heap.size w w' := by
  have HA := fun W => Lib.hid (awake9 W)
  obtain ⟨S, hS⟩ : ∃ S, S = bs s := ⟨_, rfl⟩
  have hsz : S.size = s.length := by rw [hS, bs_size]
  rw [← hS]
  by_cases h1 : s.length ≤ 200
  · have h2 : 20 < ms.length := by omega
    have h3 : S.size ≤ 200 := by omega
    clear hS hsz h h1 hs
    go_enter Try.func5, Try.ntmps5
    go_wp2_with fail
    refine (HA _).out.mono ?_
    rintro e w1 ⟨rfl, hb1⟩
    have HB1 := Lib.hid hb1
    clear hb1
    go_wp2_with fail
    refine (HA _).out.mono ?_
    rintro e w2 ⟨rfl, hb2⟩
    have HB2 := Lib.hid (HB1.out.trans (hb2.mono HB1.out.size))
    clear hb2
    go_wp2
    go_ret
    exact ⟨rfl, HB2.out⟩
  · have h3 : 200 < S.size := by omega
    have h4 : S.size ≤ 9223372036854775807 := by omega
    clear hS hsz h h1 hs hm
    go_enter Try.func5, Try.ntmps5
    go_wp2_with fail
    refine (HA _).out.mono ?_
    rintro e w1 ⟨rfl, hb1⟩
    have HB1 := Lib.hid hb1
    clear hb1
    go_wp2_with fail
    refine (HA _).out.mono ?_
    rintro e w2 ⟨rfl, hb2⟩
    have HB2 := Lib.hid (HB1.out.trans (hb2.mono HB1.out.size))
    clear hb2
    go_wp2
    go_ret
    exact ⟨rfl, HB2.out⟩

set_option maxHeartbeats 1600000 in
theorem treePuts_no (s : List UInt8) (size : Int) (mo : Option Addr) (mcap : Nat) (ms : List Nat) (w : World) (hz : -9223372036854775808 ≤ size ∧ size ≤ 9223372036854775807) (hs : s.length ≤ 200) (hm : ms.length ≤ 20) (hc : codeL size s ≠ 0) :
    Calls Try.prog 5 #[.string (bs s), .int .i64 size, .slice mo ms.length mcap] w fun e w' => e = .returned (.bool true) ∧ Below w.heap.size w w' := by
  have HA := fun W => Lib.hid (awake9 W)
  have HR := fun W => Lib.hid (rLeaves size s W hz (by omega))
  have HP := fun W => Lib.hid (cTreePut size s W.heap.size (.slice none 0 0) [] [] (W.alloc (.cells #[.slice none 0 0, .int .i64 0] 38)) (by omega) (by simp) (wr_fresh W))
  obtain ⟨S, hS⟩ : ∃ S, S = bs s := ⟨_, rfl⟩
  have hsz : S.size ≤ 200 := by rw [hS, bs_size]; exact hs
  rw [← hS] at HR HP ⊢
  have HC := Lib.hid hc
  obtain ⟨cd, hcd⟩ : ∃ cd, cd = codeL size s := ⟨_, rfl⟩
  have HCD := Lib.hid hcd
  have t1 : (cd == 0) = false := by rw [hcd]; exact beq_eq_false_iff_ne.2 hc
  have t2 : (cd != 0) = true := by rw [hcd]; exact bne_iff_ne.2 hc
  clear hS hs hc hcd
  go_enter Try.func5, Try.ntmps5
  go_wp2_with fail
  refine (HA _).out.mono ?_
  rintro e w1 ⟨rfl, hb1⟩
  have HB1 := Lib.hid hb1
  clear hb1
  go_wp2_with fail
  refine (HR _).out.mono ?_
  rintro e w2 (⟨_, rfl, hb2⟩ | ⟨h, _⟩)
  · have HB2 := Lib.hid (HB1.out.trans (hb2.mono HB1.out.size))
    rw [← HCD.out]
    clear hb2
    go_wp2_with fail
    refine (HP _).out.mono ?_
    rintro e w3 (⟨_, rfl, hb3⟩ | ⟨h, _⟩)
    · have hbx := box_below w2 (.cells #[.slice none 0 0, .int .i64 0] 38)
      have hn := World.alloc_heap_new w2 (.cells #[.slice none 0 0, .int .i64 0] 38)
      have HL := Lib.hid (wLen w2.heap.size 0 w3 ((hb3.cell (p := ⟨w2.heap.size, 1, none⟩) (by simp)).trans (cell_of_heap hn 1)))
      have HB3 := Lib.hid (HB2.out.trans ((hbx.trans (hb3.mono hbx.size)).mono HB2.out.size))
      clear hb3 hbx hn
      go_wp2_with fail
      refine HL.out.mono ?_
      rintro e w4 ⟨rfl, rfl⟩
      go_wp2
      go_ret
      exact ⟨rfl, HB3.out⟩
    · exact absurd h HC.out
  · exact absurd h HC.out

theorem map_chr_inj : ∀ {a b : List Bool}, a.map chr = b.map chr → a = b
  | [], [], _ => rfl
  | [], _ :: _, h => by simp at h
  | _ :: _, [], h => by simp at h
  | x :: a, y :: b, h => by
    simp only [List.map_cons, List.cons.injEq] at h
    rw [map_chr_inj h.2]
    cases x <;> cases y <;> first | rfl | (simp [chr] at h)
/-- A tree's bits are taken as they were put, whatever stands behind. -/
theorem tree_behind {n : Nat} {t m u rest : List Bool} {lv a : List Int} (h : leavesOf n (t.map chr) = some lv) (hu : t ++ m = u ++ rest) (hr : rd 4 n ((t ++ m).map chr) = some (a, rest.map chr)) : u = t ∧ rest = m ∧ a = lv := by
  have h1 := rd_behind_bits 4 n _ (m.map chr) _ _ (leavesOf_some.1 h)
  rw [← List.map_append, List.nil_append, hr] at h1
  simp only [Option.some.injEq, Prod.mk.injEq] at h1
  have h2 := map_chr_inj h1.2
  subst h2
  exact ⟨(List.append_cancel_right hu).symm, rfl, h1.1⟩

set_option maxHeartbeats 6400000 in
theorem treePuts_yes (s : List UInt8) (size : Int) (mo : Option Addr) (mcap : Nat) (ms : List Nat) (w : World) (hz : -9223372036854775808 ≤ size ∧ size ≤ 9223372036854775807) (hs : s.length ≤ 200) (hm : ms.length ≤ 20) (hc : codeL size s = 0)
    (hb : ∀ z ∈ ms, z < 256) (hd : BytesAt w mo ms) (hnil : mo = none → ms = []) :
    Calls Try.prog 5 #[.string (bs s), .int .i64 size, .slice mo ms.length mcap] w fun e w' => e = .returned (.bool true) ∧ Below w.heap.size w w' := by
  have HA := fun W => Lib.hid (awake9 W)
  have HR := fun W => Lib.hid (rLeaves size s W hz (by omega))
  have HP := fun W => Lib.hid (cTreePut size s W.heap.size (.slice none 0 0) [] [] (W.alloc (.cells #[.slice none 0 0, .int .i64 0] 38)) (by omega) (by simp) (wr_fresh W))
  obtain ⟨n, rfl, hn1, hn2, lv0, hlv0⟩ := codeL_zero hc
  obtain ⟨t, ht, hst, htl⟩ := tree_bits hlv0
  have HT := Lib.hid ht
  have HST := Lib.hid hst
  have HD := Lib.hid hd
  have HZ := Lib.hid hb
  have HNL := Lib.hid hnil
  have HC := Lib.hid hc
  have hlen : (bs s).size = t.length := by rw [bs_size, ht, List.length_map]
  obtain ⟨S, hS⟩ : ∃ S, S = bs s := ⟨_, rfl⟩
  rw [← hS] at HR HP HST hlen ⊢
  have hS16 : S.size ≤ 16 := by omega
  obtain ⟨nm, hnm⟩ : ∃ nm, nm = ms.length := ⟨_, rfl⟩
  have HNM := Lib.hid hnm
  rw [← hnm] at hm ⊢
  have HLV := Lib.hid hlv0
  have HLEN := Lib.hid hlen
  have HTL := Lib.hid htl
  clear hS hs hc hd hb hnil ht hst hlv0 hnm hlen htl
  go_enter Try.func5, Try.ntmps5
  go_wp2_with fail
  refine (HA _).out.mono ?_
  rintro e w1 ⟨rfl, hb1⟩
  have HB1 := Lib.hid hb1
  clear hb1
  go_wp2_with fail
  refine (HR _).out.mono ?_
  rintro e w2 (⟨h, _⟩ | ⟨_, lao, lcap, lv, hlv, rfl, hlI, _, hl16, hb2⟩)
  · exact absurd HC.out h
  · rw [Int.toNat_natCast] at hlv
    obtain rfl : lv = lv0 := Option.some.inj (hlv.symm.trans HLV.out)
    have HB2 := Lib.hid (HB1.out.trans (hb2.mono HB1.out.size))
    have HLI2 := Lib.hid hlI
    obtain ⟨nl, hnl⟩ : ∃ nl, nl = lv.length := ⟨_, rfl⟩
    have HNLV := Lib.hid hnl
    rw [← hnl] at hl16 ⊢
    clear hb2 hlI hlv hnl
    go_wp2_with fail
    refine (HP _).out.mono ?_
    rintro e w3 (⟨h, _⟩ | ⟨_, rfl, t', ht', hw3⟩)
    · exact absurd HC.out h
    · obtain rfl : t' = t := map_chr_inj (ht'.symm.trans HT.out)
      rw [List.nil_append] at hw3
      have HB3 := Lib.hid (HB2.out.trans ((wrote_below hw3).mono HB2.out.size))
      obtain ⟨v3, zs3, hi3, hk3, ho3⟩ := hw3
      have c1 := hi3.c1
      have hz3 : w2.heap.size < w3.heap.size := hi3.lt
      have H3 := Lib.hid hi3
      have HK3 := Lib.hid (wrote_below (l := t') ⟨v3, zs3, hi3, hk3, ho3⟩)
      have HLI3 := Lib.hid (HLI2.out.below (wrote_below (l := t') ⟨v3, zs3, hi3, hk3, ho3⟩))
      obtain ⟨nt, hnt⟩ : ∃ nt, nt = t'.length := ⟨_, rfl⟩
      have HNT := Lib.hid hnt
      have hns : S.size = nt := by rw [hnt]; exact HLEN.out
      have hneq : ((nt : Int) != (S.size : Int)) = false := by rw [hns]; simp
      rw [← hnt] at c1
      have HBY := fun W => Lib.hid (show Calls Try.prog 19 #[.string S] W _ by have := refBytes t' W (by have := HTL.out; omega); rw [← HST.out] at this; exact this)
      clear hi3 hk3 ho3 ht' hnt hns
      go_wp2_with fail
      go_region_with (first
        | (go_at_call 17; refine (wLen w2.heap.size (nt : Int) _ (by simpa using c1)).mono ?_; rintro e w4 ⟨rfl, rfl⟩)
        | (go_at_call 18; refine (wBytes w2.heap.size v3 t' zs3 _ (by have := HTL.out; omega) (H3.out.keeps (keeps_drew w3) (by simp) (by simp))).mono ?_; rintro e w5 ⟨g5, rfl, hown5, hb5⟩; have hcv5 := conv_row hown5; have kk5 : Keeps [] w3 w5 := (keeps_drew w3).trans (keeps_of_below hb5 []))
        | (go_at_call 19; refine (HBY _).out.mono ?_; rintro e w6 ⟨v6, zs6, rfl, hp6, hown6, hb6⟩; rw [hp6.unique H3.out.packs] at hown6; have hcv6 := conv_row hown6; have hcv7 := conv_row (ownsRow_below hown5 hb6); have kk6 : Keeps [] w3 w6 := kk5.trans (keeps_of_below hb6 [])))
      all_goals
        have hK6 : Below w2.heap.size w2 w6 := HK3.out.trans (kk6.below HK3.out.size (by simp))
        have HK6 := Lib.hid hK6
        have HAL := Lib.hid (wAlign w2.heap.size v3 t' zs3 w6 (by have := HTL.out; omega) (H3.out.keeps kk6 (by simp) (by simp)))
        clear hown5 hb5 hown6 hb6 hp6 hcv5 hcv6 hcv7 kk5 kk6 hK6 HBY
        go_wp2_with fail
        refine HAL.out.mono ?_
        rintro e w7 ⟨rfl, v7, zs7, hi7, hk7, ho7⟩
        have HK7 : Hid (Below w2.heap.size w2 w7) := HK6.out.trans (hk7.below HK6.out.size (fun x hx => by
          rcases List.mem_cons.1 hx with hx | hx
          · omega
          · have := ownBlock_ge H3.out.own x hx; omega))
        have hpk := hi7.packs
        have hpl : (pad t').length ≤ 100 := by rw [pad_length]; have := HTL.out; omega
        have hzl : zs7.length ≤ 1000 := by have := hpk.length; omega
        have HBW := Lib.hid (wBytes w2.heap.size v7 (pad t') zs7 w7 (by omega) hi7)
        have HPK := Lib.hid hpk
        clear hi7 hk7 ho7 hpk hpl HAL
        go_wp2_with fail
        refine HBW.out.mono ?_
        rintro e w8 ⟨g8, rfl, hown8, hb8⟩
        have HK8 := Lib.hid (HK7.out.trans (hb8.mono HK7.out.size))
        have HW8 : Hid (Below w.heap.size w w8) := HB2.out.trans (HK8.out.mono HB2.out.size)
        obtain ⟨g9, cap9, w9, hr9, hown9, hb9⟩ := run_more (ty := 36) (mcap := mcap) hown8 hb8.size (by omega) (by rw [← HNM.out]; omega) (HD.out.below HW8.out) HNL.out
        have HK9 : Hid (Below w2.heap.size w2 w9) := HK7.out.trans ((hb8.trans hb9).mono HK7.out.size)
        rw [show zs7.length + ms.length = (zs7 ++ ms).length by simp, ← HNM.out] at hr9
        rw [show zs7.length + ms.length = (zs7 ++ ms).length by simp] at hown9
        have hal : (zs7 ++ ms).length ≤ 20000 := by rw [List.length_append, ← HNM.out]; omega
        have HO9 := Lib.hid (bytes_own hown9)
        have hg9 := (own_lt hown9).2.1
        have HZ9 : Hid (∀ z ∈ zs7 ++ ms, z < 256) := Lib.hid fun z hz => by
          rw [List.mem_append] at hz
          rcases hz with h | h
          · exact HPK.out.1 z h
          · exact HZ.out z h
        have HOP := Lib.hid (aOpen (some ⟨g9, 0, none⟩) (some ⟨g9, 0, none⟩) cap9 (zs7 ++ ms) w9 (fun _ => rfl) HO9.out HZ9.out (by omega))
        rw [more_bits (ms := ms) HPK.out] at HOP
        clear hown8 hb8 hown9 hb9 HBW HO9 HZ9
        generalize (zs7 ++ ms).length = al at *
        go_wp2_with (at_builtin; refine wpList_append_run rfl _ _ 36 rfl _ _ _ _ rfl rfl hr9 ?_)
        refine HOP.out.mono ?_
        rintro e w10 ⟨rfl, hrd10, hb10⟩
        have HK10 := Lib.hid (HK9.out.trans (hb10.mono HK9.out.size))
        have HTK := Lib.hid (cTreeTake w9.heap.size (some ⟨g9, 0, none⟩) (n : Int) ⟨t' ++ moreIs t' ms, 0⟩ w10 hrd10 (by intro g off hh; cases hh; have := hb10.size; omega))
        have hR10 := hrd10.lt
        have hRg : w2.heap.size ≤ w9.heap.size := HK9.out.size
        clear hrd10 hb10 HOP hr9 hg9
        go_wp2_with fail
        refine HTK.out.mono ?_
        have hbeh := rd_behind_bits 4 n _ ((moreIs t' ms).map chr) _ _ (leavesOf_some.1 (HT.out ▸ HLV.out))
        rw [← List.map_append] at hbeh
        rintro e w11 (⟨h, _⟩ | ⟨_, h, _⟩ | ⟨_, _, u, rest, a, ao, cp, hub, hrd, rfl, hown, hr11⟩)
        · rw [sizeB_nat hn1 hn2] at h; cases h
        · rcases h with h | h
          · exact absurd rfl h
          · rw [Int.toNat_natCast] at h
            exact absurd (hbeh.symm.trans h) (by simp)
        · rw [Int.toNat_natCast] at hrd
          obtain ⟨rfl, rfl, rfl⟩ := tree_behind (HT.out ▸ HLV.out) hub hrd
          rw [← str_bs, ← HST.out, ← HNLV.out]
          have hne : ∀ g off, ao = some ⟨g, off, none⟩ → g ∉ [w9.heap.size] := fun g off hg => by
            have := (own_block_lt hown g (by rw [hg]; rfl)).1
            simp; omega
          have HAG := Lib.hid (aAlign w9.heap.size (some ⟨g9, 0, none⟩) ⟨moreIs u ms, 0⟩ w11 hr11.1)
          rw [more_align] at HAG
          have HK11 : Hid (Below w2.heap.size w2 w11) := HK10.out.trans (hr11.2.below HK10.out.size (by intro x hx; simp at hx; omega))
          have HI11 := Lib.hid (ints_own hown)
          have HNE := Lib.hid hne
          have HLI11 := Lib.hid (HLI2.out.below HK11.out)
          have hss : (S.toList == S.toList) = true := by simp
          have hwm : IntKind.i64.wrap (8 * (nm : Int)) = 8 * (nm : Int) := IntWalk.i64_in _ (by omega)
          clear hub hrd hown hr11 hbeh hne HTK
          go_wp2_with fail
          refine HAG.out.mono ?_
          rintro e w12 ⟨rfl, hr12⟩
          have HK12 : Hid (Below w2.heap.size w2 w12) := HK11.out.trans (hr12.2.below HK11.out.size (by intro x hx; simp at hx; omega))
          have HFL := Lib.hid (aFail w9.heap.size (some ⟨g9, 0, none⟩) _ w12 hr12.1)
          have HLE := fun k => Lib.hid (aLeft w9.heap.size (some ⟨g9, 0, none⟩) _ (w12.drewN k) (hr12.1.drewN k))
          rw [bitsOf_length, Int.natCast_mul, ← HNM.out] at HLE
          have HSA := Lib.hid (same_yes ao lao cp lcap a w12 (by rw [← HNLV.out]; omega) (HI11.out.keeps hr12.2 HNE.out) (HLI2.out.below HK12.out))
          rw [← HNLV.out] at HSA
          clear hr12
          go_wp2_with fail
          refine HFL.out.mono ?_
          rintro e wz ⟨rfl, rfl⟩
          go_wp2_with fail
          refine HSA.out.mono ?_
          rintro e wz ⟨rfl, k, rfl⟩
          go_wp2_with fail
          refine (HLE k).out.mono ?_
          rintro e wz ⟨rfl, j, rfl⟩
          have HKF : Hid (Below w.heap.size w (w12.drewN (k + j))) := below_drewN (HB2.out.trans (HK12.out.mono HB2.out.size)) (k + j)
          go_wp2
          go_ret
          exact ⟨rfl, HKF.out⟩

theorem treePuts (s : List UInt8) (size : Int) (mo : Option Addr) (mcap : Nat) (ms : List Nat) (w : World) (hz : -9223372036854775808 ≤ size ∧ size ≤ 9223372036854775807) (hs : s.length ≤ 9223372036854775807) (hm : ms.length ≤ 9223372036854775807)
    (hb : ∀ z ∈ ms, z < 256) (hd : BytesAt w mo ms) (hnil : mo = none → ms = []) :
    Calls Try.prog 5 #[.string (bs s), .int .i64 size, .slice mo ms.length mcap] w fun e w' => e = .returned (.bool true) ∧ Below w.heap.size w w' := by
  by_cases h : s.length ≤ 200 ∧ ms.length ≤ 20
  · by_cases hc : codeL size s = 0
    · exact treePuts_yes s size mo mcap ms w hz h.1 h.2 hc hb hd hnil
    · exact treePuts_no s size mo mcap ms w hz h.1 h.2 hc
  · exact treePuts_much s size mo mcap ms w hs hm h
end Go.Proofs.Ytmgckfkdbepkdaa
