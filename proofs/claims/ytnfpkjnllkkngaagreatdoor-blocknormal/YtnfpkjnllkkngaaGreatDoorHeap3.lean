import Derived.Test.YtnfpkjnllkkngaaGreatDoorHeap

section
namespace Go.Proofs.YtnfpkjnllkkngaaGreatDoor
open Go.RowKit Go.Proofs Go.Proofs.PipeM Go.Proofs.PipeA Go.Proofs.HeapM

section
variable {α : Type} [Inhabited α] {t : TypeId} {v : Value} {te : TypeId} {enc : α → Value} {lt : α → α → Bool} {N : Nat} {At : List α → World → Prop} {R : World → World → Prop} (H : HeapOps t v te enc lt N At R)

include H in
set_option maxHeartbeats 3200000 in
theorem heapDown (l : List α) (n : Nat) (w : World) (hN : N ≤ 1000000000) (hn : n < l.length) (ha : At l w) (hd : DownInv lt l 0 n) :
    Calls Tryz.prog 121 #[.iface t v, .int .i64 0, .int .i64 n] w fun e w' => (∃ b, e = .returned (.bool b)) ∧ ∃ l', l'.Perm l ∧ l'[n]! = l[n]! ∧ HeapN lt l' n ∧ At l' w' ∧ R w w' := by
  have hlen := H.room l w ha
  have HA := Lib.hid ha
  have HD := Lib.hid hd
  have hmLess := H.mLess
  have hmSwap := H.mSwap
  have heLess := H.eLess
  have heSwap := H.eSwap
  clear ha hd
  go_enter Tryz.func121, Tryz.ntmps121
  go_wp2
  go_loopg [7] (n + 1) (fun gk iv wr => ∃ (i : Nat) (l' : List α), iv = .int .i64 i ∧ n - i ≤ gk ∧ (i < n ∨ i = 0) ∧ l'.length = l.length ∧ Hid (l'.Perm l ∧ l'[n]! = l[n]! ∧ DownInv lt l' i n ∧ At l' wr ∧ R w wr))
  case atStart => exact ⟨0, l, rfl, by omega, Or.inr rfl, rfl, List.Perm.refl _, rfl, HD.out, HA.out, H.refl _⟩
  case round =>
    obtain ⟨i, l', rfl, hg, hin, hl', HI⟩ := hrel
    have HL' := Lib.hid hl'
    have hil : i < l'.length := by omega
    have hnl : n < l'.length := by omega
    have hnb : n < 1000000000 := by omega
    have hib : i < 1000000000 := by omega
    clear hl'
    by_cases h1 : n ≤ 2 * i + 1
    · have t1 : decide ((n : Int) ≤ 2 * (i : Int) + 1) = true := decide_eq_true (by omega)
      go_wp2
      go_ret
      exact ⟨⟨_, rfl⟩, l', HI.out.1, HI.out.2.1, down_none HI.out.2.2.1 h1, HI.out.2.2.2.1, HI.out.2.2.2.2⟩
    · have t1 : decide ((n : Int) ≤ 2 * (i : Int) + 1) = false := decide_eq_false (by omega)
      have t0 : decide (2 * (i : Int) + 1 < 0) = false := decide_eq_false (by omega)
      by_cases h2 : n ≤ 2 * i + 2
      · have t2 : decide (2 * (i : Int) + 1 + 1 < (n : Int)) = false := decide_eq_false (by omega)
        have HCH := Lib.hid (child_one H.order (l := l') (i := i) (n := n) (by omega) h2)
        have HAW := Lib.hid HI.out.2.2.2.1
        have HRW := Lib.hid HI.out.2.2.2.2
        have HCI := Lib.hid (show ((2 * i + 1 : Nat) : Int) = 2 * (i : Int) + 1 by omega)
        have hcl : 2 * i + 1 < l'.length := by omega
        cases hl2 : lt l'[2 * i + 1]! l'[i]!
        · have HL2 := Lib.hid hl2
          have HC2 := Lib.hid (H.less l' wr (2 * i + 1) i hcl hil HAW.out)
          rw [HCI.out, hl2] at HC2
          clear hl2
          go_wp2_with fail
          refine HC2.out.mono ?_
          rintro e w3 ⟨rfl, ha3, hr3⟩
          have HA3 := Lib.hid ha3
          have HR3 := Lib.hid hr3
          clear ha3 hr3
          go_wp2
          go_ret
          exact ⟨⟨_, rfl⟩, l', HI.out.1, HI.out.2.1, down_done H.order HI.out.2.2.1 HCH.out HL2.out, HA3.out, H.trans _ _ _ HRW.out HR3.out⟩
        · have HL2 := Lib.hid hl2
          have HC2 := Lib.hid (H.less l' wr (2 * i + 1) i hcl hil HAW.out)
          rw [HCI.out, hl2] at HC2
          clear hl2
          go_wp2_with fail
          refine HC2.out.mono ?_
          rintro e w3 ⟨rfl, ha3, hr3⟩
          have HA3 := Lib.hid ha3
          have HR3 := Lib.hid hr3
          clear ha3 hr3
          have HC3 := Lib.hid (H.swap l' w3 i (2 * i + 1) hil hcl HA3.out)
          rw [HCI.out] at HC3
          go_wp2_with fail
          refine HC3.out.mono ?_
          rintro e w4 ⟨rfl, ha4, hr4⟩
          have HA4 := Lib.hid ha4
          have HR4 := Lib.hid hr4
          clear ha4 hr4
          go_wp2
          go_roundg (n - (2 * i + 1))
          case rel =>
            refine ⟨2 * i + 1, swp l' i (2 * i + 1), by rw [HCI.out], by omega, by omega, by rw [swp_length]; exact HL'.out, ?_⟩
            refine ⟨(swp_perm _ _ _ hil hcl).trans HI.out.1, ?_, down_step H.order HI.out.2.2.1 HCH.out (by omega) HL2.out, HA4.out, H.trans _ _ _ HRW.out (H.trans _ _ _ HR3.out HR4.out)⟩
            rw [swp_get _ _ _ _ hil hcl, if_neg (by omega), if_neg (by omega)]
            exact HI.out.2.1
          case measure => omega
      · have t2 : decide (2 * (i : Int) + 1 + 1 < (n : Int)) = true := decide_eq_true (by omega)
        have HCI1 := Lib.hid (show ((2 * i + 1 : Nat) : Int) = 2 * (i : Int) + 1 by omega)
        have HCI2 := Lib.hid (show ((2 * i + 2 : Nat) : Int) = 2 * (i : Int) + 1 + 1 by omega)
        cases hl1 : lt l'[2 * i + 2]! l'[2 * i + 1]!
        · have HCH := Lib.hid (child_left H.order (l := l') (i := i) (n := n) (by omega) hl1)
          have HC1 := Lib.hid (H.less l' wr (2 * i + 2) (2 * i + 1) (by omega) (by omega) HI.out.2.2.2.1)
          rw [HCI1.out, HCI2.out, hl1] at HC1
          clear hl1
          go_wp2_with fail
          refine HC1.out.mono ?_
          rintro e w2 ⟨rfl, ha2, hr2⟩
          have HAW := Lib.hid ha2
          have HRW := Lib.hid (H.trans _ _ _ HI.out.2.2.2.2 hr2)
          clear ha2 hr2
          have HCI := Lib.hid (show ((2 * i + 1 : Nat) : Int) = 2 * (i : Int) + 1 by omega)
          have hcl : 2 * i + 1 < l'.length := by omega
          cases hl2 : lt l'[2 * i + 1]! l'[i]!
          · have HL2 := Lib.hid hl2
            have HC2 := Lib.hid (H.less l' w2 (2 * i + 1) i hcl hil HAW.out)
            rw [HCI.out, hl2] at HC2
            clear hl2
            go_wp2_with fail
            refine HC2.out.mono ?_
            rintro e w3 ⟨rfl, ha3, hr3⟩
            have HA3 := Lib.hid ha3
            have HR3 := Lib.hid hr3
            clear ha3 hr3
            go_wp2
            go_ret
            exact ⟨⟨_, rfl⟩, l', HI.out.1, HI.out.2.1, down_done H.order HI.out.2.2.1 HCH.out HL2.out, HA3.out, H.trans _ _ _ HRW.out HR3.out⟩
          · have HL2 := Lib.hid hl2
            have HC2 := Lib.hid (H.less l' w2 (2 * i + 1) i hcl hil HAW.out)
            rw [HCI.out, hl2] at HC2
            clear hl2
            go_wp2_with fail
            refine HC2.out.mono ?_
            rintro e w3 ⟨rfl, ha3, hr3⟩
            have HA3 := Lib.hid ha3
            have HR3 := Lib.hid hr3
            clear ha3 hr3
            have HC3 := Lib.hid (H.swap l' w3 i (2 * i + 1) hil hcl HA3.out)
            rw [HCI.out] at HC3
            go_wp2_with fail
            refine HC3.out.mono ?_
            rintro e w4 ⟨rfl, ha4, hr4⟩
            have HA4 := Lib.hid ha4
            have HR4 := Lib.hid hr4
            clear ha4 hr4
            go_wp2
            go_roundg (n - (2 * i + 1))
            case rel =>
              refine ⟨2 * i + 1, swp l' i (2 * i + 1), by rw [HCI.out], by omega, by omega, by rw [swp_length]; exact HL'.out, ?_⟩
              refine ⟨(swp_perm _ _ _ hil hcl).trans HI.out.1, ?_, down_step H.order HI.out.2.2.1 HCH.out (by omega) HL2.out, HA4.out, H.trans _ _ _ HRW.out (H.trans _ _ _ HR3.out HR4.out)⟩
              rw [swp_get _ _ _ _ hil hcl, if_neg (by omega), if_neg (by omega)]
              exact HI.out.2.1
            case measure => omega
        · have HCH := Lib.hid (child_right H.order (l := l') (i := i) (n := n) (by omega) hl1)
          have HC1 := Lib.hid (H.less l' wr (2 * i + 2) (2 * i + 1) (by omega) (by omega) HI.out.2.2.2.1)
          rw [HCI1.out, HCI2.out, hl1] at HC1
          clear hl1
          go_wp2_with fail
          refine HC1.out.mono ?_
          rintro e w2 ⟨rfl, ha2, hr2⟩
          have HAW := Lib.hid ha2
          have HRW := Lib.hid (H.trans _ _ _ HI.out.2.2.2.2 hr2)
          clear ha2 hr2
          have HCI := Lib.hid (show ((2 * i + 2 : Nat) : Int) = 2 * (i : Int) + 1 + 1 by omega)
          have hcl : 2 * i + 2 < l'.length := by omega
          cases hl2 : lt l'[2 * i + 2]! l'[i]!
          · have HL2 := Lib.hid hl2
            have HC2 := Lib.hid (H.less l' w2 (2 * i + 2) i hcl hil HAW.out)
            rw [HCI.out, hl2] at HC2
            clear hl2
            go_wp2_with fail
            refine HC2.out.mono ?_
            rintro e w3 ⟨rfl, ha3, hr3⟩
            have HA3 := Lib.hid ha3
            have HR3 := Lib.hid hr3
            clear ha3 hr3
            go_wp2
            go_ret
            exact ⟨⟨_, rfl⟩, l', HI.out.1, HI.out.2.1, down_done H.order HI.out.2.2.1 HCH.out HL2.out, HA3.out, H.trans _ _ _ HRW.out HR3.out⟩
          · have HL2 := Lib.hid hl2
            have HC2 := Lib.hid (H.less l' w2 (2 * i + 2) i hcl hil HAW.out)
            rw [HCI.out, hl2] at HC2
            clear hl2
            go_wp2_with fail
            refine HC2.out.mono ?_
            rintro e w3 ⟨rfl, ha3, hr3⟩
            have HA3 := Lib.hid ha3
            have HR3 := Lib.hid hr3
            clear ha3 hr3
            have HC3 := Lib.hid (H.swap l' w3 i (2 * i + 2) hil hcl HA3.out)
            rw [HCI.out] at HC3
            go_wp2_with fail
            refine HC3.out.mono ?_
            rintro e w4 ⟨rfl, ha4, hr4⟩
            have HA4 := Lib.hid ha4
            have HR4 := Lib.hid hr4
            clear ha4 hr4
            go_wp2
            go_roundg (n - (2 * i + 2))
            case rel =>
              refine ⟨2 * i + 2, swp l' i (2 * i + 2), by rw [HCI.out], by omega, by omega, by rw [swp_length]; exact HL'.out, ?_⟩
              refine ⟨(swp_perm _ _ _ hil hcl).trans HI.out.1, ?_, down_step H.order HI.out.2.2.1 HCH.out (by omega) HL2.out, HA4.out, H.trans _ _ _ HRW.out (H.trans _ _ _ HR3.out HR4.out)⟩
              rw [swp_get _ _ _ _ hil hcl, if_neg (by omega), if_neg (by omega)]
              exact HI.out.2.1
            case measure => omega
end
end Go.Proofs.YtnfpkjnllkkngaaGreatDoor
end

section
namespace Go.Proofs.YtnfpkjnllkkngaaGreatDoor
open Go.RowKit Go.Proofs Go.Proofs.PipeM Go.Proofs.PipeA Go.Proofs.HeapM

section
variable {α : Type} [Inhabited α] {t : TypeId} {v : Value} {te : TypeId} {enc : α → Value} {lt : α → α → Bool} {N : Nat} {At : List α → World → Prop} {R : World → World → Prop} (H : HeapOps t v te enc lt N At R)

theorem snoc_last (l : List α) (n : Nat) (h : l.length = n + 1) : l = l.take n ++ [l[n]!] := by
  have hn : n < l.length := by omega
  rw [get_eq l n hn, ← List.take_succ_eq_append_getElem hn, List.take_of_length_le (by omega)]

include H in
set_option maxHeartbeats 1600000 in
theorem heapPop (l : List α) (w : World) (hN : N ≤ 1000000000) (hl : 0 < l.length) (ha : At l w) (hh : IsHeap lt l) :
    Calls Tryz.prog 114 #[.iface t v] w fun e w' => e = .returned (.iface te (enc l[0]!)) ∧ ∃ l', (l[0]! :: l').Perm l ∧ IsHeap lt l' ∧ At l' w' ∧ R w w' := by
  have hlen := H.room l w ha
  obtain ⟨n, hn⟩ : ∃ n, l.length = n + 1 := ⟨l.length - 1, by omega⟩
  have HN := Lib.hid hn
  have hnb : n < 1000000000 := by omega
  have HH := Lib.hid hh
  have HC := Lib.hid (H.len l w ha)
  rw [hn] at HC
  have hmLen := H.mLen
  have hmSwap := H.mSwap
  have hmPop := H.mPop
  have heLen := H.eLen
  have heSwap := H.eSwap
  have hePop := H.ePop
  obtain ⟨x, hx⟩ : ∃ x, x = l[0]! := ⟨_, rfl⟩
  rw [← hx]
  have HX := Lib.hid hx
  clear ha hh hn hl hlen hx
  go_enter Tryz.func114, Tryz.ntmps114
  go_wp2_with fail
  refine HC.out.mono ?_
  rintro e w2 ⟨rfl, ha2, hr2⟩
  have HR2 := Lib.hid hr2
  have HS := Lib.hid (H.swap l w2 0 n (by have := HN.out; omega) (by have := HN.out; omega) ha2)
  clear ha2 hr2
  rw [show (((n + 1 : Nat)) : Int) = (n : Int) + 1 by omega]
  go_wp2_with fail
  refine HS.out.mono ?_
  rintro e w3 ⟨rfl, ha3, hr3⟩
  have HR3 := Lib.hid (H.trans _ _ _ HR2.out hr3)
  have HD := Lib.hid (heapDown H (swp l 0 n) n w3 hN (by rw [swp_length]; have := HN.out; omega) ha3 (down_start HN.out HH.out))
  clear ha3 hr3
  go_wp2_with fail
  refine HD.out.mono ?_
  rintro e w4 ⟨⟨b, rfl⟩, l2, hp2, hl2, hh2, ha4, hr4⟩
  have HR4 := Lib.hid (H.trans _ _ _ HR3.out hr4)
  have hlen2 : l2.length = n + 1 := by rw [hp2.length_eq, swp_length]; exact HN.out
  have e0 : l2[n]! = l[0]! := by rw [hl2, swp_get _ _ _ _ (by have := HN.out; omega) (by have := HN.out; omega), if_pos rfl]
  have esn := snoc_last l2 n hlen2
  rw [e0] at esn
  have HPP : Hid ((l[0]! :: l2.take n).Perm l) := by
    refine (List.perm_append_singleton l[0]! (l2.take n)).symm.trans ?_
    rw [← esn]
    exact hp2.trans (swp_perm _ _ _ (by have := HN.out; omega) (by have := HN.out; omega))
  have HHP := Lib.hid (heapN_take (by omega) hh2)
  have HP := Lib.hid (H.pop (l2.take n) w4 l[0]! (by rw [← esn]; exact ha4))
  clear hp2 hl2 hh2 ha4 hr4 hlen2 e0 esn
  rw [← HX.out] at HP HPP
  go_wp2_with fail
  refine HP.out.mono ?_
  rintro e w5 ⟨rfl, ha5, hr5⟩
  have HR5 := Lib.hid (H.trans _ _ _ HR4.out hr5)
  have HA5 := Lib.hid ha5
  clear ha5 hr5
  go_wp2
  go_ret
  exact ⟨rfl, _, HPP.out, HHP.out, HA5.out, HR5.out⟩
end
end Go.Proofs.YtnfpkjnllkkngaaGreatDoor
end
