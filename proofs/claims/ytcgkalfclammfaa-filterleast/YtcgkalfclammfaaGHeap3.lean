import Derived.Test.YtcgkalfclammfaaGHeap2
namespace Go.Proofs.Ytcgkalfclammfaa
open Go.RowKit Go.Proofs Go.Proofs.PipeA Go.Proofs.HeapM

section
variable {α : Type} [Inhabited α] {t : TypeId} {v : Value} {te : TypeId} {enc : α → Value} {lt : α → α → Bool} {N : Nat} {At : List α → World → Prop} {R : World → World → Prop} (H : HeapOps t v te enc lt N At R)

theorem snoc_last (l : List α) (n : Nat) (h : l.length = n + 1) : l = l.take n ++ [l[n]!] := by
  have hn : n < l.length := by omega
  rw [get_eq l n hn, ← List.take_succ_eq_append_getElem hn, List.take_of_length_le (by omega)]

include H in
set_option maxHeartbeats 1600000 in
theorem heapPop (l : List α) (w : World) (hN : N ≤ 1000000000) (hl : 0 < l.length) (ha : At l w) (hh : IsHeap lt l) :
    Calls Try.prog 41 #[.iface t v] w fun e w' => e = .returned (.iface te (enc l[0]!)) ∧ ∃ l', (l[0]! :: l').Perm l ∧ IsHeap lt l' ∧ At l' w' ∧ R w w' := by
  have hlen := H.room l w ha
  obtain ⟨n, hn⟩ : ∃ n, l.length = n + 1 := ⟨l.length - 1, by omega⟩
  have HN := Lib.hid hn
  have hnb : n < 1000000000 := by omega
  have HH := Lib.hid hh
  have HC := Lib.hid (H.len l w ha)
  rw [hn] at HC
  have hmLen := H.mLen
  have hmSwap := H.mSwap
  have hmPop := H.mPop
  have heLen := H.eLen
  have heSwap := H.eSwap
  have hePop := H.ePop
  obtain ⟨x, hx⟩ : ∃ x, x = l[0]! := ⟨_, rfl⟩
  rw [← hx]
  have HX := Lib.hid hx
  clear ha hh hn hl hlen hx
  go_enter Try.func41, Try.ntmps41
  go_wp2_with fail
  refine HC.out.mono ?_
  rintro e w2 ⟨rfl, ha2, hr2⟩
  have HR2 := Lib.hid hr2
  have HS := Lib.hid (H.swap l w2 0 n (by have := HN.out; omega) (by have := HN.out; omega) ha2)
  clear ha2 hr2
  rw [show (((n + 1 : Nat)) : Int) = (n : Int) + 1 by omega]
  go_wp2_with fail
  refine HS.out.mono ?_
  rintro e w3 ⟨rfl, ha3, hr3⟩
  have HR3 := Lib.hid (H.trans _ _ _ HR2.out hr3)
  have HD := Lib.hid (heapDown H (swp l 0 n) n w3 hN (by rw [swp_length]; have := HN.out; omega) ha3 (down_start HN.out HH.out))
  clear ha3 hr3
  go_wp2_with fail
  refine HD.out.mono ?_
  rintro e w4 ⟨⟨b, rfl⟩, l2, hp2, hl2, hh2, ha4, hr4⟩
  have HR4 := Lib.hid (H.trans _ _ _ HR3.out hr4)
  have hlen2 : l2.length = n + 1 := by rw [hp2.length_eq, swp_length]; exact HN.out
  have e0 : l2[n]! = l[0]! := by rw [hl2, swp_get _ _ _ _ (by have := HN.out; omega) (by have := HN.out; omega), if_pos rfl]
  have esn := snoc_last l2 n hlen2
  rw [e0] at esn
  have HPP : Hid ((l[0]! :: l2.take n).Perm l) := by
    refine (List.perm_append_singleton l[0]! (l2.take n)).symm.trans ?_
    rw [← esn]
    exact hp2.trans (swp_perm _ _ _ (by have := HN.out; omega) (by have := HN.out; omega))
  have HHP := Lib.hid (heapN_take (by omega) hh2)
  have HP := Lib.hid (H.pop (l2.take n) w4 l[0]! (by rw [← esn]; exact ha4))
  clear hp2 hl2 hh2 ha4 hr4 hlen2 e0 esn
  rw [← HX.out] at HP HPP
  go_wp2_with fail
  refine HP.out.mono ?_
  rintro e w5 ⟨rfl, ha5, hr5⟩
  have HR5 := Lib.hid (H.trans _ _ _ HR4.out hr5)
  have HA5 := Lib.hid ha5
  clear ha5 hr5
  go_wp2
  go_ret
  exact ⟨rfl, _, HPP.out, HHP.out, HA5.out, HR5.out⟩
end
end Go.Proofs.Ytcgkalfclammfaa
