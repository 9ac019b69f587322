import Derived.Test.YtbbcemgcanclnaaWefC4
namespace Go.Proofs.Ytbbcemgcanclnaa
open Go.RowKit Go.Proofs Go.Proofs.PipeM Go.Proofs.PipeA Go.Proofs.WefM
set_option maxRecDepth 100000

theorem fore_gain (g : Nat) (m : List Int) (i : Nat) : fore (gainW g) m i = m.getD i 0 * (g : Int) / 16 := by
  unfold fore gainW
  simp [Int.mul_comm]
theorem sumW_take {l : List Int} {j : Nat} (h : j < l.length) : sumW (l.take (j + 1)) = sumW (l.take j) + (l[j]).natAbs := by
  unfold sumW
  rw [List.take_succ_eq_append_getElem h, List.map_append, List.sum_append]; simp
theorem sumW_bound {l : List Int} (h : ∀ y ∈ l, -33554432 ≤ y ∧ y ≤ 33554432) : sumW l ≤ 33554432 * l.length := by
  induction l with
  | nil => simp [sumW]
  | cons x r ih =>
    have h1 := ih (fun y hy => h y (List.mem_cons_of_mem _ hy))
    have h2 := h x (List.mem_cons_self ..)
    simp only [sumW, List.map_cons, List.sum_cons, List.length_cons] at h1 ⊢
    omega

set_option maxHeartbeats 1600000 in
theorem cLeftW (ao bo : Option Addr) (cap cap2 : Nat) (own m : List Int) (g : Nat) (gi : Int) (w : World) (hgi : gi = (g : Int)) (hg : g ≤ 15) (hl : own.length ≤ 1000) (hlen : own.length = m.length) (ho : own.all inS = true) (hm : m.all inS = true) (hi : IntsAt w ao own) (hj : IntsAt w bo m) :
    Calls Try.prog 38 #[.slice ao own.length cap, .slice bo m.length cap2, .int .i64 gi] w fun e w' => e = .returned (.int .i64 (sumG own m g : Nat)) ∧ w = w' := by
  have HI := Lib.hid hi
  have HJ := Lib.hid hj
  have HO := Lib.hid (get_S ho)
  have HM := Lib.hid (get_S hm)
  have hrl := restL_length (gainW g) own m
  have HR : Hid (∀ j (hj : j < own.length), (restL (gainW g) own m)[j]'(by rw [hrl]; exact hj) = own.getD j 0 - m.getD j 0 * gi / 16) := fun j hj => by rw [restL_at hj, fore_gain, ← hgi]
  have HP : Hid (∀ j, -134217728 ≤ m.getD j 0 * gi ∧ m.getD j 0 * gi ≤ 134217728) := fun j => by
    have := prodW (g := gi) (by omega) (get_S hm j)
    rw [Int.mul_comm]; exact this
  have HB : Hid (∀ c, sumW ((restL (gainW g) own m).take c) ≤ 33554432000) := fun c => by
    have h1 : ∀ y ∈ (restL (gainW g) own m).take c, -33554432 ≤ y ∧ y ≤ 33554432 := fun y hy => by
      obtain ⟨i, hi2, rfl⟩ := List.mem_iff_getElem.1 (List.mem_of_mem_take hy)
      rw [hrl] at hi2
      rw [HR.out i hi2]
      have a := HO.out i
      have b := HP.out i
      omega
    have h2 := sumW_bound h1
    have h3 : ((restL (gainW g) own m).take c).length ≤ own.length := by rw [List.length_take, hrl]; omega
    omega
  have HS : Hid (∀ j (hj : j < own.length), sumW ((restL (gainW g) own m).take (j + 1)) = sumW ((restL (gainW g) own m).take j) + (own.getD j 0 - m.getD j 0 * gi / 16).natAbs) := fun j hj => by
    rw [sumW_take (by rw [hrl]; exact hj), HR.out j hj]
  have HF : Hid (sumW ((restL (gainW g) own m).take own.length) = sumG own m g) := by
    show _ = _
    rw [List.take_of_length_le (by omega)]; rfl
  have HLEN := Lib.hid hlen
  generalize restL (gainW g) own m = rr at *
  clear hi hj hgi hg ho hm hrl HR hlen
  go_enter Try.func38, Try.ntmps38
  go_wp2
  go_loopg [7, 8, 9, 12] own.length (fun gk s q1 q2 i wr => ∃ c : Nat, c ≤ own.length ∧ gk + c = own.length ∧ i = .int .i64 c ∧ s = .int .i64 (sumW (rr.take c) : Nat) ∧ w = wr)
  case atStart => exact ⟨0, Nat.zero_le _, by omega, rfl, by simp [sumW], rfl⟩
  case round =>
    obtain ⟨c, hc, hgk, rfl, rfl, rfl⟩ := hrel
    have HGK := Lib.hid hgk
    clear hgk
    by_cases hlt : c < own.length
    · obtain ⟨b, off, rfl, hbk, hcell⟩ := HI.out c hlt
      have hlt2 : c < m.length := by rw [← HLEN.out]; exact hlt
      obtain ⟨b2, off2, rfl, hbk2, hcell2⟩ := HJ.out c hlt2
      have h1 := HO.out c
      have h3 := HP.out c
      have h4 := HS.out c hlt
      have h5 := HB.out c
      rw [getD_ltW hlt] at h1 h4
      rw [getD_ltW hlt2] at h3 h4
      generalize own[c] = a at *
      generalize m[c] = b3 at *
      obtain ⟨pr, hpr⟩ : ∃ pr, pr = b3 * gi := ⟨_, rfl⟩
      rw [← hpr] at h3 h4
      have v1 : IntKind.i64.wrap (b3 * gi) = pr := by rw [← hpr]; exact IntWalk.i64_in _ (by omega)
      obtain ⟨f, hf⟩ : ∃ f, pr / 16 = f := ⟨_, rfl⟩
      rw [hf] at h4
      obtain ⟨v, hv⟩ : ∃ v, v = a - f := ⟨_, rfl⟩
      have v2 : IntKind.i64.wrap (a - f) = v := by rw [← hv]; exact IntWalk.i64_in _ (by omega)
      rw [← hv] at h4
      have hvb : -33554432 ≤ v ∧ v ≤ 33554432 := by omega
      have v3 : IntKind.i64.wrap (-v) = -v := IntWalk.i64_in _ (by omega)
      obtain ⟨S0, hS0⟩ : ∃ S0, S0 = sumW (rr.take c) := ⟨_, rfl⟩
      rw [← hS0] at h4 h5 ⊢
      have H4 := Lib.hid h4
      have H5 := Lib.hid h5
      have HVB := Lib.hid hvb
      clear hbk hbk2 h1 h3 h4 h5 hpr hv hvb hS0
      go_wp2
      · rename_i h
        have hy : (S0 : Int) + -v = ((S0 + v.natAbs : Nat) : Int) := by omega
        have hw : wrap64 ((S0 : Int) + -v) = ((S0 + v.natAbs : Nat) : Int) := by rw [hy]; have := HVB.out; have := H5.out; exact IntWalk.wrap64_in _ (by omega)
        go_roundg (gk - 1)
        case rel => exact ⟨c + 1, by omega, by have := HGK.out; omega, by go_num, by rw [hw, H4.out], rfl⟩
        case measure => have := HGK.out; omega
      · rename_i h
        have hy : (S0 : Int) + v = ((S0 + v.natAbs : Nat) : Int) := by omega
        have hw : wrap64 ((S0 : Int) + v) = ((S0 + v.natAbs : Nat) : Int) := by rw [hy]; have := HVB.out; have := H5.out; exact IntWalk.wrap64_in _ (by omega)
        go_roundg (gk - 1)
        case rel => exact ⟨c + 1, by omega, by have := HGK.out; omega, by go_num, by rw [hw, H4.out], rfl⟩
        case measure => have := HGK.out; omega
    · obtain rfl : c = own.length := by omega
      have HF1 : Hid (((sumW (rr.take own.length) : Nat) : Int) = ((sumG own m g : Nat) : Int)) := by show _ = _; rw [HF.out]
      go_wp2
      go_ret
      exact ⟨by rw [← HF1.out]; rfl, rfl⟩
end Go.Proofs.Ytbbcemgcanclnaa
