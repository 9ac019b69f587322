import Derived.RangeFuncNested
import Derived.RangeFuncBound
import Derived.RangeFuncCalls
import Derived.RangeFuncLeaves
import Derived.Shelf.Abstract
import Derived.WalkKit
import Derived.OwnWalkIn
import Derived.TacticsInMore
import Derived.LoopNIn
import Derived.LoopIn
import Derived.Test.YtcgkalfclammfaaLatC4
namespace Go.Proofs.Ytcgkalfclammfaa
open Go.RowKit Go.Shelf Go.Proofs Go.Proofs.PipeA Go.Proofs.LatM
set_option maxRecDepth 100000

attribute [local go_sem] Oper.semAt_some

theorem cf_succ {l : List Int} {c : Nat} (h : c < l.length) : cf l (c + 1) = stp (cf l c) ((reflV l)[c]'(by rw [reflV_length]; exact h)) := by
  rw [cf]
  have := reflV_get h
  rw [getD_at (by rw [reflV_length]; exact h)] at this
  rw [this, getD_at h]
theorem refl_in {l : List Int} (hg : goodL l = true) {c : Nat} (h : c < l.length) : -16384 ≤ (reflV l)[c]'(by rw [reflV_length]; exact h) ∧ (reflV l)[c]'(by rw [reflV_length]; exact h) ≤ 16384 := by
  have := reflV_get h
  rw [getD_at (by rw [reflV_length]; exact h)] at this
  rw [this]
  exact refl_bound c (good_at hg h)
theorem cf_b30 {l : List Int} (hg : goodL l = true) {c : Nat} (h : c ≤ 16) : ∀ x ∈ cf l c, -1073741824 ≤ x ∧ x ≤ 1073741824 := fun x hx => by
  have := cf_small hg h x hx
  omega

/-- Where a slice's memory lies. -/
def From (n : Nat) (ao : Option Addr) : Prop := ∀ a, ao = some a → n ≤ a.block
theorem From.not {n : Nat} {ao : Option Addr} {bs : List Nat} (h : From n ao) (hb : ∀ x ∈ bs, x < n) : ∀ g off, ao = some ⟨g, off, none⟩ → g ∉ bs := fun g off he hg => by
  have h1 := h _ he
  have h2 := hb g hg
  simp only at h1
  omega

set_option maxHeartbeats 3200000 in
theorem steps2_tells (n B H l0 : Nat) (l : List Int) (W : World) (bs : List Nat) (J : Nat → World → Prop) (hn : 3 ≤ n) (hgd : goodL l = true) (hS : StepsAt W B H l) (hB : B ∉ bs) (hH : H ∉ bs) (hbs : ∀ x ∈ bs, x < W.heap.size)
    (hJ : ∀ j A C, J j A → Below A.heap.size A C → J j C)
    (hY : ∀ (j : Nat) ao cap W1, j ≤ l.length → j ≤ cap → J j W1 → IntsAt W1 ao (cf l j) → From W.heap.size ao → YieldAt Fence.wide (n - 1) Try.prog l0 #[.int .i64 (j : Int), .slice ao j cap] W1 fun e W' => e = .returned (.bool true) ∧ J (j + 1) W' ∧ Keeps bs W1 W')
    (h0 : J 0 W) :
    CallsIn Fence.wide n Try.prog 44 #[.func (.yield l0) #[] #[], .pointer (some ⟨B, 0, none⟩)] W fun e W' => (∃ v, e = .returned v) ∧ J (l.length + 1) W' := by
  have hl16 := good_len hgd
  obtain ⟨fn, tmps, assign, body, hy, hR⟩ := hY 0 none 0 W (Nat.zero_le _) (Nat.le_refl _) h0 (fun j hj => by simp [cf] at hj) (fun a e => by cases e)
  have HR := Lib.hid hR
  have HJ := Lib.hid hJ
  have HY := Lib.hid hY
  have HS := Lib.hid hS
  have HGD := Lib.hid hgd
  have HBS := Lib.hid hbs
  have HBN := Lib.hid hB
  have HHN := Lib.hid hH
  have hBlt : B < W.heap.size := (Array.getElem?_eq_some_iff.1 hS.box).1
  have hHlt := hS.lt
  rw [show ((0 : Nat) : Int) = 0 from rfl] at hy
  clear hR hJ hY hS hgd hbs hB hH h0
  refine callsIn_of_wp Try.func44 rfl trivial ?_ rfl
  simp only [Try.ntmps44, List.size_toArray, List.length_cons, List.length_nil, Nat.reduceAdd, Nat.reduceSub, Array.replicate_succ, Array.replicate_zero, List.push_toArray, List.append_toArray, List.nil_append, List.cons_append]
  gi_wp2_with fail
  refine ⟨fun _ => by omega, HR.out.mono ?_⟩
  rintro e W1 ⟨rfl, hJ1, hk1⟩
  have HJ1 := Lib.hid hJ1
  have HK1 := Lib.hid hk1
  have e0 : W1.cell? ⟨B, 0, none⟩ = some (.slice (some ⟨H, 0, none⟩) l.length l.length) := by
    rw [hk1.cell (p := ⟨B, 0, none⟩) hBlt HBN.out, cell_of_heap HS.out.box]; rfl
  clear hJ1 hk1 hy HR
  gi_wp2
  gi_loopw [3, 4, 5, 11] (fun vc q4 q5 i wr => ∃ (c ccap : Nat) (co : Option Addr), c ≤ l.length ∧ i = .int .i64 c ∧ vc = .slice co c ccap ∧ Hid (IntsAt wr co (cf l c)) ∧ Hid (From W.heap.size co) ∧ Hid (J (c + 1) wr) ∧ Hid (Keeps bs W wr))
    (fun _ _ _ i _ => l.length - (intOf i).toNat)
  case atStart => exact ⟨0, 0, none, Nat.zero_le _, rfl, rfl, (fun j hj => by simp [cf] at hj), (fun a e => by cases e), HJ1, HK1⟩
  case round =>
    clear HJ1 HK1 e0
    obtain ⟨c, ccap, co, hc, rfl, rfl, HIC, HFR, HJ1, HK1⟩ := hrel
    by_cases hlt : c < l.length
    · have hltR : c < (reflV l).length := by rw [reflV_length]; exact hlt
      obtain ⟨g', off', hge, _, hcell⟩ := HS.out.ints c hltR
      simp only [Option.some.injEq, Addr.mk.injEq, and_true] at hge
      obtain ⟨rfl, rfl⟩ := hge
      rw [Nat.zero_add] at hcell
      have k1 : wr.cell? ⟨H, c, none⟩ = some (.int .i64 (reflV l)[c]) := (HK1.out.cell (p := ⟨H, c, none⟩) hHlt HHN.out).trans hcell
      have hkb := refl_in HGD.out hlt
      have HSU := Lib.hid (cf_succ hlt)
      have hlen := cf_length l c
      have HBE : Hid (∀ W, IntsAt W co (cf l c) → Calls Try.prog 45 #[.slice co c ccap, .int .i64 (reflV l)[c]] W (NewIs (cf l (c + 1)) W)) := fun W hW => by
        have := cBehind co ccap (cf l c) (reflV l)[c] W (by omega) (cf_b30 HGD.out (by omega)) hkb hW
        rw [hlen] at this
        rw [HSU.out]
        exact this
      generalize (reflV l)[c] = k at k1 HBE
      clear hcell hkb HSU hlen hltR
      gi_wp2_with fail
      refine ⟨trivial, fun _ => by omega, (callsIn_wide.2 (HBE.out wr HIC.out)).mono ?_⟩
      rintro e w2 ⟨H2, rfl, hi2, hH2, hlt2, hb2⟩
      rw [cf_length]
      have HI2 := Lib.hid hi2
      have HCL : Hid (Calls Try.prog 46 #[.slice (some ⟨H2, 0, none⟩) (c + 1) (c + 1)] w2 (CopyIs (cf l (c + 1)) w2)) := by
        have := cClone ⟨H2, 0, none⟩ (c + 1) (cf l (c + 1)) w2 (by rw [cf_length]; omega) hi2
        rw [cf_length] at this
        exact this
      have HJ2 := Lib.hid (HJ.out _ _ _ HJ1.out hb2)
      have HK2 := Lib.hid (HK1.out.trans (keeps_of_below hb2 bs))
      have hsz : W.heap.size ≤ wr.heap.size := HK1.out.size
      clear hi2 hb2 k1 HBE HIC HFR HJ1 HK1
      gi_wp2_with fail
      refine ⟨trivial, fun _ => by omega, (callsIn_wide.2 HCL.out).mono ?_⟩
      rintro e w3 ⟨H3, cap3, rfl, hi3, _, hcap3, hH3, hlt3, hb3⟩
      rw [cf_length] at hcap3 ⊢
      obtain ⟨fn, tmps, assign, body, hy, hR⟩ := HY.out (c + 1) (some ⟨H3, 0, none⟩) cap3 w3 (by omega) hcap3 (HJ.out _ _ _ HJ2.out hb3) hi3 (fun a e => by cases e; show W.heap.size ≤ H3; omega)
      have HR := Lib.hid hR
      have HI3 := Lib.hid (HI2.out.below hb3)
      have HK3 := Lib.hid (HK2.out.trans (keeps_of_below hb3 bs))
      have HF2 : Hid (From W.heap.size (some ⟨H2, 0, none⟩)) := fun a e => by cases e; show W.heap.size ≤ H2; omega
      rw [show ((c + 1 : Nat) : Int) = (c : Int) + 1 from rfl] at hy
      clear hR hi3 hb3 hcap3 HCL HJ2 HK2 HI2
      gi_wp2_with fail
      refine ⟨fun _ => by omega, HR.out.mono ?_⟩
      rintro e W4 ⟨rfl, hJ4, hk4⟩
      have HJ4 := Lib.hid hJ4
      have HK4 := Lib.hid (HK3.out.trans hk4)
      have HI4 := Lib.hid (HI3.out.keeps hk4 (HF2.out.not HBS.out))
      clear hJ4 hk4 hy HI3 HK3
      gi_wp2
      go_roundw
      case rel => exact ⟨c + 1, c + 1, _, by omega, by go_num, rfl, HI4, HF2, HJ4, HK4⟩
      case measure => simp [intOf]; omega
    · obtain rfl : c = l.length := by omega
      gi_wp2
      go_end0
      exact ⟨⟨_, rfl⟩, HJ1.out⟩
end Go.Proofs.Ytcgkalfclammfaa
