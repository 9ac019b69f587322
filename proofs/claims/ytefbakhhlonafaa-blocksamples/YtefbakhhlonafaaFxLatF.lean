import Derived.Deep.AppendLies
import Derived.Deep.RegionHeld3
import Derived.Test.YtefbakhhlonafaaFxLatC3

namespace Go.Proofs.Ytefbakhhlonafaa.Fx
open Go.RowKit Go.Proofs Go.Proofs.PipeA Go.Proofs.LatM
set_option maxRecDepth 100000

theorem own_base {w : World} {base base' size n : Nat} {e : TypeId} {xs : List Value} {v : Value} (h : w.ownsRow base e size v n xs) (hb : base' ≤ base) : w.ownsRow base' e size v n xs := by
  refine ⟨h.1, ?_⟩
  rcases h.2 with h2 | ⟨g, cap, cur, h1, h2, r⟩
  · exact .inl h2
  · exact .inr ⟨g, cap, cur, h1, Nat.le_trans hb h2, r⟩
theorem cellA {W : World} {a : Addr} {v : Value} (o : Obj) (hlt : a.block < W.heap.size) (h : W.cell? a = some v) : (W.alloc o).cell? a = some v := ((box_below W o).cell (p := a) hlt).trans h
theorem intsOf_take {l : List Int} {j : Nat} (h : j < l.length) : intsOf (l.take (j + 1)) = intsOf (l.take j) ++ [.int .i64 l[j]] := by
  rw [List.take_succ_eq_append_getElem h]; unfold intsOf; rw [List.map_append]; rfl
theorem intsOf_last (l : List Int) {j : Nat} (h : l.length = j + 1) : intsOf (l.take j) ++ [.int .i64 l[j]] = intsOf l := by
  rw [← intsOf_take (by omega), ← h, List.take_length]
theorem stp_ints (a : List Int) (k : Int) {j : Nat} (h : a.length = j) : intsOf (stp a k) = intsOf ((stp a k).take j) ++ [.int .i64 k] := by
  subst h
  have h1 : a.length < (stp a k).length := by rw [stp_length]; omega
  have h2 := stp_last a k
  rw [getD_at h1] at h2
  rw [← intsOf_last (stp a k) (stp_length a k), h2]
theorem own_far {w : World} {base n size b : Nat} {e : TypeId} {xs : List Value} {v : Value} (h : w.ownsRow base e size v n xs) (hb : b < base) : some b ≠ v.ownBlock := by
  intro he
  have := (own_block_lt h b he.symm).1
  omega

/-- Numbers in memory of the call's own, or none. -/
def SomeIs (l : List Int) (w : World) (e : Ending) (w' : World) : Prop :=
  ∃ ao cap, e = .returned (.slice ao l.length cap) ∧ IntsAt w' ao l ∧ Below w.heap.size w w'

set_option maxHeartbeats 3200000 in
theorem rCoefs (ao : Option Addr) (cap : Nat) (l : List Int) (w : World) (hgd : goodL l = true) (hi : IntsAt w ao l) :
    Calls Try.prog 70 #[.slice ao l.length cap] w (SomeIs (cf l l.length) w) := by
  obtain ⟨i0, hii, hz0, hz1, hz2⟩ := info_parts info_int
  have hl16 := good_len hgd
  have HGD := Lib.hid hgd
  have HI := Lib.hid hi
  have HRF := fun p i W hp hi => Lib.hid (rReflection p i W hp hi)
  have HRD := fun p W h0 h1 => Lib.hid (rRound p W h0 h1)
  clear hi hgd
  go_enter Try.func70, Try.ntmps70
  go_wp2
  go_loopg [3, 4, 5, 6, 7, 10] l.length (fun gk va q4 q5 q6 q7 i wr => ∃ c : Nat, c ≤ l.length ∧ gk + c = l.length ∧ i = .int .i64 c ∧ wr.ownsRow w.heap.size 3 1 va c (intsOf (cf l c)) ∧ Hid (Below w.heap.size w wr))
  case atStart => exact ⟨0, Nat.zero_le _, by omega, rfl, World.ownsRow_nil _ _ _ _, Below.refl _ _⟩
  case round =>
    obtain ⟨c, hc, hgk, rfl, hown, HW⟩ := hrel
    have HGK := Lib.hid hgk
    clear hgk
    by_cases hlt : c < l.length
    · obtain ⟨b, off, rfl, hg, hcell⟩ := (HI.out.below HW.out) c hlt
      have hix := good_at HGD.out hlt
      have HR := fun W => HRF c l[c] W (by omega) hix
      have hkb := refl_bound c hix
      have HCF : Hid (cf l (c + 1) = stp (cf l c) (refl c l[c])) := by show _ = _; rw [cf, getD_at hlt]
      generalize refl c l[c] = k at HR hkb HCF
      generalize l[c] = x at hcell HR
      have hal := cf_length l c
      have HAB := Lib.hid (cf_small HGD.out (show c ≤ 16 by omega))
      generalize cf l c = a at hown HCF hal HAB
      obtain ⟨aao, acap, rfl, hag⟩ := own_slice hown
      have HIA : Hid (IntsAt wr aao a) := by subst hal; exact ints_own hown
      have HAL := Lib.hid hal
      have hsz := HW.out.size
      clear hg hown hag hal hix
      go_wp2_with (go_at_call 86; refine (HR _).out.mono ?_; rintro e w1 ⟨rfl, rfl⟩)
      obtain ⟨W1, rfl⟩ : ∃ W1, W1 = wr := ⟨_, rfl⟩
      obtain ⟨G1, rfl⟩ : ∃ G1, G1 = gk := ⟨_, rfl⟩
      go_loopg [6, 7, 21] c (fun gk vb q7 i wr => ∃ j : Nat, j ≤ c ∧ gk + j = c ∧ i = .int .i64 j ∧ wr.ownsRow W1.heap.size 3 1 vb j (intsOf ((stp a k).take j)) ∧ Hid (Below W1.heap.size W1 wr))
      case atStart => exact ⟨0, Nat.zero_le _, by omega, rfl, World.ownsRow_nil _ _ _ _, Below.refl _ _⟩
      case round =>
        obtain ⟨j, hj, hgk2, rfl, hown, HW2⟩ := hrel
        have HGK2 := Lib.hid hgk2
        clear hgk2
        have hsl := stp_length a k
        by_cases hltj : j < c
        · have hja : j < a.length := by have := HAL.out; omega
          obtain ⟨g, off2, rfl, hg, hcell2⟩ := HIA.out j hja
          obtain ⟨g', off', he, _, hcell3⟩ := HIA.out (a.length - 1 - j) (by omega)
          simp only [Option.some.injEq, Addr.mk.injEq, and_true] at he
          obtain ⟨rfl, rfl⟩ := he
          have hcx := HAB.out _ (List.getElem_mem hja)
          have hcy := HAB.out _ (List.getElem_mem (show a.length - 1 - j < a.length by omega))
          have HS := Lib.hid (stp_at (k := k) hja)
          have HST := Lib.hid (intsOf_take (show j < (stp a k).length by omega))
          have hq : (c : Int) - 1 - (j : Int) = ((a.length - 1 - j : Nat) : Int) := by have := HAL.out; omega
          have hq2 : a.length - 1 - j < c := by have := HAL.out; omega
          have HGE : Hid ((stp a k)[j]'(by omega) = (stp a k).getD j 0) := (getD_at _).symm
          generalize a[a.length - 1 - j] = y at hcell3 hcy HS
          generalize a[j] = xx at hcell2 hcx HS
          generalize a.length - 1 - j = q at hcell3 hq hq2
          have hky := mul_k hkb (show -1073741824 ≤ y ∧ y ≤ 1073741824 by omega)
          have hRD := fun W => HRD (k * y) W (by omega) (by omega)
          have hr : -2000000000 ≤ rnd (k * y) ∧ rnd (k * y) ≤ 2000000000 := by unfold rnd; omega
          have HNEW : Hid (intsOf ((stp a k).take (j + 1)) = intsOf ((stp a k).take j) ++ [.int .i64 (xx + rnd (k * y))]) := by show _ = _; rw [HST.out, HGE.out, HS.out]
          generalize rnd (k * y) = r at hRD hr HNEW
          have w1 : IntKind.i64.wrap ((c : Int) - 1) = ((c - 1 : Nat) : Int) := by rw [IntWalk.i64_in _ (by omega)]; omega
          have w2 : IntKind.i64.wrap (((c - 1 : Nat) : Int) - (j : Int)) = (q : Int) := by rw [IntWalk.i64_in _ (by omega)]; omega
          obtain ⟨ky, hkye⟩ : ∃ ky, ky = k * y := ⟨_, rfl⟩
          obtain ⟨xr, hxre⟩ : ∃ xr, xr = xx + r := ⟨_, rfl⟩
          have w3 : IntKind.i64.wrap (k * y) = ky := by rw [hkye]; exact IntWalk.i64_in _ (by omega)
          have w4 : IntKind.i64.wrap (xx + r) = xr := by rw [hxre]; exact IntWalk.i64_in _ (by omega)
          rw [← hkye] at hRD
          rw [← hxre] at HNEW
          clear hkye hxre hky hr
          have y2 := (HW2.out.cell (p := ⟨g, off2 + j, none⟩) hg).trans hcell2
          have y3 := (HW2.out.cell (p := ⟨g, off2 + q, none⟩) hg).trans hcell3
          have hgr : g < wr.heap.size := Nat.lt_of_lt_of_le hg HW2.out.size
          have HFAR := Lib.hid (own_far hown hg)
          have hsz2 := HW2.out.size
          clear hcell2 hcell3 HS HST HGE
          go_wp2_with fail
          go_region_held3 (fun w' => w'.cell? ⟨g, off2 + j, none⟩ = some (.int .i64 xx) ∧ w'.cell? ⟨g, off2 + q, none⟩ = some (.int .i64 y))
            (first
              | exact ⟨y2, y3⟩
              | exact ⟨cellA (a := ⟨g, off2 + j, none⟩) _ hgr y2, cellA (a := ⟨g, off2 + q, none⟩) _ hgr y3⟩
              | exact ⟨(hgrow.cell_far ⟨g, off2 + j, none⟩ (by simp; omega) HFAR.out).trans (cellA (a := ⟨g, off2 + j, none⟩) _ hgr y2), (hgrow.cell_far ⟨g, off2 + q, none⟩ (by simp; omega) HFAR.out).trans (cellA (a := ⟨g, off2 + q, none⟩) _ hgr y3)⟩
              | fail)
            (first
              | (go_at_call 85; refine (hRD _).out.mono ?_; rintro e w5 ⟨rfl, rfl⟩)
              | (refine step_append_lies _ (by rfl) _ _ 22 (by rfl) W1.heap.size 3 i0 (.int .i64 0) 1 8 Try.underlying22 hii hz0 hz1 hz2 rfl (by decide) _ j (intsOf ((stp a k).take j)) (by rfl) (hown.alloc (.cells #[.int .i64 xr] 3)) ⟨wr.heap.size, 0, none⟩ 1 1 [.int .i64 xr] (by rfl) (by rfl) (World.news_of_block (cs := #[.int .i64 xr]) (t := 3) (fr := (0, 0)) (World.alloc_heap_new _ _)) (by intro u hu; simp at hu; subst hu; rfl) (by omega) (by unfold maxLen; omega) (by omega) (by simp; omega) _ rfl ?_; intro g6 cap6 w6 hown6 hgrow hat hlt6)
              | fail)
          rw [← HNEW.out] at hown6
          have HW6 : Hid (Below W1.heap.size W1 w6) := (((HW2.out.trans ((keeps_drew_b wr []).below HW2.out.size (by simp))).trans ((box_below wr.drew (.cells #[.int .i64 xr] 3)).mono (show W1.heap.size ≤ wr.drew.heap.size from hsz2)))).grown hgrow (by simp; omega) (by intro x hx; exact (own_block_lt hown x hx).1)
          clear hgrow hat hlt6 hown
          go_wp2
          go_roundg (gk - 1)
          case rel => exact ⟨j + 1, by omega, by have := HGK2.out; omega, by go_num, hown6, HW6⟩
          case measure => have := HGK2.out; omega
        · obtain rfl : j = c := by omega
          have HLAST : Hid (intsOf (cf l (j + 1)) = intsOf ((stp a k).take j) ++ [.int .i64 k]) := by show _ = _; rw [HCF.out]; exact stp_ints a k HAL.out
          have hsz2 := HW2.out.size
          go_wp2_with (at_builtin; refine wpList_append_own2 _ rfl _ _ 22 rfl W1.heap.size 3 i0 (.int .i64 0) 1 8 Try.underlying22 hii hz0 hz1 hz2 rfl (by decide) _ _ _ rfl (hown.alloc _) ⟨wr.heap.size, 0, none⟩ 1 1 [.int .i64 k] rfl rfl ?c1 ?c2 ?c3 ?c4 ?c5 ?_)
          case c1 =>
            intro j u hj
            match j, hj with
            | 0, hj => simp at hj; subst hj; simp [Addr.add]
          case c2 => intro u hu; simp at hu; subst hu; rfl
          case c3 => unfold maxLen; omega
          case c4 => omega
          case c5 => simp; omega
          intro v' w4 hown' hgrow hat
          rw [← HLAST.out] at hown'
          have hown4 := own_base hown' hsz
          have HW4 : Hid (Below w.heap.size w w4) := HW.out.trans (((HW2.out.trans ((box_below wr (.cells #[.int .i64 k] 3)).mono hsz2)).grown hgrow (by simp; omega) (by intro x hx; exact (own_block_lt hown x hx).1)).mono hsz)
          clear hgrow hat hown hown'
          go_wp2
          go_roundg (G1 - 1)
          case rel => exact ⟨j + 1, by omega, by have := HGK.out; omega, by go_num, hown4, HW4⟩
          case measure => have := HGK.out; omega
    · obtain rfl : c = l.length := by omega
      obtain ⟨aao, acap, rfl, _⟩ := own_slice hown
      have HF : Hid (SomeIs (cf l l.length) w (.returned (.slice aao l.length acap)) wr) := ⟨aao, acap, by rw [cf_length], ints_own (cap := acap) (by rw [cf_length]; exact hown), HW.out⟩
      go_wp2
      go_ret
      exact HF.out
end Go.Proofs.Ytefbakhhlonafaa.Fx
