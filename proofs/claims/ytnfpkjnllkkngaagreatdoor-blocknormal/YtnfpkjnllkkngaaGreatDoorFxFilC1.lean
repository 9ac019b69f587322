import Derived.Deep.AppendLies
import Derived.Deep.RegionHeld3
import Derived.Test.YtnfpkjnllkkngaaGreatDoorFxLatC3
import Derived.Test.YtnfpkjnllkkngaaGreatDoorFxLatC5
import Derived.Test.YtnfpkjnllkkngaaGreatDoorLagM

section
namespace Go.Proofs.YtnfpkjnllkkngaaGreatDoor.Fx
open Go.RowKit Go.Proofs Go.Proofs.PipeA Go.Proofs.LatM
set_option maxRecDepth 100000

theorem own_base {w : World} {base base' size n : Nat} {e : TypeId} {xs : List Value} {v : Value} (h : w.ownsRow base e size v n xs) (hb : base' ≤ base) : w.ownsRow base' e size v n xs := by
  refine ⟨h.1, ?_⟩
  rcases h.2 with h2 | ⟨g, cap, cur, h1, h2, r⟩
  · exact .inl h2
  · exact .inr ⟨g, cap, cur, h1, Nat.le_trans hb h2, r⟩
theorem cellA {W : World} {a : Addr} {v : Value} (o : Obj) (hlt : a.block < W.heap.size) (h : W.cell? a = some v) : (W.alloc o).cell? a = some v := ((box_below W o).cell (p := a) hlt).trans h
theorem intsOf_take {l : List Int} {j : Nat} (h : j < l.length) : intsOf (l.take (j + 1)) = intsOf (l.take j) ++ [.int .i64 l[j]] := by
  rw [List.take_succ_eq_append_getElem h]; unfold intsOf; rw [List.map_append]; rfl
theorem intsOf_last (l : List Int) {j : Nat} (h : l.length = j + 1) : intsOf (l.take j) ++ [.int .i64 l[j]] = intsOf l := by
  rw [← intsOf_take (by omega), ← h, List.take_length]
theorem stp_ints (a : List Int) (k : Int) {j : Nat} (h : a.length = j) : intsOf (stp a k) = intsOf ((stp a k).take j) ++ [.int .i64 k] := by
  subst h
  have h1 : a.length < (stp a k).length := by rw [stp_length]; omega
  have h2 := stp_last a k
  rw [getD_at h1] at h2
  rw [← intsOf_last (stp a k) (stp_length a k), h2]
theorem own_far {w : World} {base n size b : Nat} {e : TypeId} {xs : List Value} {v : Value} (h : w.ownsRow base e size v n xs) (hb : b < base) : some b ≠ v.ownBlock := by
  intro he
  have := (own_block_lt h b he.symm).1
  omega

/-- Numbers in memory of the call's own, or none. -/
def SomeIs (l : List Int) (w : World) (e : Ending) (w' : World) : Prop :=
  ∃ ao cap, e = .returned (.slice ao l.length cap) ∧ IntsAt w' ao l ∧ Below w.heap.size w w'

set_option maxHeartbeats 3200000 in
theorem rCoefs (ao : Option Addr) (cap : Nat) (l : List Int) (w : World) (hgd : goodL l = true) (hi : IntsAt w ao l) :
    Calls Tryz.prog 80 #[.slice ao l.length cap] w (SomeIs (cf l l.length) w) := by
  obtain ⟨i0, hii, hz0, hz1, hz2⟩ := info_parts info_int
  have hl16 := good_len hgd
  have HGD := Lib.hid hgd
  have HI := Lib.hid hi
  have HRF := fun p i W hp hi => Lib.hid (rReflection p i W hp hi)
  have HRD := fun p W h0 h1 => Lib.hid (rRound p W h0 h1)
  clear hi hgd
  go_enter Tryz.func80, Tryz.ntmps80
  go_wp2
  go_loopg [3, 4, 5, 6, 7, 10] l.length (fun gk va q4 q5 q6 q7 i wr => ∃ c : Nat, c ≤ l.length ∧ gk + c = l.length ∧ i = .int .i64 c ∧ wr.ownsRow w.heap.size 3 1 va c (intsOf (cf l c)) ∧ Hid (Below w.heap.size w wr))
  case atStart => exact ⟨0, Nat.zero_le _, by omega, rfl, World.ownsRow_nil _ _ _ _, Below.refl _ _⟩
  case round =>
    obtain ⟨c, hc, hgk, rfl, hown, HW⟩ := hrel
    have HGK := Lib.hid hgk
    clear hgk
    by_cases hlt : c < l.length
    · obtain ⟨b, off, rfl, hg, hcell⟩ := (HI.out.below HW.out) c hlt
      have hix := good_at HGD.out hlt
      have HR := fun W => HRF c l[c] W (by omega) hix
      have hkb := refl_bound c hix
      have HCF : Hid (cf l (c + 1) = stp (cf l c) (refl c l[c])) := by show _ = _; rw [cf, getD_at hlt]
      generalize refl c l[c] = k at HR hkb HCF
      generalize l[c] = x at hcell HR
      have hal := cf_length l c
      have HAB := Lib.hid (cf_small HGD.out (show c ≤ 16 by omega))
      generalize cf l c = a at hown HCF hal HAB
      obtain ⟨aao, acap, rfl, hag⟩ := own_slice hown
      have HIA : Hid (IntsAt wr aao a) := by subst hal; exact ints_own hown
      have HAL := Lib.hid hal
      have hsz := HW.out.size
      clear hg hown hag hal hix
      go_wp2_with (go_at_call 99; refine (HR _).out.mono ?_; rintro e w1 ⟨rfl, rfl⟩)
      obtain ⟨W1, rfl⟩ : ∃ W1, W1 = wr := ⟨_, rfl⟩
      obtain ⟨G1, rfl⟩ : ∃ G1, G1 = gk := ⟨_, rfl⟩
      go_loopg [6, 7, 21] c (fun gk vb q7 i wr => ∃ j : Nat, j ≤ c ∧ gk + j = c ∧ i = .int .i64 j ∧ wr.ownsRow W1.heap.size 3 1 vb j (intsOf ((stp a k).take j)) ∧ Hid (Below W1.heap.size W1 wr))
      case atStart => exact ⟨0, Nat.zero_le _, by omega, rfl, World.ownsRow_nil _ _ _ _, Below.refl _ _⟩
      case round =>
        obtain ⟨j, hj, hgk2, rfl, hown, HW2⟩ := hrel
        have HGK2 := Lib.hid hgk2
        clear hgk2
        have hsl := stp_length a k
        by_cases hltj : j < c
        · have hja : j < a.length := by have := HAL.out; omega
          obtain ⟨g, off2, rfl, hg, hcell2⟩ := HIA.out j hja
          obtain ⟨g', off', he, _, hcell3⟩ := HIA.out (a.length - 1 - j) (by omega)
          simp only [Option.some.injEq, Addr.mk.injEq, and_true] at he
          obtain ⟨rfl, rfl⟩ := he
          have hcx := HAB.out _ (List.getElem_mem hja)
          have hcy := HAB.out _ (List.getElem_mem (show a.length - 1 - j < a.length by omega))
          have HS := Lib.hid (stp_at (k := k) hja)
          have HST := Lib.hid (intsOf_take (show j < (stp a k).length by omega))
          have hq : (c : Int) - 1 - (j : Int) = ((a.length - 1 - j : Nat) : Int) := by have := HAL.out; omega
          have hq2 : a.length - 1 - j < c := by have := HAL.out; omega
          have HGE : Hid ((stp a k)[j]'(by omega) = (stp a k).getD j 0) := (getD_at _).symm
          generalize a[a.length - 1 - j] = y at hcell3 hcy HS
          generalize a[j] = xx at hcell2 hcx HS
          generalize a.length - 1 - j = q at hcell3 hq hq2
          have hky := mul_k hkb (show -1073741824 ≤ y ∧ y ≤ 1073741824 by omega)
          have hRD := fun W => HRD (k * y) W (by omega) (by omega)
          have hr : -2000000000 ≤ rnd (k * y) ∧ rnd (k * y) ≤ 2000000000 := by unfold rnd; omega
          have HNEW : Hid (intsOf ((stp a k).take (j + 1)) = intsOf ((stp a k).take j) ++ [.int .i64 (xx + rnd (k * y))]) := by show _ = _; rw [HST.out, HGE.out, HS.out]
          generalize rnd (k * y) = r at hRD hr HNEW
          have w1 : IntKind.i64.wrap ((c : Int) - 1) = ((c - 1 : Nat) : Int) := by rw [IntWalk.i64_in _ (by omega)]; omega
          have w2 : IntKind.i64.wrap (((c - 1 : Nat) : Int) - (j : Int)) = (q : Int) := by rw [IntWalk.i64_in _ (by omega)]; omega
          obtain ⟨ky, hkye⟩ : ∃ ky, ky = k * y := ⟨_, rfl⟩
          obtain ⟨xr, hxre⟩ : ∃ xr, xr = xx + r := ⟨_, rfl⟩
          have w3 : IntKind.i64.wrap (k * y) = ky := by rw [hkye]; exact IntWalk.i64_in _ (by omega)
          have w4 : IntKind.i64.wrap (xx + r) = xr := by rw [hxre]; exact IntWalk.i64_in _ (by omega)
          rw [← hkye] at hRD
          rw [← hxre] at HNEW
          clear hkye hxre hky hr
          have y2 := (HW2.out.cell (p := ⟨g, off2 + j, none⟩) hg).trans hcell2
          have y3 := (HW2.out.cell (p := ⟨g, off2 + q, none⟩) hg).trans hcell3
          have hgr : g < wr.heap.size := Nat.lt_of_lt_of_le hg HW2.out.size
          have HFAR := Lib.hid (own_far hown hg)
          have hsz2 := HW2.out.size
          clear hcell2 hcell3 HS HST HGE
          go_wp2_with fail
          go_region_held3 (fun w' => w'.cell? ⟨g, off2 + j, none⟩ = some (.int .i64 xx) ∧ w'.cell? ⟨g, off2 + q, none⟩ = some (.int .i64 y))
            (first
              | exact ⟨y2, y3⟩
              | exact ⟨cellA (a := ⟨g, off2 + j, none⟩) _ hgr y2, cellA (a := ⟨g, off2 + q, none⟩) _ hgr y3⟩
              | exact ⟨(hgrow.cell_far ⟨g, off2 + j, none⟩ (by simp; omega) HFAR.out).trans (cellA (a := ⟨g, off2 + j, none⟩) _ hgr y2), (hgrow.cell_far ⟨g, off2 + q, none⟩ (by simp; omega) HFAR.out).trans (cellA (a := ⟨g, off2 + q, none⟩) _ hgr y3)⟩
              | fail)
            (first
              | (go_at_call 98; refine (hRD _).out.mono ?_; rintro e w5 ⟨rfl, rfl⟩)
              | (refine step_append_lies _ (by rfl) _ _ 22 (by rfl) W1.heap.size 3 i0 (.int .i64 0) 1 8 Tryz.underlying22 hii hz0 hz1 hz2 rfl (by decide) _ j (intsOf ((stp a k).take j)) (by rfl) (hown.alloc (.cells #[.int .i64 xr] 3)) ⟨wr.heap.size, 0, none⟩ 1 1 [.int .i64 xr] (by rfl) (by rfl) (World.news_of_block (cs := #[.int .i64 xr]) (t := 3) (fr := (0, 0)) (World.alloc_heap_new _ _)) (by intro u hu; simp at hu; subst hu; rfl) (by omega) (by unfold maxLen; omega) (by omega) (by simp; omega) _ rfl ?_; intro g6 cap6 w6 hown6 hgrow hat hlt6)
              | fail)
          rw [← HNEW.out] at hown6
          have HW6 : Hid (Below W1.heap.size W1 w6) := (((HW2.out.trans ((keeps_drew_b wr []).below HW2.out.size (by simp))).trans ((box_below wr.drew (.cells #[.int .i64 xr] 3)).mono (show W1.heap.size ≤ wr.drew.heap.size from hsz2)))).grown hgrow (by simp; omega) (by intro x hx; exact (own_block_lt hown x hx).1)
          clear hgrow hat hlt6 hown
          go_wp2
          go_roundg (gk - 1)
          case rel => exact ⟨j + 1, by omega, by have := HGK2.out; omega, by go_num, hown6, HW6⟩
          case measure => have := HGK2.out; omega
        · obtain rfl : j = c := by omega
          have HLAST : Hid (intsOf (cf l (j + 1)) = intsOf ((stp a k).take j) ++ [.int .i64 k]) := by show _ = _; rw [HCF.out]; exact stp_ints a k HAL.out
          have hsz2 := HW2.out.size
          go_wp2_with (at_builtin; refine wpList_append_own2 _ rfl _ _ 22 rfl W1.heap.size 3 i0 (.int .i64 0) 1 8 Tryz.underlying22 hii hz0 hz1 hz2 rfl (by decide) _ _ _ rfl (hown.alloc _) ⟨wr.heap.size, 0, none⟩ 1 1 [.int .i64 k] rfl rfl ?c1 ?c2 ?c3 ?c4 ?c5 ?_)
          case c1 =>
            intro j u hj
            match j, hj with
            | 0, hj => simp at hj; subst hj; simp [Addr.add]
          case c2 => intro u hu; simp at hu; subst hu; rfl
          case c3 => unfold maxLen; omega
          case c4 => omega
          case c5 => simp; omega
          intro v' w4 hown' hgrow hat
          rw [← HLAST.out] at hown'
          have hown4 := own_base hown' hsz
          have HW4 : Hid (Below w.heap.size w w4) := HW.out.trans (((HW2.out.trans ((box_below wr (.cells #[.int .i64 k] 3)).mono hsz2)).grown hgrow (by simp; omega) (by intro x hx; exact (own_block_lt hown x hx).1)).mono hsz)
          clear hgrow hat hown hown'
          go_wp2
          go_roundg (G1 - 1)
          case rel => exact ⟨j + 1, by omega, by have := HGK.out; omega, by go_num, hown4, HW4⟩
          case measure => have := HGK.out; omega
    · obtain rfl : c = l.length := by omega
      obtain ⟨aao, acap, rfl, _⟩ := own_slice hown
      have HF : Hid (SomeIs (cf l l.length) w (.returned (.slice aao l.length acap)) wr) := ⟨aao, acap, by rw [cf_length], ints_own (cap := acap) (by rw [cf_length]; exact hown), HW.out⟩
      go_wp2
      go_ret
      exact HF.out
end Go.Proofs.YtnfpkjnllkkngaaGreatDoor.Fx
end

section
namespace Go.Proofs.YtnfpkjnllkkngaaGreatDoor.Fx
open Go.RowKit Go.Proofs Go.Proofs.PipeA Go.Proofs.LatM Go.Proofs.FilM
set_option maxRecDepth 100000

theorem NoSample_cases (n : Int) : (decide (n < -67108864) = true ∧ isS n = false) ∨ (decide (n < -67108864) = false ∧ decide (67108864 < n) = true ∧ isS n = false) ∨ (decide (n < -67108864) = false ∧ decide (67108864 < n) = false ∧ isS n = true) := by
  unfold isS
  by_cases h1 : n < -67108864
  · exact .inl ⟨decide_eq_true h1, decide_eq_false (by omega)⟩
  · by_cases h2 : 67108864 < n
    · exact .inr (.inl ⟨decide_eq_false h1, decide_eq_true h2, decide_eq_false (by omega)⟩)
    · exact .inr (.inr ⟨decide_eq_false h1, decide_eq_false h2, decide_eq_true (by omega)⟩)

theorem cNoSample (n : Int) (w : World) :
    Calls Tryz.prog 68 #[.int .i64 n] w fun e w' => e = .returned (.bool (!isS n)) ∧ w = w' := by
  rcases NoSample_cases n with ⟨t1, t2⟩ | ⟨t1, t2, t3⟩ | ⟨t1, t2, t3⟩
  · have HT := Lib.hid t2
    clear t2
    go_enter Tryz.func68, Tryz.ntmps68
    go_wp2
    go_ret
    exact ⟨by rw [HT.out]; rfl, rfl⟩
  · have HT := Lib.hid t3
    clear t3
    go_enter Tryz.func68, Tryz.ntmps68
    go_wp2
    go_ret
    exact ⟨by rw [HT.out]; rfl, rfl⟩
  · have HT := Lib.hid t3
    clear t3
    go_enter Tryz.func68, Tryz.ntmps68
    go_wp2
    go_ret
    exact ⟨by rw [HT.out]; rfl, rfl⟩

set_option maxHeartbeats 800000 in
theorem cIndexFuncNoSample (ao : Option Addr) (cap : Nat) (l : List Int) (w : World) (hl : l.length ≤ 9223372036854775807) (hi : IntsAt w ao l) :
    Calls Tryz.prog 66 #[.slice ao l.length cap, .func (.func 68) #[] #[]] w fun e w' => ∃ k : Int, e = .returned (.int .i64 k) ∧ Found l (fun n => !isS n) k ∧ w = w' := by
  have HI := Lib.hid hi
  have HL := fun n W => Lib.hid (cNoSample n W)
  clear hi
  go_enter Tryz.func66, Tryz.ntmps66
  go_wp2
  go_loopg [5, 8] l.length (fun gk q i wr => ∃ c : Nat, c ≤ l.length ∧ gk + c = l.length ∧ i = .int .i64 c ∧ Hid ((l.take c).any (fun n => !isS n) = false) ∧ w = wr)
  case atStart => exact ⟨0, Nat.zero_le _, by omega, rfl, by simp [Hid], rfl⟩
  case round =>
    obtain ⟨c, hc, hgk, rfl, HT, rfl⟩ := hrel
    have HGK := Lib.hid hgk
    clear hgk
    by_cases hlt : c < l.length
    · obtain ⟨b, off, rfl, hg, hcell⟩ := HI.out c hlt
      have HNX := Lib.hid (any_take (f := fun n => !isS n) hlt)
      have HLC := fun W => Lib.hid (HL l[c] W).out
      have HMem : Hid (isS l[c] = false → l.any (fun n => !isS n) = true) := fun h => List.any_eq_true.2 ⟨l[c], List.getElem_mem hlt, by simp [h]⟩
      generalize l[c] = x at hcell HNX HLC HMem
      cases hx : isS x
      · have HM2 := Lib.hid (HMem.out hx)
        rw [hx] at HLC
        clear hx HMem HNX hg
        go_wp2_with fail
        refine (HLC _).out.mono ?_
        rintro e w1 ⟨rfl, rfl⟩
        go_wp2
        go_ret
        exact ⟨_, rfl, by unfold Found; rw [HM2.out]; exact decide_eq_true (by omega), rfl⟩
      · have HN2 : Hid ((l.take (c + 1)).any (fun n => !isS n) = false) := by show _ = _; rw [HNX.out, HT.out]; simp [hx]
        rw [hx] at HLC
        clear hx HMem HNX hg
        go_wp2_with fail
        refine (HLC _).out.mono ?_
        rintro e w1 ⟨rfl, rfl⟩
        go_wp2
        go_roundg (gk - 1)
        case rel => exact ⟨c + 1, by omega, by have := HGK.out; omega, by go_num, HN2, rfl⟩
        case measure => have := HGK.out; omega
    · obtain rfl : c = l.length := by omega
      have HA : Hid (l.any (fun n => !isS n) = false) := by have := HT.out; rw [List.take_length] at this; exact this
      go_wp2
      go_ret
      exact ⟨_, rfl, by unfold Found; rw [HA.out]; rfl, rfl⟩

set_option maxHeartbeats 400000 in
theorem cContainsNoSample (ao : Option Addr) (cap : Nat) (l : List Int) (w : World) (hl : l.length ≤ 9223372036854775807) (hi : IntsAt w ao l) :
    Calls Tryz.prog 41 #[.slice ao l.length cap, .func (.func 68) #[] #[]] w fun e w' => e = .returned (.bool (l.any (fun n => !isS n))) ∧ w = w' := by
  have HC := Lib.hid (cIndexFuncNoSample ao cap l w hl hi)
  obtain ⟨d, hd⟩ : ∃ d, d = l.any (fun n => !isS n) := ⟨_, rfl⟩
  rw [← hd]
  have HD := Lib.hid hd
  clear hi hd
  go_enter Tryz.func41, Tryz.ntmps41
  go_wp2_with fail
  refine HC.out.mono ?_
  rintro e w1 ⟨k, rfl, hf, rfl⟩
  unfold Found at hf
  rw [← HD.out] at hf
  go_wp2
  go_ret
  exact ⟨rfl, rfl⟩

theorem TooFar_cases (n : Int) : (decide (n < -1152921504606846976) = true ∧ isR n = false) ∨ (decide (n < -1152921504606846976) = false ∧ decide (1152921504606846976 < n) = true ∧ isR n = false) ∨ (decide (n < -1152921504606846976) = false ∧ decide (1152921504606846976 < n) = false ∧ isR n = true) := by
  unfold isR
  by_cases h1 : n < -1152921504606846976
  · exact .inl ⟨decide_eq_true h1, decide_eq_false (by omega)⟩
  · by_cases h2 : 1152921504606846976 < n
    · exact .inr (.inl ⟨decide_eq_false h1, decide_eq_true h2, decide_eq_false (by omega)⟩)
    · exact .inr (.inr ⟨decide_eq_false h1, decide_eq_false h2, decide_eq_true (by omega)⟩)

theorem cTooFar (n : Int) (w : World) :
    Calls Tryz.prog 101 #[.int .i64 n] w fun e w' => e = .returned (.bool (!isR n)) ∧ w = w' := by
  rcases TooFar_cases n with ⟨t1, t2⟩ | ⟨t1, t2, t3⟩ | ⟨t1, t2, t3⟩
  · have HT := Lib.hid t2
    clear t2
    go_enter Tryz.func101, Tryz.ntmps101
    go_wp2
    go_ret
    exact ⟨by rw [HT.out]; rfl, rfl⟩
  · have HT := Lib.hid t3
    clear t3
    go_enter Tryz.func101, Tryz.ntmps101
    go_wp2
    go_ret
    exact ⟨by rw [HT.out]; rfl, rfl⟩
  · have HT := Lib.hid t3
    clear t3
    go_enter Tryz.func101, Tryz.ntmps101
    go_wp2
    go_ret
    exact ⟨by rw [HT.out]; rfl, rfl⟩

set_option maxHeartbeats 800000 in
theorem cIndexFuncTooFar (ao : Option Addr) (cap : Nat) (l : List Int) (w : World) (hl : l.length ≤ 9223372036854775807) (hi : IntsAt w ao l) :
    Calls Tryz.prog 66 #[.slice ao l.length cap, .func (.func 101) #[] #[]] w fun e w' => ∃ k : Int, e = .returned (.int .i64 k) ∧ Found l (fun n => !isR n) k ∧ w = w' := by
  have HI := Lib.hid hi
  have HL := fun n W => Lib.hid (cTooFar n W)
  clear hi
  go_enter Tryz.func66, Tryz.ntmps66
  go_wp2
  go_loopg [5, 8] l.length (fun gk q i wr => ∃ c : Nat, c ≤ l.length ∧ gk + c = l.length ∧ i = .int .i64 c ∧ Hid ((l.take c).any (fun n => !isR n) = false) ∧ w = wr)
  case atStart => exact ⟨0, Nat.zero_le _, by omega, rfl, by simp [Hid], rfl⟩
  case round =>
    obtain ⟨c, hc, hgk, rfl, HT, rfl⟩ := hrel
    have HGK := Lib.hid hgk
    clear hgk
    by_cases hlt : c < l.length
    · obtain ⟨b, off, rfl, hg, hcell⟩ := HI.out c hlt
      have HNX := Lib.hid (any_take (f := fun n => !isR n) hlt)
      have HLC := fun W => Lib.hid (HL l[c] W).out
      have HMem : Hid (isR l[c] = false → l.any (fun n => !isR n) = true) := fun h => List.any_eq_true.2 ⟨l[c], List.getElem_mem hlt, by simp [h]⟩
      generalize l[c] = x at hcell HNX HLC HMem
      cases hx : isR x
      · have HM2 := Lib.hid (HMem.out hx)
        rw [hx] at HLC
        clear hx HMem HNX hg
        go_wp2_with fail
        refine (HLC _).out.mono ?_
        rintro e w1 ⟨rfl, rfl⟩
        go_wp2
        go_ret
        exact ⟨_, rfl, by unfold Found; rw [HM2.out]; exact decide_eq_true (by omega), rfl⟩
      · have HN2 : Hid ((l.take (c + 1)).any (fun n => !isR n) = false) := by show _ = _; rw [HNX.out, HT.out]; simp [hx]
        rw [hx] at HLC
        clear hx HMem HNX hg
        go_wp2_with fail
        refine (HLC _).out.mono ?_
        rintro e w1 ⟨rfl, rfl⟩
        go_wp2
        go_roundg (gk - 1)
        case rel => exact ⟨c + 1, by omega, by have := HGK.out; omega, by go_num, HN2, rfl⟩
        case measure => have := HGK.out; omega
    · obtain rfl : c = l.length := by omega
      have HA : Hid (l.any (fun n => !isR n) = false) := by have := HT.out; rw [List.take_length] at this; exact this
      go_wp2
      go_ret
      exact ⟨_, rfl, by unfold Found; rw [HA.out]; rfl, rfl⟩

set_option maxHeartbeats 400000 in
theorem cContainsTooFar (ao : Option Addr) (cap : Nat) (l : List Int) (w : World) (hl : l.length ≤ 9223372036854775807) (hi : IntsAt w ao l) :
    Calls Tryz.prog 41 #[.slice ao l.length cap, .func (.func 101) #[] #[]] w fun e w' => e = .returned (.bool (l.any (fun n => !isR n))) ∧ w = w' := by
  have HC := Lib.hid (cIndexFuncTooFar ao cap l w hl hi)
  obtain ⟨d, hd⟩ : ∃ d, d = l.any (fun n => !isR n) := ⟨_, rfl⟩
  rw [← hd]
  have HD := Lib.hid hd
  clear hi hd
  go_enter Tryz.func41, Tryz.ntmps41
  go_wp2_with fail
  refine HC.out.mono ?_
  rintro e w1 ⟨k, rfl, hf, rfl⟩
  unfold Found at hf
  rw [← HD.out] at hf
  go_wp2
  go_ret
  exact ⟨rfl, rfl⟩


theorem any_not {f : Int → Bool} (l : List Int) : l.any (fun n => !f n) = !l.all f := by rw [List.all_eq_not_any_not, Bool.not_not]
end Go.Proofs.YtnfpkjnllkkngaaGreatDoor.Fx
end
