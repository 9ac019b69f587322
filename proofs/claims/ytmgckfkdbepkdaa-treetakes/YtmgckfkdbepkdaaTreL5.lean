import Derived.Test.YtmgckfkdbepkdaaTreL1
import Derived.Test.YtmgckfkdbepkdaaTreT4
namespace Go.Proofs.Ytmgckfkdbepkdaa
open Go.RowKit Go.Proofs Go.Proofs.PipeM Go.Proofs.PipeA Go.Proofs.TreM
set_option maxRecDepth 100000

set_option maxHeartbeats 800000 in
theorem treeTakes_much (bo : Option Addr) (cap : Nat) (zs : List Nat) (n : Int) (w : World) (hl : zs.length ≤ 9223372036854775807) (h : 20 < zs.length) :
    Calls Try.prog 6 #[.slice bo zs.length cap, .int .i64 n] w fun e w' => e = .returned (.bool true) ∧ Below w.heap.size w w' := by
  have HA := fun W => Lib.hid (awake9 W)
  have t1 : decide ((20 : Int) < (zs.length : Int)) = true := decide_eq_true (by omega)
  go_enter Try.func6, Try.ntmps6
  go_wp2_with fail
  refine (HA _).out.mono ?_
  rintro e w1 ⟨rfl, hb1⟩
  have HB1 := Lib.hid hb1
  clear hb1
  go_wp2_with fail
  refine (HA _).out.mono ?_
  rintro e w2 ⟨rfl, hb2⟩
  have HB2 := Lib.hid (HB1.out.trans (hb2.mono HB1.out.size))
  clear hb2
  go_wp2
  go_ret
  exact ⟨rfl, HB2.out⟩

theorem str_take {u rest : List Bool} : (str (u ++ rest)).extract 0 u.length = str u := by
  rw [str_extract]; simp

set_option maxHeartbeats 3200000 in
theorem treeTakes_few (bo : Option Addr) (cap : Nat) (zs : List Nat) (size : Int) (w : World) (hz : ∀ z ∈ zs, z < 256) (hd : BytesAt w bo zs) (h : zs.length ≤ 20) :
    Calls Try.prog 6 #[.slice bo zs.length cap, .int .i64 size] w fun e w' => e = .returned (.bool true) ∧ Below w.heap.size w w' := by
  have HA := fun W => Lib.hid (awake9 W)
  have HD := Lib.hid hd
  have HZ := Lib.hid hz
  have hbl := bitsOf_length zs
  obtain ⟨ao2, hao, hab⟩ : ∃ ao2 : Option Addr, (0 < zs.length → bo = ao2) ∧ ∀ g off, ao2 = some ⟨g, off, none⟩ → g < w.heap.size := by
    cases zs with
    | nil => exact ⟨none, by simp, by simp⟩
    | cons z r =>
      obtain ⟨g, off, rfl, hg, _⟩ := hd 0 (by simp)
      exact ⟨_, fun _ => rfl, fun g' off' e => by cases e; exact hg⟩
  have HAO := Lib.hid hao
  have HAB := Lib.hid hab
  have t1 : decide ((20 : Int) < (zs.length : Int)) = false := decide_eq_false (by omega)
  obtain ⟨B, hB⟩ : ∃ B, B = bitsOf zs := ⟨_, rfl⟩
  rw [← hB] at hbl
  have HBB := Lib.hid hB
  have HOP : Hid (∀ W, BytesAt W bo zs → Calls Try.prog 21 #[.slice bo zs.length cap] W fun e w' => e = .returned (.pointer (some ⟨W.heap.size, 0, none⟩)) ∧ RdA w' W.heap.size ao2 ⟨B, 0⟩ ∧ Below W.heap.size W w') := fun W hW => by rw [hB]; exact aOpen bo ao2 cap zs W hao hW hz (by omega)
  have HBI : Hid (∀ W, BytesAt W bo zs → Calls Try.prog 26 #[.slice bo zs.length cap] W fun e w' => e = .returned (.string (str B)) ∧ Below W.heap.size W w') := fun W hW => by rw [hB]; exact refBits bo cap zs W (by omega) hz hW
  have hbl160 : B.length ≤ 160 := by omega
  obtain ⟨nz, hnz⟩ : ∃ nz, nz = zs.length := ⟨_, rfl⟩
  rw [← hnz] at t1 HOP HBI ⊢
  clear hd hz hao hab hbl hB hnz h
  go_enter Try.func6, Try.ntmps6
  go_wp2_with fail
  refine (HA _).out.mono ?_
  rintro e w1 ⟨rfl, hb1⟩
  have HB1 := Lib.hid hb1
  have HD1 := Lib.hid (HD.out.below hb1)
  have HO1 := Lib.hid (HOP.out w1 HD1.out)
  clear hb1
  go_wp2_with fail
  refine HO1.out.mono ?_
  rintro e w2 ⟨rfl, hrd2, hb2⟩
  have HD2 := Lib.hid (HD1.out.below hb2)
  have hwR : w.heap.size ≤ w1.heap.size := HB1.out.size
  have HB2 := Lib.hid (HB1.out.trans (hb2.mono hwR))
  have HT2 := Lib.hid (cTreeTake w1.heap.size ao2 size ⟨B, 0⟩ w2 hrd2 (fun g off e => Nat.lt_of_lt_of_le (HAB.out g off e) HB2.out.size))
  have hR2 : w1.heap.size < w2.heap.size := hrd2.lt
  clear hrd2 hb2 HO1
  go_wp2_with fail
  refine HT2.out.mono ?_
  rintro e w3 h3
  have hfresh : ∀ {s' : RS} {W : World}, Reads w2 w1.heap.size ao2 s' W → Below w.heap.size w W := fun hr => HB2.out.trans (hr.2.below HB2.out.size (by intro x hx; simp at hx; subst hx; exact hwR))
  rcases h3 with ⟨hs, rfl, hr3⟩ | ⟨hs, hwhy, rfl, hr3⟩ | ⟨hs, _, u, rest, a, ao, cp, hub, hrd, rfl, hown, hr3⟩
  · have HB3 := Lib.hid (hfresh hr3)
    have HF3 := Lib.hid (aFail w1.heap.size ao2 _ w3 hr3.1)
    rw [show ((RS.mk B 0).give 1).err = 1 by unfold RS.give; rw [if_neg (by simp)]] at HF3
    clear hr3 hfresh HT2
    rcases sizeB_no hs with h1 | ⟨h1, h2⟩
    · clear hs
      go_wp2_with fail
      refine HF3.out.mono ?_
      rintro e w4 ⟨rfl, rfl⟩
      go_wp2
      go_ret
      exact ⟨rfl, HB3.out⟩
    · clear hs
      go_wp2_with fail
      refine HF3.out.mono ?_
      rintro e w4 ⟨rfl, rfl⟩
      go_wp2
      go_ret
      exact ⟨rfl, HB3.out⟩
  · obtain ⟨n, rfl, h1, h2⟩ := sizeB_of hs
    rw [Int.toNat_natCast] at hwhy
    have hrn : rd 4 n (B.map chr) = none := hwhy.resolve_left (fun h => h rfl)
    have HB3 := Lib.hid (hfresh hr3)
    have HD3 : Hid (BytesAt w3 bo zs) := HD.out.below HB3.out
    have HBI3 := Lib.hid (HBI.out w3 HD3.out)
    have HR3 := Lib.hid hr3.1
    have HRR := fun W => Lib.hid (rRead 4 n (B.map chr) W (by omega) h2 (by simp; omega))
    rw [hrn] at HRR
    rw [if_pos rfl] at HR3
    clear hr3 hfresh HT2 hs hwhy hrn
    go_wp2_with fail
    refine HBI3.out.mono ?_
    rintro e w4 ⟨rfl, hb4⟩
    have HR4 := Lib.hid (HR3.out.keeps (keeps_of_below hb4 []) (by simp) (by simp))
    have HB4 := Lib.hid (HB3.out.trans (hb4.mono HB3.out.size))
    rw [str_bs]
    clear hb4
    go_wp2_with fail
    refine (HRR _).out.mono ?_
    rintro e w5 ⟨v5, l5, rfl, _, _, _, hb5⟩
    have HR5 := Lib.hid (HR4.out.keeps (keeps_of_below hb5 []) (by simp) (by simp))
    have HB5 := Lib.hid (HB4.out.trans (hb5.mono HB4.out.size))
    have HF5 := Lib.hid (aFail w1.heap.size ao2 _ w5 HR5.out)
    clear hb5
    go_wp2_with fail
    refine HF5.out.mono ?_
    rintro e w6 ⟨rfl, rfl⟩
    go_wp2
    go_ret
    exact ⟨rfl, HB5.out⟩
  · obtain ⟨n, rfl, h1, h2⟩ := sizeB_of hs
    rw [Int.toNat_natCast] at hrd
    replace hrd : rd 4 n (B.map chr) = some (a, rest.map chr) := hrd
    have HUB : Hid (B = u ++ rest) := hub
    clear hub
    have ha16 := (rd_like _ _ _ _ _ hrd).2.1
    have HB3 := Lib.hid (hfresh hr3)
    have HD3 : Hid (BytesAt w3 bo zs) := HD.out.below HB3.out
    have HBI3 := Lib.hid (HBI.out w3 HD3.out)
    have HR3 := Lib.hid hr3.1
    have HI3 := Lib.hid (ints_own hown)
    have HRR := fun W => Lib.hid (rRead 4 n (B.map chr) W (by omega) h2 (by simp; omega))
    rw [hrd] at HRR
    clear hr3 hfresh HT2 hs hown
    go_wp2_with fail
    refine HBI3.out.mono ?_
    rintro e w4 ⟨rfl, hb4⟩
    have HR4 := Lib.hid (HR3.out.keeps (keeps_of_below hb4 []) (by simp) (by simp))
    have HB4 := Lib.hid (HB3.out.trans (hb4.mono HB3.out.size))
    have HI4 := Lib.hid (HI3.out.below hb4)
    rw [str_bs]
    clear hb4
    go_wp2_with fail
    refine (HRR _).out.mono ?_
    rintro e w5 ⟨v5, l5, rfl, ho5, _, hl5, hb5⟩
    obtain rfl : l5 = a := hl5 _ rfl
    obtain ⟨ao5, cap5, rfl⟩ := own_sl ho5
    have HR5 := Lib.hid (HR4.out.keeps (keeps_of_below hb5 []) (by simp) (by simp))
    have HB5 := Lib.hid (HB4.out.trans (hb5.mono HB4.out.size))
    have HF5 := Lib.hid (aFail w1.heap.size ao2 _ w5 HR5.out)
    have HS5 := Lib.hid (same_yes ao ao5 cp cap5 l5 w5 (by omega) (HI4.out.below hb5) (ints_own ho5))
    rw [show behindOf (some (l5, rest.map chr)) = rest.map chr from rfl, show (some (l5, rest.map chr)).isSome = true from rfl]
    have hnb : (bs (B.map chr)).size = u.length + rest.length := by rw [bs_size, HUB.out]; simp
    have hnr : (bs (rest.map chr)).size = rest.length := by rw [bs_size]; simp
    have HX : Hid ((bs (B.map chr)).extract 0 u.length = bs (u.map chr)) := by
      show _ = _
      rw [← str_bs, ← str_bs, HUB.out]; exact str_take
    obtain ⟨bb, hbb⟩ : ∃ bb, bb = bs (B.map chr) := ⟨_, rfl⟩
    obtain ⟨rr, hrr⟩ : ∃ rr, rr = bs (rest.map chr) := ⟨_, rfl⟩
    obtain ⟨uu, huu⟩ : ∃ uu, uu = bs (u.map chr) := ⟨_, rfl⟩
    have hul : u.length + rest.length ≤ 160 := by rw [← List.length_append, ← HUB.out]; exact hbl160
    rw [← hbb] at hnb HX ⊢
    rw [← hrr] at hnr ⊢
    rw [← huu] at HX ⊢
    obtain ⟨nu, hnu⟩ : ∃ nu, nu = u.length := ⟨_, rfl⟩
    obtain ⟨nr, hnr2⟩ : ∃ nr, nr = rest.length := ⟨_, rfl⟩
    have HL5 : Hid (∀ W, RdA W w1.heap.size ao2 ⟨rest, 0⟩ → Calls Try.prog 25 #[.pointer (some ⟨w1.heap.size, 0, none⟩)] W fun e w' => e = .returned (.int .i64 (nr : Int)) ∧ ∃ n, w' = W.drewN n) := fun W hW => by rw [hnr2]; exact aLeft _ _ _ W hW
    rw [← hnu] at hnb hul HX
    rw [← hnr2] at hnb hul hnr
    clear hb5 ho5 hl5 hrd ha16 hbb hrr huu hnu hnr2 HRR
    go_wp2_with fail
    refine HF5.out.mono ?_
    rintro e w6 ⟨rfl, rfl⟩
    go_wp2_with fail
    refine HS5.out.mono ?_
    rintro e w6 ⟨rfl, k6, rfl⟩
    have HL6 := Lib.hid (HL5.out _ (HR5.out.drewN k6))
    go_wp2_with fail
    refine HL6.out.mono ?_
    rintro e w7 ⟨rfl, k7, rfl⟩
    go_wp2
    go_ret
    refine ⟨?_, below_drewN HB5.out _⟩
    rw [HX.out]
    simp

theorem treeTakes (bo : Option Addr) (cap : Nat) (zs : List Nat) (size : Int) (w : World) (hz : ∀ z ∈ zs, z < 256) (hl : zs.length ≤ 9223372036854775807) (hd : BytesAt w bo zs) :
    Calls Try.prog 6 #[.slice bo zs.length cap, .int .i64 size] w fun e w' => e = .returned (.bool true) ∧ Below w.heap.size w w' := by
  by_cases h : zs.length ≤ 20
  · exact treeTakes_few bo cap zs size w hz hd h
  · exact treeTakes_much bo cap zs size w hl (by omega)
end Go.Proofs.Ytmgckfkdbepkdaa
