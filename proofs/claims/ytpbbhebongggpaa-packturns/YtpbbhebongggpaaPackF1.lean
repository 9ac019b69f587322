import Derived.Test.YtpbbhebongggpaaPackC3
namespace Go.Proofs.Ytpbbhebongggpaa
open Go.RowKit Go.Proofs Go.Proofs.PipeM Go.Proofs.PipeA Go.Proofs.PackM
set_option maxRecDepth 100000

set_option maxHeartbeats 800000 in
theorem refSame (ao bo : Option Addr) (cap cap2 : Nat) (l m : List Int) (w : World) (hl : l.length ≤ 1000000000) (hi : IntsAt w ao l) (hj : IntsAt w bo m) :
    Calls Try.prog 22 #[.slice ao l.length cap, .slice bo m.length cap2] w fun e w' => e = .returned (.bool (decide (l = m))) ∧ ∃ k, w' = w.drewN k := by
  by_cases hlm : l.length = m.length
  · have HI := Lib.hid hi
    have HJ := Lib.hid hj
    have HLM := Lib.hid hlm
    have t1 : ((l.length : Int) != (m.length : Int)) = false := by rw [bne_eq_false_iff_eq]; omega
    obtain ⟨lm, hlm2⟩ : ∃ lm, lm = m.length := ⟨_, rfl⟩
    rw [← hlm2] at t1 ⊢
    have HLM2 := Lib.hid hlm2
    clear hi hj hlm hlm2
    go_enter Try.func22, Try.ntmps22
    go_wp2
    go_loopg [5, 13] l.length (fun gk q i wr => ∃ c d : Nat, c ≤ l.length ∧ gk + c = l.length ∧ i = .int .i64 c ∧ Hid (l.take c = m.take c) ∧ Hid (wr = w.drewN d))
    case atStart => exact ⟨0, 0, Nat.zero_le _, by omega, rfl, by show _ = _; simp, rfl⟩
    case round =>
      obtain ⟨c, d, hc, hgk, rfl, HT, HW⟩ := hrel
      have HGK := Lib.hid hgk
      clear hgk
      by_cases hlt : c < l.length
      · have hltm : c < m.length := by have := HLM.out; omega
        have hltm2 : c < lm := by have := HLM2.out; omega
        obtain ⟨g, off, rfl, hg, hcell⟩ := HI.out c hlt
        obtain ⟨g2, off2, rfl, hg2, hcell2⟩ := HJ.out c hltm
        have HNX : Hid (l[c] = m[c] → l.take (c + 1) = m.take (c + 1)) := by
          intro h
          rw [List.take_succ_eq_append_getElem hlt, List.take_succ_eq_append_getElem hltm, HT.out, h]
        have HNO : Hid (l[c] ≠ m[c] → decide (l = m) = false) := by
          intro h
          exact decide_eq_false (fun he => h (by subst he; rfl))
        obtain ⟨x, hx⟩ : ∃ x, x = l[c] := ⟨_, rfl⟩
        obtain ⟨y, hy⟩ : ∃ y, y = m[c] := ⟨_, rfl⟩
        rw [← hx] at hcell HNX HNO
        rw [← hy] at hcell2 HNX HNO
        have k1 : wr.cell? ⟨g, off + c, none⟩ = some (.int .i64 x) := by rw [HW.out]; exact hcell
        have k2 : wr.cell? ⟨g2, off2 + c, none⟩ = some (.int .i64 y) := by rw [HW.out]; exact hcell2
        clear hx hy hltm hg hg2 hcell hcell2
        by_cases he : x = y
        · have t2 : (x != y) = false := by simp [he]
          have HN2 := Lib.hid (HNX.out he)
          clear he
          go_wp2
          go_quiet (fail)
          go_wp2
          go_roundg (gk - 1)
          case rel => exact ⟨c + 1, _, by omega, by have := HGK.out; omega, by go_num, HN2, by show _ = _; rw [HW.out]; exact World.drewN_drewN _ _ _⟩
          case measure => have := HGK.out; omega
        · have t2 : (x != y) = true := by rw [bne_iff_ne]; exact he
          have HN2 := Lib.hid (HNO.out he)
          clear he
          go_wp2
          go_quiet (fail)
          go_wp2
          go_ret
          exact ⟨by rw [HN2.out]; rfl, _, by rw [HW.out]; exact World.drewN_drewN _ _ _⟩
      · obtain rfl : c = l.length := by omega
        have HA : Hid (decide (l = m) = true) := by
          apply decide_eq_true
          have := HT.out
          rw [List.take_length, HLM.out, List.take_length] at this
          exact this
        go_wp2
        go_ret
        exact ⟨by rw [HA.out]; rfl, _, HW.out⟩
  · have t1 : ((l.length : Int) != (m.length : Int)) = true := by rw [bne_iff_ne]; omega
    have HA : Hid (decide (l = m) = false) := decide_eq_false (fun he => hlm (by rw [he]))
    clear hlm
    go_enter Try.func22, Try.ntmps22
    go_wp2
    go_ret
    exact ⟨by rw [HA.out]; rfl, 0, rfl⟩

theorem pow_cast (m : Nat) : ((2 ^ m : Nat) : Int) = (2 : Int) ^ m := by rw [Int.natCast_pow]; rfl

theorem mod_pow (x : Int) (m : Nat) (h0 : -(2 ^ m) ≤ x) (h1 : x < 2 ^ m) : (x % 2 ^ m).toNat = if x < 0 then (x + 2 ^ m).toNat else x.toNat := by
  have hp := pow_cast m
  have hp2 := Nat.two_pow_pos m
  generalize (2 : Int) ^ m = P at *
  split
  · rename_i h
    have : x % P = x + P := by
      rw [← Int.add_emod_right, Int.emod_eq_of_lt (by omega) (by omega)]
    rw [this]
  · rw [Int.emod_eq_of_lt (by omega) (by omega)]

set_option maxHeartbeats 1000000 in
theorem refSigned (x : Int) (n : Nat) (w : World) (hn0 : 1 ≤ n) (hn : n ≤ 48) (h0 : -(2 ^ (n - 1)) ≤ x) (h1 : x < 2 ^ (n - 1)) :
    Calls Try.prog 38 #[.int .i64 x, .int .i64 n] w fun e w' => e = .returned (.string (str (low (x % 2 ^ n).toNat n))) ∧ Below w.heap.size w w' := by
  have hpc := pow_cast n
  have hpc1 := pow_cast (n - 1)
  have hdbl : 2 ^ n = 2 * 2 ^ (n - 1) := by
    have e : n = (n - 1) + 1 := by omega
    rw [e, Nat.pow_succ]; simp; omega
  have hq48 : 2 ^ n ≤ 2 ^ 48 := Nat.pow_le_pow_right (by decide) hn
  have hmp := mod_pow x n (by omega) (by omega)
  rw [hmp]
  have HP := fun W => Lib.hid (refPower n W (by omega))
  rw [← hpc]
  rw [← hpc1] at h0 h1
  obtain ⟨q, hq⟩ : ∃ q, q = 2 ^ n := ⟨_, rfl⟩
  obtain ⟨r, hr⟩ : ∃ r, r = 2 ^ (n - 1) := ⟨_, rfl⟩
  rw [← hq] at HP hq48 ⊢
  rw [← hr] at h0 h1
  have hq1 : q ≤ 2 * r := by omega
  have hq2 : 2 * r ≤ q := by omega
  clear hpc hpc1 hdbl hmp hq hr
  by_cases hx : x < 0
  · rw [if_pos hx]
    have e1 : x + (q : Int) = (((x + (q : Int)).toNat : Nat) : Int) := by omega
    have HE := Lib.hid e1
    have HR := fun W => Lib.hid (refPut (x + (q : Int)).toNat n W (by omega) (by omega))
    clear e1
    go_enter Try.func38, Try.ntmps38
    go_wp2_with fail
    refine (HP _).out.mono ?_
    rintro e w1 ⟨rfl, rfl⟩
    go_wp2_with fail
    rw [HE.out]
    refine (HR _).out.mono ?_
    rintro e w1 ⟨rfl, hb1⟩
    have HB1 := Lib.hid hb1
    clear hb1
    go_wp2
    go_ret
    exact ⟨rfl, HB1.out⟩
  · rw [if_neg hx]
    obtain ⟨y, rfl⟩ := Int.eq_ofNat_of_zero_le (show 0 ≤ x by omega)
    rw [Int.toNat_natCast]
    have HR := fun W => Lib.hid (refPut y n W (by omega) (by omega))
    go_enter Try.func38, Try.ntmps38
    go_wp2_with fail
    refine (HR _).out.mono ?_
    rintro e w1 ⟨rfl, hb1⟩
    have HB1 := Lib.hid hb1
    clear hb1
    go_wp2
    go_ret
    exact ⟨rfl, HB1.out⟩


theorem quiet_drew {P : Program} {f : FuncId} {args : Array Value} {w : World} {n : Nat} {v : Value}
    (h : Calls P f args (w.drewN n) fun e w' => e = .returned v ∧ ∃ k, w' = (w.drewN n).drewN k) : Calls P f args (w.drewN n) fun e w'' => e = .returned v ∧ ∃ m, w'' = w.drewN m :=
  h.mono fun _ _ ⟨he, k, hm⟩ => ⟨he, n + k, by rw [hm, World.drewN_drewN]⟩

set_option maxHeartbeats 1600000 in
theorem rSame (ao bo : Option Addr) (cap cap2 : Nat) (l m : List (List Int)) (w : World) (hl : l.length ≤ 1000000) (hr : ∀ r ∈ l, r.length ≤ 1000000) (hi : RowsAt w ao l) (hj : RowsAt w bo m) :
    Calls Try.prog 14 #[.slice ao l.length cap, .slice bo m.length cap2] w fun e w' => e = .returned (.bool (decide (l = m))) ∧ ∃ k, w' = w.drewN k := by
  by_cases hlm : l.length = m.length
  · have HI := Lib.hid hi
    have HJ := Lib.hid hj
    have HRR := Lib.hid hr
    have HLM := Lib.hid hlm
    have t1 : ((l.length : Int) != (m.length : Int)) = false := by rw [bne_eq_false_iff_eq]; omega
    obtain ⟨lm, hlm2⟩ : ∃ lm, lm = m.length := ⟨_, rfl⟩
    rw [← hlm2] at t1 ⊢
    have HLM2 := Lib.hid hlm2
    clear hi hj hlm hlm2 hr
    go_enter Try.func14, Try.ntmps14
    go_wp2
    go_loopg [5, 13] l.length (fun gk q i wr => ∃ c d : Nat, c ≤ l.length ∧ gk + c = l.length ∧ i = .int .i64 c ∧ Hid (l.take c = m.take c) ∧ Hid (wr = w.drewN d))
    case atStart => exact ⟨0, 0, Nat.zero_le _, by omega, rfl, by show _ = _; simp, rfl⟩
    case round =>
      obtain ⟨c, d, hc, hgk, rfl, HT, HW⟩ := hrel
      have HGK := Lib.hid hgk
      clear hgk
      by_cases hlt : c < l.length
      · have hltm : c < m.length := by have := HLM.out; omega
        have hltm2 : c < lm := by have := HLM2.out; omega
        obtain ⟨g, off, ro, rc, rfl, hg, hcell, hints⟩ := HI.out c hlt
        obtain ⟨g2, off2, ro2, rc2, rfl, hg2, hcell2, hints2⟩ := HJ.out c hltm
        have HNX : Hid (l[c] = m[c] → l.take (c + 1) = m.take (c + 1)) := by
          intro h
          rw [List.take_succ_eq_append_getElem hlt, List.take_succ_eq_append_getElem hltm, HT.out, h]
        have HNO : Hid (l[c] ≠ m[c] → decide (l = m) = false) := by
          intro h
          exact decide_eq_false (fun he => h (by subst he; rfl))
        have HSM : Hid (∀ n, Calls Try.prog 22 #[.slice ro l[c].length rc, .slice ro2 m[c].length rc2] (wr.drewN n) fun e w'' => e = .returned (.bool (decide (l[c] = m[c]))) ∧ ∃ m, w'' = wr.drewN m) := by
          intro n
          rw [HW.out]
          exact quiet_drew (refSame ro ro2 rc rc2 l[c] m[c] ((w.drewN d).drewN n) (by have := HRR.out _ (List.getElem_mem hlt); omega) hints hints2)
        have k1 : wr.cell? ⟨g, off + c, none⟩ = some (.slice ro l[c].length rc) := by rw [HW.out]; exact hcell
        have k2 : wr.cell? ⟨g2, off2 + c, none⟩ = some (.slice ro2 m[c].length rc2) := by rw [HW.out]; exact hcell2
        clear hg hg2 hcell hcell2 hints hints2
        by_cases he : l[c] = m[c]
        · have HN2 := Lib.hid (HNX.out he)
          have hd : decide (l[c] = m[c]) = true := decide_eq_true he
          rw [hd] at HSM
          clear hd HNX HNO
          generalize l[c].length = x at k1 HSM
          generalize m[c].length = y at k2 HSM
          clear he
          go_wp2
          go_quiet ((go_at_call 22; exact HSM.out _))
          go_wp2
          go_roundg (gk - 1)
          case rel => exact ⟨c + 1, _, by omega, by have := HGK.out; omega, by go_num, HN2, by show _ = _; rw [HW.out]; exact World.drewN_drewN _ _ _⟩
          case measure => have := HGK.out; omega
        · have HN2 := Lib.hid (HNO.out he)
          have hd : decide (l[c] = m[c]) = false := decide_eq_false he
          rw [hd] at HSM
          clear hd HNX HNO
          generalize l[c].length = x at k1 HSM
          generalize m[c].length = y at k2 HSM
          clear he
          go_wp2
          go_quiet ((go_at_call 22; exact HSM.out _))
          go_wp2
          go_ret
          exact ⟨by rw [HN2.out]; rfl, _, by rw [HW.out]; exact World.drewN_drewN _ _ _⟩
      · obtain rfl : c = l.length := by omega
        have HA : Hid (decide (l = m) = true) := by
          apply decide_eq_true
          have := HT.out
          rw [List.take_length, HLM.out, List.take_length] at this
          exact this
        go_wp2
        go_ret
        exact ⟨by rw [HA.out]; rfl, _, HW.out⟩
  · have t1 : ((l.length : Int) != (m.length : Int)) = true := by rw [bne_iff_ne]; omega
    have HA : Hid (decide (l = m) = false) := decide_eq_false (fun he => hlm (by rw [he]))
    clear hlm
    go_enter Try.func14, Try.ntmps14
    go_wp2
    go_ret
    exact ⟨by rw [HA.out]; rfl, 0, rfl⟩
end Go.Proofs.Ytpbbhebongggpaa
