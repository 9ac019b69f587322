import Derived.Test.YtefbakhhlonafaaDoorFxInts
import Derived.Test.YtefbakhhlonafaaDoorLatM

namespace Go.Proofs.YtefbakhhlonafaaDoor.Fx
open Go.RowKit Go.Proofs Go.Proofs.PipeA Go.Proofs.LatM
set_option maxRecDepth 100000

theorem i64_and1 (n : Int) : bits .and .i64 n 1 = n % 2 := by
  have h1 : (BitVec.ofInt 64 1).toNat = 2 ^ 1 - 1 := by decide
  have key : (BitVec.ofInt 64 n &&& BitVec.ofInt 64 1).toNat = (n % ((2 ^ 64 : Nat) : Int)).toNat % 2 ^ 1 := by
    rw [BitVec.toNat_and, BitVec.toNat_ofInt, h1, Nat.and_two_pow_sub_one_eq_mod]
  show IntKind.i64.wrap ((BitVec.ofInt 64 n &&& BitVec.ofInt 64 1).toNat : Nat) = n % 2
  rw [key, IntKind.wrap_i64]
  omega

theorem cRound (p : Int) (w : World) (h0 : -9223372036854775808 ≤ p) (h1 : p ≤ 9223372036854775807) :
    Calls Tryd.prog 79 #[.int .i64 p] w fun e w' => e = .returned (.int .i64 (rnd p)) ∧ w = w' := by
  have e1 : bits BinOp.and IntKind.i64 (p / 8192) 1 = p / 8192 % 2 := i64_and1 _
  have e2 : p / 16384 + p / 8192 % 2 = rnd p := by unfold rnd; omega
  go_enter Tryd.func79, Tryd.ntmps79
  go_wp2
  go_ret
  refine ⟨?_, rfl⟩
  rw [← e2]
  simp

theorem cReflectionOf (p : Nat) (i : Int) (w : World) (hp : p ≤ 100) (hi : -64 ≤ i ∧ i ≤ 63) :
    Calls Tryd.prog 80 #[.int .i64 (p : Int), .int .i64 i] w fun e w' => e = .returned (.int .i64 (refl p i)) ∧ w = w' := by
  obtain ⟨u, rfl⟩ : ∃ u, i = u - 64 := ⟨i + 64, by omega⟩
  have hs := sq_bound (u := u) (by omega) (by omega)
  have e1 : u - 64 - -64 = u := by omega
  have e2 : u - 64 + 64 = u := by omega
  unfold refl
  rw [e2]
  by_cases h0 : p = 0
  · subst h0
    go_enter Tryd.func80, Tryd.ntmps80
    go_wp2
    go_ret
    exact ⟨by simp, rfl⟩
  · by_cases h1 : p = 1
    · subst h1
      go_enter Tryd.func80, Tryd.ntmps80
      go_wp2
      go_ret
      exact ⟨by simp, rfl⟩
    · rw [if_neg h0, if_neg h1]
      go_enter Tryd.func80, Tryd.ntmps80
      go_wp2
      go_ret
      exact ⟨by simp, rfl⟩

theorem ix_cases (n : Int) : (decide (n < -64) = true ∧ ix n = false) ∨ (decide (n < -64) = false ∧ decide (63 < n) = true ∧ ix n = false) ∨ (decide (n < -64) = false ∧ decide (63 < n) = false ∧ ix n = true) := by
  unfold ix
  by_cases h1 : n < -64
  · exact .inl ⟨decide_eq_true h1, decide_eq_false (by omega)⟩
  · by_cases h2 : 63 < n
    · exact .inr (.inl ⟨decide_eq_false h1, decide_eq_true h2, decide_eq_false (by omega)⟩)
    · exact .inr (.inr ⟨decide_eq_false h1, decide_eq_false h2, decide_eq_true (by omega)⟩)

theorem cIsNoIndex (n : Int) (w : World) :
    Calls Tryd.prog 62 #[.int .i64 n] w fun e w' => e = .returned (.bool (!ix n)) ∧ w = w' := by
  rcases ix_cases n with ⟨t1, t2⟩ | ⟨t1, t2, t3⟩ | ⟨t1, t2, t3⟩
  · have HT := Lib.hid t2
    clear t2
    go_enter Tryd.func62, Tryd.ntmps62
    go_wp2
    go_ret
    exact ⟨by rw [HT.out]; rfl, rfl⟩
  · have HT := Lib.hid t3
    clear t3
    go_enter Tryd.func62, Tryd.ntmps62
    go_wp2
    go_ret
    exact ⟨by rw [HT.out]; rfl, rfl⟩
  · have HT := Lib.hid t3
    clear t3
    go_enter Tryd.func62, Tryd.ntmps62
    go_wp2
    go_ret
    exact ⟨by rw [HT.out]; rfl, rfl⟩

theorem any_take {f : Int → Bool} {l : List Int} {c : Nat} (hc : c < l.length) : (l.take (c + 1)).any f = ((l.take c).any f || f l[c]) := by
  rw [List.take_succ_eq_append_getElem hc, List.any_append]; simp

def Found (l : List Int) (f : Int → Bool) (k : Int) : Prop := decide (0 ≤ k) = l.any f

set_option maxHeartbeats 800000 in
theorem cIndexFunc (ao : Option Addr) (cap : Nat) (l : List Int) (w : World) (hl : l.length ≤ 9223372036854775807) (hi : IntsAt w ao l) :
    Calls Tryd.prog 53 #[.slice ao l.length cap, .func (.func 62) #[] #[]] w fun e w' => ∃ k : Int, e = .returned (.int .i64 k) ∧ Found l (fun n => !ix n) k ∧ w = w' := by
  have HI := Lib.hid hi
  have HL := fun n W => Lib.hid (cIsNoIndex n W)
  clear hi
  go_enter Tryd.func53, Tryd.ntmps53
  go_wp2
  go_loopg [5, 8] l.length (fun gk q i wr => ∃ c : Nat, c ≤ l.length ∧ gk + c = l.length ∧ i = .int .i64 c ∧ Hid ((l.take c).any (fun n => !ix n) = false) ∧ w = wr)
  case atStart => exact ⟨0, Nat.zero_le _, by omega, rfl, by simp [Hid], rfl⟩
  case round =>
    obtain ⟨c, hc, hgk, rfl, HT, rfl⟩ := hrel
    have HGK := Lib.hid hgk
    clear hgk
    by_cases hlt : c < l.length
    · obtain ⟨b, off, rfl, hg, hcell⟩ := HI.out c hlt
      have HNX := Lib.hid (any_take (f := fun n => !ix n) hlt)
      have HLC := fun W => Lib.hid (HL l[c] W).out
      have HMem : Hid (ix l[c] = false → l.any (fun n => !ix n) = true) := fun h => List.any_eq_true.2 ⟨l[c], List.getElem_mem hlt, by simp [h]⟩
      generalize l[c] = x at hcell HNX HLC HMem
      cases hx : ix x
      · have HM2 := Lib.hid (HMem.out hx)
        rw [hx] at HLC
        clear hx HMem HNX hg
        go_wp2_with fail
        refine (HLC _).out.mono ?_
        rintro e w1 ⟨rfl, rfl⟩
        go_wp2
        go_ret
        exact ⟨_, rfl, by unfold Found; rw [HM2.out]; exact decide_eq_true (by omega), rfl⟩
      · have HN2 : Hid ((l.take (c + 1)).any (fun n => !ix n) = false) := by show _ = _; rw [HNX.out, HT.out]; simp [hx]
        rw [hx] at HLC
        clear hx HMem HNX hg
        go_wp2_with fail
        refine (HLC _).out.mono ?_
        rintro e w1 ⟨rfl, rfl⟩
        go_wp2
        go_roundg (gk - 1)
        case rel => exact ⟨c + 1, by omega, by have := HGK.out; omega, by go_num, HN2, rfl⟩
        case measure => have := HGK.out; omega
    · obtain rfl : c = l.length := by omega
      have HA : Hid (l.any (fun n => !ix n) = false) := by have := HT.out; rw [List.take_length] at this; exact this
      go_wp2
      go_ret
      exact ⟨_, rfl, by unfold Found; rw [HA.out]; rfl, rfl⟩

set_option maxHeartbeats 400000 in
theorem cContains (ao : Option Addr) (cap : Nat) (l : List Int) (w : World) (hl : l.length ≤ 9223372036854775807) (hi : IntsAt w ao l) :
    Calls Tryd.prog 37 #[.slice ao l.length cap, .func (.func 62) #[] #[]] w fun e w' => e = .returned (.bool (l.any (fun n => !ix n))) ∧ w = w' := by
  have HC := Lib.hid (cIndexFunc ao cap l w hl hi)
  obtain ⟨d, hd⟩ : ∃ d, d = l.any (fun n => !ix n) := ⟨_, rfl⟩
  rw [← hd]
  have HD := Lib.hid hd
  clear hi hd
  go_enter Tryd.func37, Tryd.ntmps37
  go_wp2_with fail
  refine HC.out.mono ?_
  rintro e w1 ⟨k, rfl, hf, rfl⟩
  unfold Found at hf
  rw [← HD.out] at hf
  go_wp2
  go_ret
  exact ⟨rfl, rfl⟩

theorem good_big {l : List Int} (h : ¬ l.length ≤ 16) : goodL l = false := by unfold goodL; rw [decide_eq_false h, Bool.and_false]
theorem good_small {l : List Int} (h : l.length ≤ 16) : goodL l = !(l.any (fun n => !ix n)) := by
  unfold goodL; rw [decide_eq_true h, Bool.and_true]
  exact List.all_eq_not_any_not

set_option maxHeartbeats 400000 in
theorem cGood (ao : Option Addr) (cap : Nat) (l : List Int) (w : World) (hl : l.length ≤ 9223372036854775807) (hi : IntsAt w ao l) :
    Calls Tryd.prog 46 #[.slice ao l.length cap] w fun e w' => e = .returned (.bool (goodL l)) ∧ w = w' := by
  have HC := Lib.hid (cContains ao cap l w hl hi)
  clear hi
  by_cases h : l.length ≤ 16
  · have HG := Lib.hid (good_small h)
    have t : decide ((l.length : Int) ≤ 16) = true := decide_eq_true (by omega)
    generalize l.any (fun n => !ix n) = d at HC HG
    generalize goodL l = g at HG
    clear h
    go_enter Tryd.func46, Tryd.ntmps46
    go_wp2_with fail
    refine HC.out.mono ?_
    rintro e w1 ⟨rfl, rfl⟩
    go_wp2
    go_ret
    exact ⟨by rw [HG.out]; rfl, rfl⟩
  · have HG := Lib.hid (good_big h)
    have t : decide ((l.length : Int) ≤ 16) = false := decide_eq_false (by omega)
    generalize goodL l = g at HG
    clear h HC
    go_enter Tryd.func46, Tryd.ntmps46
    go_wp2
    go_ret
    exact ⟨by rw [HG.out]; rfl, rfl⟩

end Go.Proofs.YtefbakhhlonafaaDoor.Fx
