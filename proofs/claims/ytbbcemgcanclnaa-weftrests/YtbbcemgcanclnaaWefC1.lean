import Derived.Test.YtbbcemgcanclnaaWefE
import Derived.Test.YtbbcemgcanclnaaWefF3
namespace Go.Proofs.Ytbbcemgcanclnaa
open Go.RowKit Go.Proofs Go.Proofs.PipeM Go.Proofs.PipeA Go.Proofs.WefM
set_option maxRecDepth 100000

theorem inM_cases (most n : Int) : (decide (n < -most - 1) = true ∧ inM most n = false) ∨ (decide (n < -most - 1) = false ∧ decide (most < n) = true ∧ inM most n = false) ∨ (decide (n < -most - 1) = false ∧ decide (most < n) = false ∧ inM most n = true) := by
  unfold inM
  by_cases h1 : n < -most - 1
  · exact .inl ⟨decide_eq_true h1, decide_eq_false (by omega)⟩
  · by_cases h2 : most < n
    · exact .inr (.inl ⟨decide_eq_false h1, decide_eq_true h2, decide_eq_false (by omega)⟩)
    · exact .inr (.inr ⟨decide_eq_false h1, decide_eq_false h2, decide_eq_true (by omega)⟩)

theorem cOutsideW (n most : Int) (w : World) (hm : 0 ≤ most ∧ most ≤ 8388607) :
    Calls Try.prog 31 #[.int .i64 n, .int .i64 most] w fun e w' => e = .returned (.bool (!inM most n)) ∧ w = w' := by
  have wm : IntKind.i64.wrap (-most) = -most := IntWalk.i64_in _ (by omega)
  have wm1 : IntKind.i64.wrap (-most - 1) = -most - 1 := IntWalk.i64_in _ (by omega)
  rcases inM_cases most n with ⟨t1, t2⟩ | ⟨t1, t2, t3⟩ | ⟨t1, t2, t3⟩
  · have HT := Lib.hid t2
    clear t2 hm
    go_enter Try.func31, Try.ntmps31
    go_wp2
    go_ret
    exact ⟨by rw [HT.out]; rfl, rfl⟩
  · have HT := Lib.hid t3
    clear t3 hm
    go_enter Try.func31, Try.ntmps31
    go_wp2
    go_ret
    exact ⟨by rw [HT.out]; rfl, rfl⟩
  · have HT := Lib.hid t3
    clear t3 hm
    go_enter Try.func31, Try.ntmps31
    go_wp2
    go_ret
    exact ⟨by rw [HT.out]; rfl, rfl⟩

theorem inM_S (n : Int) : inM 8388607 n = inS n := by
  unfold inM inS
  exact decide_eq_decide.2 (by omega)

theorem cNoSampleW (n : Int) (w : World) :
    Calls Try.prog 41 #[.int .i64 n] w fun e w' => e = .returned (.bool (!inS n)) ∧ w = w' := by
  have HO := fun W => Lib.hid (cOutsideW n 8388607 W (by decide))
  simp only [inM_S] at HO
  generalize inS n = d at *
  go_enter Try.func41, Try.ntmps41
  go_wp2_with fail
  refine (HO _).out.mono ?_
  rintro e w1 ⟨rfl, rfl⟩
  go_wp2
  go_ret
  exact ⟨rfl, rfl⟩

theorem gIn_cases (n : Int) : (decide (n < -16) = true ∧ gIn n = false) ∨ (decide (n < -16) = false ∧ decide (15 < n) = true ∧ gIn n = false) ∨ (decide (n < -16) = false ∧ decide (15 < n) = false ∧ gIn n = true) := by
  unfold gIn
  by_cases h1 : n < -16
  · exact .inl ⟨decide_eq_true h1, decide_eq_false (by omega)⟩
  · by_cases h2 : 15 < n
    · exact .inr (.inl ⟨decide_eq_false h1, decide_eq_true h2, decide_eq_false (by omega)⟩)
    · exact .inr (.inr ⟨decide_eq_false h1, decide_eq_false h2, decide_eq_true (by omega)⟩)

theorem cNoGainW (n : Int) (w : World) :
    Calls Try.prog 48 #[.int .i64 n] w fun e w' => e = .returned (.bool (!gIn n)) ∧ w = w' := by
  rcases gIn_cases n with ⟨t1, t2⟩ | ⟨t1, t2, t3⟩ | ⟨t1, t2, t3⟩
  · have HT := Lib.hid t2
    clear t2
    go_enter Try.func48, Try.ntmps48
    go_wp2
    go_ret
    exact ⟨by rw [HT.out]; rfl, rfl⟩
  · have HT := Lib.hid t3
    clear t3
    go_enter Try.func48, Try.ntmps48
    go_wp2
    go_ret
    exact ⟨by rw [HT.out]; rfl, rfl⟩
  · have HT := Lib.hid t3
    clear t3
    go_enter Try.func48, Try.ntmps48
    go_wp2
    go_ret
    exact ⟨by rw [HT.out]; rfl, rfl⟩

/-- What a search for a number tells. -/
def FoundW (l : List Int) (f : Int → Bool) (k : Int) : Prop := decide (0 ≤ k) = l.any f
theorem any_takeW {f : Int → Bool} {l : List Int} {j : Nat} (h : j < l.length) : (l.take (j + 1)).any f = ((l.take j).any f || f l[j]) := by
  rw [List.take_succ_eq_append_getElem h, List.any_append]; simp
theorem any_notW (p : Int → Bool) (l : List Int) : l.any (fun n => !p n) = !l.all p := by rw [List.all_eq_not_any_not, Bool.not_not]

set_option maxHeartbeats 800000 in
theorem cIndexNoSample (ao : Option Addr) (cap : Nat) (l : List Int) (w : World) (hl : l.length ≤ 9223372036854775807) (hi : IntsAt w ao l) :
    Calls Try.prog 49 #[.slice ao l.length cap, .func (.func 41) #[] #[]] w fun e w' => ∃ k : Int, e = .returned (.int .i64 k) ∧ FoundW l (fun n => !inS n) k ∧ w = w' := by
  have HI := Lib.hid hi
  have HL := fun n W => Lib.hid (cNoSampleW n W)
  clear hi
  go_enter Try.func49, Try.ntmps49
  go_wp2
  go_loopg [5, 8] l.length (fun gk q i wr => ∃ c : Nat, c ≤ l.length ∧ gk + c = l.length ∧ i = .int .i64 c ∧ Hid ((l.take c).any (fun n => !inS n) = false) ∧ w = wr)
  case atStart => exact ⟨0, Nat.zero_le _, by omega, rfl, by simp [Hid], rfl⟩
  case round =>
    obtain ⟨c, hc, hgk, rfl, HT, rfl⟩ := hrel
    have HGK := Lib.hid hgk
    clear hgk
    by_cases hlt : c < l.length
    · obtain ⟨b, off, rfl, hg, hcell⟩ := HI.out c hlt
      have HNX := Lib.hid (any_takeW (f := fun n => !inS n) hlt)
      have HLC := fun W => Lib.hid (HL l[c] W).out
      have HMem : Hid (inS l[c] = false → l.any (fun n => !inS n) = true) := fun h => List.any_eq_true.2 ⟨l[c], List.getElem_mem hlt, by simp [h]⟩
      generalize l[c] = x at hcell HNX HLC HMem
      cases hx : inS x
      · have HM2 := Lib.hid (HMem.out hx)
        rw [hx] at HLC
        clear hx HMem HNX hg
        go_wp2_with fail
        refine (HLC _).out.mono ?_
        rintro e w1 ⟨rfl, rfl⟩
        go_wp2
        go_ret
        exact ⟨_, rfl, by unfold FoundW; rw [HM2.out]; exact decide_eq_true (by omega), rfl⟩
      · have HN2 : Hid ((l.take (c + 1)).any (fun n => !inS n) = false) := by show _ = _; rw [HNX.out, HT.out]; simp [hx]
        rw [hx] at HLC
        clear hx HMem HNX hg
        go_wp2_with fail
        refine (HLC _).out.mono ?_
        rintro e w1 ⟨rfl, rfl⟩
        go_wp2
        go_roundg (gk - 1)
        case rel => exact ⟨c + 1, by omega, by have := HGK.out; omega, by go_num, HN2, rfl⟩
        case measure => have := HGK.out; omega
    · obtain rfl : c = l.length := by omega
      have HA : Hid (l.any (fun n => !inS n) = false) := by have := HT.out; rw [List.take_length] at this; exact this
      go_wp2
      go_ret
      exact ⟨_, rfl, by unfold FoundW; rw [HA.out]; rfl, rfl⟩

set_option maxHeartbeats 400000 in
theorem cAnyNoSample (ao : Option Addr) (cap : Nat) (l : List Int) (w : World) (hl : l.length ≤ 9223372036854775807) (hi : IntsAt w ao l) :
    Calls Try.prog 40 #[.slice ao l.length cap, .func (.func 41) #[] #[]] w fun e w' => e = .returned (.bool (!l.all inS)) ∧ w = w' := by
  have HC := Lib.hid (cIndexNoSample ao cap l w hl hi)
  rw [← any_notW]
  obtain ⟨d, hd⟩ : ∃ d, d = l.any (fun n => !inS n) := ⟨_, rfl⟩
  rw [← hd]
  have HD := Lib.hid hd
  clear hi hd
  go_enter Try.func40, Try.ntmps40
  go_wp2_with fail
  refine HC.out.mono ?_
  rintro e w1 ⟨k, rfl, hf, rfl⟩
  unfold FoundW at hf
  rw [← HD.out] at hf
  go_wp2
  go_ret
  exact ⟨rfl, rfl⟩

set_option maxHeartbeats 800000 in
theorem cIndexNoGain (ao : Option Addr) (cap : Nat) (l : List Int) (w : World) (hl : l.length ≤ 9223372036854775807) (hi : IntsAt w ao l) :
    Calls Try.prog 49 #[.slice ao l.length cap, .func (.func 48) #[] #[]] w fun e w' => ∃ k : Int, e = .returned (.int .i64 k) ∧ FoundW l (fun n => !gIn n) k ∧ w = w' := by
  have HI := Lib.hid hi
  have HL := fun n W => Lib.hid (cNoGainW n W)
  clear hi
  go_enter Try.func49, Try.ntmps49
  go_wp2
  go_loopg [5, 8] l.length (fun gk q i wr => ∃ c : Nat, c ≤ l.length ∧ gk + c = l.length ∧ i = .int .i64 c ∧ Hid ((l.take c).any (fun n => !gIn n) = false) ∧ w = wr)
  case atStart => exact ⟨0, Nat.zero_le _, by omega, rfl, by simp [Hid], rfl⟩
  case round =>
    obtain ⟨c, hc, hgk, rfl, HT, rfl⟩ := hrel
    have HGK := Lib.hid hgk
    clear hgk
    by_cases hlt : c < l.length
    · obtain ⟨b, off, rfl, hg, hcell⟩ := HI.out c hlt
      have HNX := Lib.hid (any_takeW (f := fun n => !gIn n) hlt)
      have HLC := fun W => Lib.hid (HL l[c] W).out
      have HMem : Hid (gIn l[c] = false → l.any (fun n => !gIn n) = true) := fun h => List.any_eq_true.2 ⟨l[c], List.getElem_mem hlt, by simp [h]⟩
      generalize l[c] = x at hcell HNX HLC HMem
      cases hx : gIn x
      · have HM2 := Lib.hid (HMem.out hx)
        rw [hx] at HLC
        clear hx HMem HNX hg
        go_wp2_with fail
        refine (HLC _).out.mono ?_
        rintro e w1 ⟨rfl, rfl⟩
        go_wp2
        go_ret
        exact ⟨_, rfl, by unfold FoundW; rw [HM2.out]; exact decide_eq_true (by omega), rfl⟩
      · have HN2 : Hid ((l.take (c + 1)).any (fun n => !gIn n) = false) := by show _ = _; rw [HNX.out, HT.out]; simp [hx]
        rw [hx] at HLC
        clear hx HMem HNX hg
        go_wp2_with fail
        refine (HLC _).out.mono ?_
        rintro e w1 ⟨rfl, rfl⟩
        go_wp2
        go_roundg (gk - 1)
        case rel => exact ⟨c + 1, by omega, by have := HGK.out; omega, by go_num, HN2, rfl⟩
        case measure => have := HGK.out; omega
    · obtain rfl : c = l.length := by omega
      have HA : Hid (l.any (fun n => !gIn n) = false) := by have := HT.out; rw [List.take_length] at this; exact this
      go_wp2
      go_ret
      exact ⟨_, rfl, by unfold FoundW; rw [HA.out]; rfl, rfl⟩

set_option maxHeartbeats 400000 in
theorem cAnyNoGain (ao : Option Addr) (cap : Nat) (l : List Int) (w : World) (hl : l.length ≤ 9223372036854775807) (hi : IntsAt w ao l) :
    Calls Try.prog 40 #[.slice ao l.length cap, .func (.func 48) #[] #[]] w fun e w' => e = .returned (.bool (!l.all gIn)) ∧ w = w' := by
  have HC := Lib.hid (cIndexNoGain ao cap l w hl hi)
  rw [← any_notW]
  obtain ⟨d, hd⟩ : ∃ d, d = l.any (fun n => !gIn n) := ⟨_, rfl⟩
  rw [← hd]
  have HD := Lib.hid hd
  clear hi hd
  go_enter Try.func40, Try.ntmps40
  go_wp2_with fail
  refine HC.out.mono ?_
  rintro e w1 ⟨k, rfl, hf, rfl⟩
  unfold FoundW at hf
  rw [← HD.out] at hf
  go_wp2
  go_ret
  exact ⟨rfl, rfl⟩

end Go.Proofs.Ytbbcemgcanclnaa
