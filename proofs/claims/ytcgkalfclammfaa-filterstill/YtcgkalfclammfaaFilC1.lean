import Derived.Test.YtcgkalfclammfaaLatC5
import Derived.Test.YtcgkalfclammfaaLatF
import Derived.Test.YtcgkalfclammfaaFilM
namespace Go.Proofs.Ytcgkalfclammfaa
open Go.RowKit Go.Proofs Go.Proofs.PipeA Go.Proofs.LatM Go.Proofs.FilM
set_option maxRecDepth 100000

theorem NoSample_cases (n : Int) : (decide (n < -67108864) = true ∧ isS n = false) ∨ (decide (n < -67108864) = false ∧ decide (67108864 < n) = true ∧ isS n = false) ∨ (decide (n < -67108864) = false ∧ decide (67108864 < n) = false ∧ isS n = true) := by
  unfold isS
  by_cases h1 : n < -67108864
  · exact .inl ⟨decide_eq_true h1, decide_eq_false (by omega)⟩
  · by_cases h2 : 67108864 < n
    · exact .inr (.inl ⟨decide_eq_false h1, decide_eq_true h2, decide_eq_false (by omega)⟩)
    · exact .inr (.inr ⟨decide_eq_false h1, decide_eq_false h2, decide_eq_true (by omega)⟩)

theorem cNoSample (n : Int) (w : World) :
    Calls Try.prog 21 #[.int .i64 n] w fun e w' => e = .returned (.bool (!isS n)) ∧ w = w' := by
  rcases NoSample_cases n with ⟨t1, t2⟩ | ⟨t1, t2, t3⟩ | ⟨t1, t2, t3⟩
  · have HT := Lib.hid t2
    clear t2
    go_enter Try.func21, Try.ntmps21
    go_wp2
    go_ret
    exact ⟨by rw [HT.out]; rfl, rfl⟩
  · have HT := Lib.hid t3
    clear t3
    go_enter Try.func21, Try.ntmps21
    go_wp2
    go_ret
    exact ⟨by rw [HT.out]; rfl, rfl⟩
  · have HT := Lib.hid t3
    clear t3
    go_enter Try.func21, Try.ntmps21
    go_wp2
    go_ret
    exact ⟨by rw [HT.out]; rfl, rfl⟩

set_option maxHeartbeats 800000 in
theorem cIndexFuncNoSample (ao : Option Addr) (cap : Nat) (l : List Int) (w : World) (hl : l.length ≤ 9223372036854775807) (hi : IntsAt w ao l) :
    Calls Try.prog 34 #[.slice ao l.length cap, .func (.func 21) #[] #[]] w fun e w' => ∃ k : Int, e = .returned (.int .i64 k) ∧ Found l (fun n => !isS n) k ∧ w = w' := by
  have HI := Lib.hid hi
  have HL := fun n W => Lib.hid (cNoSample n W)
  clear hi
  go_enter Try.func34, Try.ntmps34
  go_wp2
  go_loopg [5, 8] l.length (fun gk q i wr => ∃ c : Nat, c ≤ l.length ∧ gk + c = l.length ∧ i = .int .i64 c ∧ Hid ((l.take c).any (fun n => !isS n) = false) ∧ w = wr)
  case atStart => exact ⟨0, Nat.zero_le _, by omega, rfl, by simp [Hid], rfl⟩
  case round =>
    obtain ⟨c, hc, hgk, rfl, HT, rfl⟩ := hrel
    have HGK := Lib.hid hgk
    clear hgk
    by_cases hlt : c < l.length
    · obtain ⟨b, off, rfl, hg, hcell⟩ := HI.out c hlt
      have HNX := Lib.hid (any_take (f := fun n => !isS n) hlt)
      have HLC := fun W => Lib.hid (HL l[c] W).out
      have HMem : Hid (isS l[c] = false → l.any (fun n => !isS n) = true) := fun h => List.any_eq_true.2 ⟨l[c], List.getElem_mem hlt, by simp [h]⟩
      generalize l[c] = x at hcell HNX HLC HMem
      cases hx : isS x
      · have HM2 := Lib.hid (HMem.out hx)
        rw [hx] at HLC
        clear hx HMem HNX hg
        go_wp2_with fail
        refine (HLC _).out.mono ?_
        rintro e w1 ⟨rfl, rfl⟩
        go_wp2
        go_ret
        exact ⟨_, rfl, by unfold Found; rw [HM2.out]; exact decide_eq_true (by omega), rfl⟩
      · have HN2 : Hid ((l.take (c + 1)).any (fun n => !isS n) = false) := by show _ = _; rw [HNX.out, HT.out]; simp [hx]
        rw [hx] at HLC
        clear hx HMem HNX hg
        go_wp2_with fail
        refine (HLC _).out.mono ?_
        rintro e w1 ⟨rfl, rfl⟩
        go_wp2
        go_roundg (gk - 1)
        case rel => exact ⟨c + 1, by omega, by have := HGK.out; omega, by go_num, HN2, rfl⟩
        case measure => have := HGK.out; omega
    · obtain rfl : c = l.length := by omega
      have HA : Hid (l.any (fun n => !isS n) = false) := by have := HT.out; rw [List.take_length] at this; exact this
      go_wp2
      go_ret
      exact ⟨_, rfl, by unfold Found; rw [HA.out]; rfl, rfl⟩

set_option maxHeartbeats 400000 in
theorem cContainsNoSample (ao : Option Addr) (cap : Nat) (l : List Int) (w : World) (hl : l.length ≤ 9223372036854775807) (hi : IntsAt w ao l) :
    Calls Try.prog 20 #[.slice ao l.length cap, .func (.func 21) #[] #[]] w fun e w' => e = .returned (.bool (l.any (fun n => !isS n))) ∧ w = w' := by
  have HC := Lib.hid (cIndexFuncNoSample ao cap l w hl hi)
  obtain ⟨d, hd⟩ : ∃ d, d = l.any (fun n => !isS n) := ⟨_, rfl⟩
  rw [← hd]
  have HD := Lib.hid hd
  clear hi hd
  go_enter Try.func20, Try.ntmps20
  go_wp2_with fail
  refine HC.out.mono ?_
  rintro e w1 ⟨k, rfl, hf, rfl⟩
  unfold Found at hf
  rw [← HD.out] at hf
  go_wp2
  go_ret
  exact ⟨rfl, rfl⟩

theorem TooFar_cases (n : Int) : (decide (n < -1152921504606846976) = true ∧ isR n = false) ∨ (decide (n < -1152921504606846976) = false ∧ decide (1152921504606846976 < n) = true ∧ isR n = false) ∨ (decide (n < -1152921504606846976) = false ∧ decide (1152921504606846976 < n) = false ∧ isR n = true) := by
  unfold isR
  by_cases h1 : n < -1152921504606846976
  · exact .inl ⟨decide_eq_true h1, decide_eq_false (by omega)⟩
  · by_cases h2 : 1152921504606846976 < n
    · exact .inr (.inl ⟨decide_eq_false h1, decide_eq_true h2, decide_eq_false (by omega)⟩)
    · exact .inr (.inr ⟨decide_eq_false h1, decide_eq_false h2, decide_eq_true (by omega)⟩)

theorem cTooFar (n : Int) (w : World) :
    Calls Try.prog 26 #[.int .i64 n] w fun e w' => e = .returned (.bool (!isR n)) ∧ w = w' := by
  rcases TooFar_cases n with ⟨t1, t2⟩ | ⟨t1, t2, t3⟩ | ⟨t1, t2, t3⟩
  · have HT := Lib.hid t2
    clear t2
    go_enter Try.func26, Try.ntmps26
    go_wp2
    go_ret
    exact ⟨by rw [HT.out]; rfl, rfl⟩
  · have HT := Lib.hid t3
    clear t3
    go_enter Try.func26, Try.ntmps26
    go_wp2
    go_ret
    exact ⟨by rw [HT.out]; rfl, rfl⟩
  · have HT := Lib.hid t3
    clear t3
    go_enter Try.func26, Try.ntmps26
    go_wp2
    go_ret
    exact ⟨by rw [HT.out]; rfl, rfl⟩

set_option maxHeartbeats 800000 in
theorem cIndexFuncTooFar (ao : Option Addr) (cap : Nat) (l : List Int) (w : World) (hl : l.length ≤ 9223372036854775807) (hi : IntsAt w ao l) :
    Calls Try.prog 34 #[.slice ao l.length cap, .func (.func 26) #[] #[]] w fun e w' => ∃ k : Int, e = .returned (.int .i64 k) ∧ Found l (fun n => !isR n) k ∧ w = w' := by
  have HI := Lib.hid hi
  have HL := fun n W => Lib.hid (cTooFar n W)
  clear hi
  go_enter Try.func34, Try.ntmps34
  go_wp2
  go_loopg [5, 8] l.length (fun gk q i wr => ∃ c : Nat, c ≤ l.length ∧ gk + c = l.length ∧ i = .int .i64 c ∧ Hid ((l.take c).any (fun n => !isR n) = false) ∧ w = wr)
  case atStart => exact ⟨0, Nat.zero_le _, by omega, rfl, by simp [Hid], rfl⟩
  case round =>
    obtain ⟨c, hc, hgk, rfl, HT, rfl⟩ := hrel
    have HGK := Lib.hid hgk
    clear hgk
    by_cases hlt : c < l.length
    · obtain ⟨b, off, rfl, hg, hcell⟩ := HI.out c hlt
      have HNX := Lib.hid (any_take (f := fun n => !isR n) hlt)
      have HLC := fun W => Lib.hid (HL l[c] W).out
      have HMem : Hid (isR l[c] = false → l.any (fun n => !isR n) = true) := fun h => List.any_eq_true.2 ⟨l[c], List.getElem_mem hlt, by simp [h]⟩
      generalize l[c] = x at hcell HNX HLC HMem
      cases hx : isR x
      · have HM2 := Lib.hid (HMem.out hx)
        rw [hx] at HLC
        clear hx HMem HNX hg
        go_wp2_with fail
        refine (HLC _).out.mono ?_
        rintro e w1 ⟨rfl, rfl⟩
        go_wp2
        go_ret
        exact ⟨_, rfl, by unfold Found; rw [HM2.out]; exact decide_eq_true (by omega), rfl⟩
      · have HN2 : Hid ((l.take (c + 1)).any (fun n => !isR n) = false) := by show _ = _; rw [HNX.out, HT.out]; simp [hx]
        rw [hx] at HLC
        clear hx HMem HNX hg
        go_wp2_with fail
        refine (HLC _).out.mono ?_
        rintro e w1 ⟨rfl, rfl⟩
        go_wp2
        go_roundg (gk - 1)
        case rel => exact ⟨c + 1, by omega, by have := HGK.out; omega, by go_num, HN2, rfl⟩
        case measure => have := HGK.out; omega
    · obtain rfl : c = l.length := by omega
      have HA : Hid (l.any (fun n => !isR n) = false) := by have := HT.out; rw [List.take_length] at this; exact this
      go_wp2
      go_ret
      exact ⟨_, rfl, by unfold Found; rw [HA.out]; rfl, rfl⟩

set_option maxHeartbeats 400000 in
theorem cContainsTooFar (ao : Option Addr) (cap : Nat) (l : List Int) (w : World) (hl : l.length ≤ 9223372036854775807) (hi : IntsAt w ao l) :
    Calls Try.prog 20 #[.slice ao l.length cap, .func (.func 26) #[] #[]] w fun e w' => e = .returned (.bool (l.any (fun n => !isR n))) ∧ w = w' := by
  have HC := Lib.hid (cIndexFuncTooFar ao cap l w hl hi)
  obtain ⟨d, hd⟩ : ∃ d, d = l.any (fun n => !isR n) := ⟨_, rfl⟩
  rw [← hd]
  have HD := Lib.hid hd
  clear hi hd
  go_enter Try.func20, Try.ntmps20
  go_wp2_with fail
  refine HC.out.mono ?_
  rintro e w1 ⟨k, rfl, hf, rfl⟩
  unfold Found at hf
  rw [← HD.out] at hf
  go_wp2
  go_ret
  exact ⟨rfl, rfl⟩


theorem any_not {f : Int → Bool} (l : List Int) : l.any (fun n => !f n) = !l.all f := by rw [List.all_eq_not_any_not, Bool.not_not]
end Go.Proofs.Ytcgkalfclammfaa
