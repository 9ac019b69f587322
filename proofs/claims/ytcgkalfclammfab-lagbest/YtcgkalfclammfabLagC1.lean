import Derived.Test.YtcgkalfclammfabInts
import Derived.Test.YtcgkalfclammfabLagM
namespace Go.Proofs.Ytcgkalfclammfab
open Go.RowKit Go.Proofs Go.Proofs.PipeA Go.Proofs.LagM
set_option maxRecDepth 100000

/-- A term. -/
def termV (a g : Int) : Value := .agg #[.int .i64 a, .int .i64 g]

theorem inB_cases (n : Int) : (decide (n < -1099511627776) = true ∧ inB n = false) ∨ (decide (n < -1099511627776) = false ∧ decide (1099511627776 < n) = true ∧ inB n = false) ∨ (decide (n < -1099511627776) = false ∧ decide (1099511627776 < n) = false ∧ inB n = true) := by
  unfold inB
  by_cases h1 : n < -1099511627776
  · exact .inl ⟨decide_eq_true h1, decide_eq_false (by omega)⟩
  · by_cases h2 : 1099511627776 < n
    · exact .inr (.inl ⟨decide_eq_false h1, decide_eq_true h2, decide_eq_false (by omega)⟩)
    · exact .inr (.inr ⟨decide_eq_false h1, decide_eq_false h2, decide_eq_true (by omega)⟩)

theorem cOutside (n : Int) (w : World) :
    Calls Try.prog 24 #[.int .i64 n] w fun e w' => e = .returned (.bool (!inB n)) ∧ w = w' := by
  rcases inB_cases n with ⟨t1, t2⟩ | ⟨t1, t2, t3⟩ | ⟨t1, t2, t3⟩
  · have HT := Lib.hid t2
    clear t2
    go_enter Try.func24, Try.ntmps24
    go_wp2
    go_ret
    exact ⟨by rw [HT.out]; rfl, rfl⟩
  · have HT := Lib.hid t3
    clear t3
    go_enter Try.func24, Try.ntmps24
    go_wp2
    go_ret
    exact ⟨by rw [HT.out]; rfl, rfl⟩
  · have HT := Lib.hid t3
    clear t3
    go_enter Try.func24, Try.ntmps24
    go_wp2
    go_ret
    exact ⟨by rw [HT.out]; rfl, rfl⟩

/-- What a search for a number tells. -/
def Found (l : List Int) (f : Int → Bool) (k : Int) : Prop := decide (0 ≤ k) = l.any f
theorem any_take {f : Int → Bool} {l : List Int} {j : Nat} (h : j < l.length) : (l.take (j + 1)).any f = ((l.take j).any f || f l[j]) := by
  rw [List.take_succ_eq_append_getElem h, List.any_append]; simp
theorem any_not {f : Int → Bool} (l : List Int) : l.any (fun n => !f n) = !l.all f := by rw [List.all_eq_not_any_not, Bool.not_not]

set_option maxHeartbeats 800000 in
theorem cIndexFunc (ao : Option Addr) (cap : Nat) (l : List Int) (w : World) (hl : l.length ≤ 9223372036854775807) (hi : IntsAt w ao l) :
    Calls Try.prog 28 #[.slice ao l.length cap, .func (.func 24) #[] #[]] w fun e w' => ∃ k : Int, e = .returned (.int .i64 k) ∧ Found l (fun n => !inB n) k ∧ w = w' := by
  have HI := Lib.hid hi
  have HL := fun n W => Lib.hid (cOutside n W)
  clear hi
  go_enter Try.func28, Try.ntmps28
  go_wp2
  go_loopg [5, 8] l.length (fun gk q i wr => ∃ c : Nat, c ≤ l.length ∧ gk + c = l.length ∧ i = .int .i64 c ∧ Hid ((l.take c).any (fun n => !inB n) = false) ∧ w = wr)
  case atStart => exact ⟨0, Nat.zero_le _, by omega, rfl, by simp [Hid], rfl⟩
  case round =>
    obtain ⟨c, hc, hgk, rfl, HT, rfl⟩ := hrel
    have HGK := Lib.hid hgk
    clear hgk
    by_cases hlt : c < l.length
    · obtain ⟨b, off, rfl, hg, hcell⟩ := HI.out c hlt
      have HNX := Lib.hid (any_take (f := fun n => !inB n) hlt)
      have HLC := fun W => Lib.hid (HL l[c] W).out
      have HMem : Hid (inB l[c] = false → l.any (fun n => !inB n) = true) := fun h => List.any_eq_true.2 ⟨l[c], List.getElem_mem hlt, by simp [h]⟩
      generalize l[c] = x at hcell HNX HLC HMem
      cases hx : inB x
      · have HM2 := Lib.hid (HMem.out hx)
        rw [hx] at HLC
        clear hx HMem HNX hg
        go_wp2_with fail
        refine (HLC _).out.mono ?_
        rintro e w1 ⟨rfl, rfl⟩
        go_wp2
        go_ret
        exact ⟨_, rfl, by unfold Found; rw [HM2.out]; exact decide_eq_true (by omega), rfl⟩
      · have HN2 : Hid ((l.take (c + 1)).any (fun n => !inB n) = false) := by show _ = _; rw [HNX.out, HT.out]; simp [hx]
        rw [hx] at HLC
        clear hx HMem HNX hg
        go_wp2_with fail
        refine (HLC _).out.mono ?_
        rintro e w1 ⟨rfl, rfl⟩
        go_wp2
        go_roundg (gk - 1)
        case rel => exact ⟨c + 1, by omega, by have := HGK.out; omega, by go_num, HN2, rfl⟩
        case measure => have := HGK.out; omega
    · obtain rfl : c = l.length := by omega
      have HA : Hid (l.any (fun n => !inB n) = false) := by have := HT.out; rw [List.take_length] at this; exact this
      go_wp2
      go_ret
      exact ⟨_, rfl, by unfold Found; rw [HA.out]; rfl, rfl⟩

set_option maxHeartbeats 400000 in
theorem cContains (ao : Option Addr) (cap : Nat) (l : List Int) (w : World) (hl : l.length ≤ 9223372036854775807) (hi : IntsAt w ao l) :
    Calls Try.prog 25 #[.slice ao l.length cap, .func (.func 24) #[] #[]] w fun e w' => e = .returned (.bool (!l.all inB)) ∧ w = w' := by
  have HC := Lib.hid (cIndexFunc ao cap l w hl hi)
  rw [← any_not]
  obtain ⟨d, hd⟩ : ∃ d, d = l.any (fun n => !inB n) := ⟨_, rfl⟩
  rw [← hd]
  have HD := Lib.hid hd
  clear hi hd
  go_enter Try.func25, Try.ntmps25
  go_wp2_with fail
  refine HC.out.mono ?_
  rintro e w1 ⟨k, rfl, hf, rfl⟩
  unfold Found at hf
  rw [← HD.out] at hf
  go_wp2
  go_ret
  exact ⟨rfl, rfl⟩
end Go.Proofs.Ytcgkalfclammfab
