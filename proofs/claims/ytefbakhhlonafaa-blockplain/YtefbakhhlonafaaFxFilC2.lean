import Derived.Deep.AppendLies
import Derived.Deep.RegionHeld3
import Derived.Test.YtefbakhhlonafaaFxLatC3
import Derived.Test.YtefbakhhlonafaaFxLatC5
import Derived.Test.YtefbakhhlonafaaLagM

section
namespace Go.Proofs.Ytefbakhhlonafaa.Fx
open Go.RowKit Go.Proofs Go.Proofs.PipeA Go.Proofs.LatM
set_option maxRecDepth 100000

end Go.Proofs.Ytefbakhhlonafaa.Fx
end

section
namespace Go.Proofs.Ytefbakhhlonafaa.Fx
open Go.RowKit Go.Proofs Go.Proofs.PipeA Go.Proofs.LatM Go.Proofs.FilM
set_option maxRecDepth 100000

theorem TooFar_cases (n : Int) : (decide (n < -1152921504606846976) = true ∧ isR n = false) ∨ (decide (n < -1152921504606846976) = false ∧ decide (1152921504606846976 < n) = true ∧ isR n = false) ∨ (decide (n < -1152921504606846976) = false ∧ decide (1152921504606846976 < n) = false ∧ isR n = true) := by
  unfold isR
  by_cases h1 : n < -1152921504606846976
  · exact .inl ⟨decide_eq_true h1, decide_eq_false (by omega)⟩
  · by_cases h2 : 1152921504606846976 < n
    · exact .inr (.inl ⟨decide_eq_false h1, decide_eq_true h2, decide_eq_false (by omega)⟩)
    · exact .inr (.inr ⟨decide_eq_false h1, decide_eq_false h2, decide_eq_true (by omega)⟩)

theorem cTooFar (n : Int) (w : World) :
    Calls Try.prog 80 #[.int .i64 n] w fun e w' => e = .returned (.bool (!isR n)) ∧ w = w' := by
  rcases TooFar_cases n with ⟨t1, t2⟩ | ⟨t1, t2, t3⟩ | ⟨t1, t2, t3⟩
  · have HT := Lib.hid t2
    clear t2
    go_enter Try.func80, Try.ntmps80
    go_wp2
    go_ret
    exact ⟨by rw [HT.out]; rfl, rfl⟩
  · have HT := Lib.hid t3
    clear t3
    go_enter Try.func80, Try.ntmps80
    go_wp2
    go_ret
    exact ⟨by rw [HT.out]; rfl, rfl⟩
  · have HT := Lib.hid t3
    clear t3
    go_enter Try.func80, Try.ntmps80
    go_wp2
    go_ret
    exact ⟨by rw [HT.out]; rfl, rfl⟩

set_option maxHeartbeats 800000 in
theorem cIndexFuncTooFar (ao : Option Addr) (cap : Nat) (l : List Int) (w : World) (hl : l.length ≤ 9223372036854775807) (hi : IntsAt w ao l) :
    Calls Try.prog 68 #[.slice ao l.length cap, .func (.func 80) #[] #[]] w fun e w' => ∃ k : Int, e = .returned (.int .i64 k) ∧ Found l (fun n => !isR n) k ∧ w = w' := by
  have HI := Lib.hid hi
  have HL := fun n W => Lib.hid (cTooFar n W)
  clear hi
  go_enter Try.func68, Try.ntmps68
  go_wp2
  go_loopg [5, 8] l.length (fun gk q i wr => ∃ c : Nat, c ≤ l.length ∧ gk + c = l.length ∧ i = .int .i64 c ∧ Hid ((l.take c).any (fun n => !isR n) = false) ∧ w = wr)
  case atStart => exact ⟨0, Nat.zero_le _, by omega, rfl, by simp [Hid], rfl⟩
  case round =>
    obtain ⟨c, hc, hgk, rfl, HT, rfl⟩ := hrel
    have HGK := Lib.hid hgk
    clear hgk
    by_cases hlt : c < l.length
    · obtain ⟨b, off, rfl, hg, hcell⟩ := HI.out c hlt
      have HNX := Lib.hid (any_take (f := fun n => !isR n) hlt)
      have HLC := fun W => Lib.hid (HL l[c] W).out
      have HMem : Hid (isR l[c] = false → l.any (fun n => !isR n) = true) := fun h => List.any_eq_true.2 ⟨l[c], List.getElem_mem hlt, by simp [h]⟩
      generalize l[c] = x at hcell HNX HLC HMem
      cases hx : isR x
      · have HM2 := Lib.hid (HMem.out hx)
        rw [hx] at HLC
        clear hx HMem HNX hg
        go_wp2_with fail
        refine (HLC _).out.mono ?_
        rintro e w1 ⟨rfl, rfl⟩
        go_wp2
        go_ret
        exact ⟨_, rfl, by unfold Found; rw [HM2.out]; exact decide_eq_true (by omega), rfl⟩
      · have HN2 : Hid ((l.take (c + 1)).any (fun n => !isR n) = false) := by show _ = _; rw [HNX.out, HT.out]; simp [hx]
        rw [hx] at HLC
        clear hx HMem HNX hg
        go_wp2_with fail
        refine (HLC _).out.mono ?_
        rintro e w1 ⟨rfl, rfl⟩
        go_wp2
        go_roundg (gk - 1)
        case rel => exact ⟨c + 1, by omega, by have := HGK.out; omega, by go_num, HN2, rfl⟩
        case measure => have := HGK.out; omega
    · obtain rfl : c = l.length := by omega
      have HA : Hid (l.any (fun n => !isR n) = false) := by have := HT.out; rw [List.take_length] at this; exact this
      go_wp2
      go_ret
      exact ⟨_, rfl, by unfold Found; rw [HA.out]; rfl, rfl⟩

set_option maxHeartbeats 400000 in
theorem cContainsTooFar (ao : Option Addr) (cap : Nat) (l : List Int) (w : World) (hl : l.length ≤ 9223372036854775807) (hi : IntsAt w ao l) :
    Calls Try.prog 44 #[.slice ao l.length cap, .func (.func 80) #[] #[]] w fun e w' => e = .returned (.bool (l.any (fun n => !isR n))) ∧ w = w' := by
  have HC := Lib.hid (cIndexFuncTooFar ao cap l w hl hi)
  obtain ⟨d, hd⟩ : ∃ d, d = l.any (fun n => !isR n) := ⟨_, rfl⟩
  rw [← hd]
  have HD := Lib.hid hd
  clear hi hd
  go_enter Try.func44, Try.ntmps44
  go_wp2_with fail
  refine HC.out.mono ?_
  rintro e w1 ⟨k, rfl, hf, rfl⟩
  unfold Found at hf
  rw [← HD.out] at hf
  go_wp2
  go_ret
  exact ⟨rfl, rfl⟩


theorem any_not {f : Int → Bool} (l : List Int) : l.any (fun n => !f n) = !l.all f := by rw [List.all_eq_not_any_not, Bool.not_not]
end Go.Proofs.Ytefbakhhlonafaa.Fx
end

section
namespace Go.Proofs.Ytefbakhhlonafaa.Fx
open Go.RowKit Go.Proofs Go.Proofs.PipeA Go.Proofs.LatM Go.Proofs.FilM
set_option maxRecDepth 100000

/-- A predictor: the coefficients behind each number of first indices, up to m. -/
structure PredAt (w : World) (G : Nat) (l : List Int) (m : Nat) : Prop where
  lt : G < w.heap.size
  row : ∀ j, j ≤ m → ∃ ao cap, w.cell? ⟨G, j, none⟩ = some (.slice ao j cap) ∧ IntsAt w ao (cf l j)
theorem PredAt.below {w w' : World} {G : Nat} {l : List Int} {m : Nat} (h : PredAt w G l m) (hb : Below w.heap.size w w') : PredAt w' G l m :=
  ⟨Nat.lt_of_lt_of_le h.lt hb.size, fun j hj => by
    obtain ⟨ao, cap, h1, h2⟩ := h.row j hj
    exact ⟨ao, cap, (hb.cell (p := ⟨G, j, none⟩) h.lt).trans h1, h2.below hb⟩⟩
/-- What a predictor of the first m indices foresees. -/
def foreM (l : List Int) (m : Nat) (p : List Int) : Int := pred (cf l (min p.length m)) p
theorem foreM_all {l : List Int} (p : List Int) : foreM l l.length p = fore l p := by unfold foreM fore; rw [Nat.min_comm]
set_option maxHeartbeats 1600000 in
theorem cForeseen (G pcap m : Nat) (ao : Option Addr) (cap : Nat) (l p : List Int) (w : World) (hg : goodL l = true) (hm : m ≤ 16) (hpl : p.length ≤ 100000000) (hp : ∀ y ∈ p, -67108865 ≤ y ∧ y ≤ 67108864) (hP : PredAt w G l m) (hi : IntsAt w ao p) :
    Calls Try.prog 82 #[.slice (some ⟨G, 0, none⟩) (m + 1) pcap, .slice ao p.length cap] w fun e w' => e = .returned (.int .i64 (foreM l m p)) ∧ ∃ k, w' = w.drewN k := by
  obtain ⟨q, hq⟩ : ∃ q, q = min p.length m := ⟨_, rfl⟩
  obtain ⟨co, ccap, hc, hci⟩ := hP.row q (by omega)
  have HC : Hid (Calls Try.prog 96 #[.slice co q ccap, .slice ao p.length cap] w fun e w' => e = .returned (.int .i64 (foreM l m p)) ∧ ∃ k, w' = w.drewN k) := by
    have := cPredictP co ao ccap cap (cf l q) p w ⟨by rw [cf_length]; omega, hpl, prod_small hg (by omega) hp⟩ hci hi
    rw [cf_length] at this
    unfold foreM
    rw [← hq]
    exact this
  generalize foreM l m p = r at HC
  have e1 : ((m + 1 : Nat) : Int) - 1 = (m : Int) := by omega
  clear hP hi hci hp hg
  rcases Nat.lt_or_ge m p.length with h | h
  · obtain rfl : q = m := by omega
    clear hq
    go_enter Try.func82, Try.ntmps82
    go_wp2_with fail
    refine HC.out.mono ?_
    rintro e w1 ⟨rfl, hk⟩
    go_wp2
    go_ret
    exact ⟨rfl, hk⟩
  · obtain rfl : q = p.length := by omega
    clear hq
    go_enter Try.func82, Try.ntmps82
    go_wp2_with fail
    refine HC.out.mono ?_
    rintro e w1 ⟨rfl, hk⟩
    go_wp2
    go_ret
    exact ⟨rfl, hk⟩

theorem IntsAt.take {w : World} {ao : Option Addr} {l : List Int} (h : IntsAt w ao l) (n : Nat) : IntsAt w ao (l.take n) := by
  intro j hj
  rw [List.length_take] at hj
  obtain ⟨b, off, h1, h2, h3⟩ := h j (by omega)
  exact ⟨b, off, h1, h2, by rw [h3, List.getElem_take]⟩
end Go.Proofs.Ytefbakhhlonafaa.Fx
end
