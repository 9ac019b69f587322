import Derived.Test.YtefbakhhlonafaaGxInts
import Derived.Test.YtefbakhhlonafaaLagM

section
namespace Go.Proofs.Ytefbakhhlonafaa.Gx
open Go.RowKit Go.Proofs Go.Proofs.PipeA Go.Proofs.LagM
set_option maxRecDepth 100000

/-- A term. -/
def termV (a g : Int) : Value := .agg #[.int .i64 a, .int .i64 g]

theorem inB_cases (n : Int) : (decide (n < -1099511627776) = true ∧ inB n = false) ∨ (decide (n < -1099511627776) = false ∧ decide (1099511627776 < n) = true ∧ inB n = false) ∨ (decide (n < -1099511627776) = false ∧ decide (1099511627776 < n) = false ∧ inB n = true) := by
  unfold inB
  by_cases h1 : n < -1099511627776
  · exact .inl ⟨decide_eq_true h1, decide_eq_false (by omega)⟩
  · by_cases h2 : 1099511627776 < n
    · exact .inr (.inl ⟨decide_eq_false h1, decide_eq_true h2, decide_eq_false (by omega)⟩)
    · exact .inr (.inr ⟨decide_eq_false h1, decide_eq_false h2, decide_eq_true (by omega)⟩)

theorem cOutside (n : Int) (w : World) :
    Calls Try.prog 79 #[.int .i64 n] w fun e w' => e = .returned (.bool (!inB n)) ∧ w = w' := by
  rcases inB_cases n with ⟨t1, t2⟩ | ⟨t1, t2, t3⟩ | ⟨t1, t2, t3⟩
  · have HT := Lib.hid t2
    clear t2
    go_enter Try.func79, Try.ntmps79
    go_wp2
    go_ret
    exact ⟨by rw [HT.out]; rfl, rfl⟩
  · have HT := Lib.hid t3
    clear t3
    go_enter Try.func79, Try.ntmps79
    go_wp2
    go_ret
    exact ⟨by rw [HT.out]; rfl, rfl⟩
  · have HT := Lib.hid t3
    clear t3
    go_enter Try.func79, Try.ntmps79
    go_wp2
    go_ret
    exact ⟨by rw [HT.out]; rfl, rfl⟩

/-- What a search for a number tells. -/
def Found (l : List Int) (f : Int → Bool) (k : Int) : Prop := decide (0 ≤ k) = l.any f
theorem any_take {f : Int → Bool} {l : List Int} {j : Nat} (h : j < l.length) : (l.take (j + 1)).any f = ((l.take j).any f || f l[j]) := by
  rw [List.take_succ_eq_append_getElem h, List.any_append]; simp
theorem any_not {f : Int → Bool} (l : List Int) : l.any (fun n => !f n) = !l.all f := by rw [List.all_eq_not_any_not, Bool.not_not]

set_option maxHeartbeats 800000 in
theorem cIndexFunc (ao : Option Addr) (cap : Nat) (l : List Int) (w : World) (hl : l.length ≤ 9223372036854775807) (hi : IntsAt w ao l) :
    Calls Try.prog 68 #[.slice ao l.length cap, .func (.func 79) #[] #[]] w fun e w' => ∃ k : Int, e = .returned (.int .i64 k) ∧ Found l (fun n => !inB n) k ∧ w = w' := by
  have HI := Lib.hid hi
  have HL := fun n W => Lib.hid (cOutside n W)
  clear hi
  go_enter Try.func68, Try.ntmps68
  go_wp2
  go_loopg [5, 8] l.length (fun gk q i wr => ∃ c : Nat, c ≤ l.length ∧ gk + c = l.length ∧ i = .int .i64 c ∧ Hid ((l.take c).any (fun n => !inB n) = false) ∧ w = wr)
  case atStart => exact ⟨0, Nat.zero_le _, by omega, rfl, by simp [Hid], rfl⟩
  case round =>
    obtain ⟨c, hc, hgk, rfl, HT, rfl⟩ := hrel
    have HGK := Lib.hid hgk
    clear hgk
    by_cases hlt : c < l.length
    · obtain ⟨b, off, rfl, hg, hcell⟩ := HI.out c hlt
      have HNX := Lib.hid (any_take (f := fun n => !inB n) hlt)
      have HLC := fun W => Lib.hid (HL l[c] W).out
      have HMem : Hid (inB l[c] = false → l.any (fun n => !inB n) = true) := fun h => List.any_eq_true.2 ⟨l[c], List.getElem_mem hlt, by simp [h]⟩
      generalize l[c] = x at hcell HNX HLC HMem
      cases hx : inB x
      · have HM2 := Lib.hid (HMem.out hx)
        rw [hx] at HLC
        clear hx HMem HNX hg
        go_wp2_with fail
        refine (HLC _).out.mono ?_
        rintro e w1 ⟨rfl, rfl⟩
        go_wp2
        go_ret
        exact ⟨_, rfl, by unfold Found; rw [HM2.out]; exact decide_eq_true (by omega), rfl⟩
      · have HN2 : Hid ((l.take (c + 1)).any (fun n => !inB n) = false) := by show _ = _; rw [HNX.out, HT.out]; simp [hx]
        rw [hx] at HLC
        clear hx HMem HNX hg
        go_wp2_with fail
        refine (HLC _).out.mono ?_
        rintro e w1 ⟨rfl, rfl⟩
        go_wp2
        go_roundg (gk - 1)
        case rel => exact ⟨c + 1, by omega, by have := HGK.out; omega, by go_num, HN2, rfl⟩
        case measure => have := HGK.out; omega
    · obtain rfl : c = l.length := by omega
      have HA : Hid (l.any (fun n => !inB n) = false) := by have := HT.out; rw [List.take_length] at this; exact this
      go_wp2
      go_ret
      exact ⟨_, rfl, by unfold Found; rw [HA.out]; rfl, rfl⟩

set_option maxHeartbeats 400000 in
theorem cContains (ao : Option Addr) (cap : Nat) (l : List Int) (w : World) (hl : l.length ≤ 9223372036854775807) (hi : IntsAt w ao l) :
    Calls Try.prog 44 #[.slice ao l.length cap, .func (.func 79) #[] #[]] w fun e w' => e = .returned (.bool (!l.all inB)) ∧ w = w' := by
  have HC := Lib.hid (cIndexFunc ao cap l w hl hi)
  rw [← any_not]
  obtain ⟨d, hd⟩ : ∃ d, d = l.any (fun n => !inB n) := ⟨_, rfl⟩
  rw [← hd]
  have HD := Lib.hid hd
  clear hi hd
  go_enter Try.func44, Try.ntmps44
  go_wp2_with fail
  refine HC.out.mono ?_
  rintro e w1 ⟨k, rfl, hf, rfl⟩
  unfold Found at hf
  rw [← HD.out] at hf
  go_wp2
  go_ret
  exact ⟨rfl, rfl⟩
end Go.Proofs.Ytefbakhhlonafaa.Gx
end

section
namespace Go.Proofs.Ytefbakhhlonafaa.Gx
open Go.RowKit Go.Proofs Go.Proofs.PipeA Go.Proofs.LagM
set_option maxRecDepth 100000

theorem goodT_cases (a g : Int) : (a = 0 ∧ g = 0 ∧ goodT a g = true) ∨
    ((a ≠ 0 ∨ g ≠ 0) ∧ a < 1 ∧ goodT a g = false) ∨ ((a ≠ 0 ∨ g ≠ 0) ∧ 1 ≤ a ∧ 255 < a ∧ goodT a g = false) ∨
    ((a ≠ 0 ∨ g ≠ 0) ∧ 1 ≤ a ∧ a ≤ 255 ∧ g < 1 ∧ goodT a g = false) ∨ ((a ≠ 0 ∨ g ≠ 0) ∧ 1 ≤ a ∧ a ≤ 255 ∧ 1 ≤ g ∧ 15 < g ∧ goodT a g = false) ∨
    ((a ≠ 0 ∨ g ≠ 0) ∧ 1 ≤ a ∧ a ≤ 255 ∧ 1 ≤ g ∧ g ≤ 15 ∧ goodT a g = true) := by
  have hT : goodT a g = true ↔ (a = 0 ∧ g = 0) ∨ (1 ≤ a ∧ a ≤ 255 ∧ 1 ≤ g ∧ g ≤ 15) := by
    unfold goodT
    simp only [Bool.or_eq_true, Bool.and_eq_true, decide_eq_true_eq]
    omega
  cases h : goodT a g
  · have : ¬ ((a = 0 ∧ g = 0) ∨ (1 ≤ a ∧ a ≤ 255 ∧ 1 ≤ g ∧ g ≤ 15)) := fun hc => by rw [hT.2 hc] at h; cases h
    simp only [Bool.false_eq_true, and_false, and_true, false_or, or_false]
    omega
  · have := hT.1 h
    simp only [Bool.true_eq_false, and_false, and_true, false_or]
    omega

set_option maxHeartbeats 800000 in
theorem cGood (a g : Int) (w : World) : Calls Try.prog 63 #[termV a g] w fun e w' => e = .returned (.bool (goodT a g)) ∧ Below w.heap.size w w' := by
  unfold termV
  have HB := Lib.hid (box_below w (.cells #[.int .i64 a, .int .i64 g] 82))
  rcases goodT_cases a g with ⟨h1, h2, h3⟩ | ⟨h0, h1, h3⟩ | ⟨h0, h1, h2, h3⟩ | ⟨h0, h1, h2, h4, h3⟩ | ⟨h0, h1, h2, h4, h5, h3⟩ | ⟨h0, h1, h2, h4, h5, h3⟩
  · subst h1 h2
    rw [h3]
    clear h3
    go_enter Try.func63, Try.ntmps63
    go_wp2
    go_ret
    exact ⟨rfl, HB.out⟩
  all_goals
    rw [h3]
    clear h3
    by_cases e1 : a = 0
    · first
      | (exfalso; omega)
      | (subst e1
         have t1 : (g == (0 : Int)) = false := by rw [beq_eq_false_iff_ne]; omega
         clear h0
         go_enter Try.func63, Try.ntmps63
         go_wp2
         go_ret
         exact ⟨rfl, HB.out⟩)
    · have t1 : (a == (0 : Int)) = false := by rw [beq_eq_false_iff_ne]; exact e1
      clear h0 e1
      go_enter Try.func63, Try.ntmps63
      go_wp2
      go_ret
      first
      | exact ⟨rfl, HB.out⟩
      | exact ⟨by rw [decide_eq_false (by omega)]; rfl, HB.out⟩
      | exact ⟨by rw [decide_eq_true (by omega)]; rfl, HB.out⟩

/-- What is wrong with a term, or with numbers. -/
def CheckIs (a g : Int) (l : List Int) (w : World) (e : Ending) (w' : World) : Prop := e = .returned (.int .i64 (codeT a g l)) ∧ Below w.heap.size w w'

set_option maxHeartbeats 800000 in
theorem cCheck (a g : Int) (ao : Option Addr) (cap : Nat) (l : List Int) (w : World) (hl : l.length ≤ 9223372036854775807) (hi : IntsAt w ao l) :
    Calls Try.prog 77 #[termV a g, .slice ao l.length cap] w (CheckIs a g l w) := by
  have HC := fun W h => Lib.hid (cContains ao cap l W hl h)
  have HI := Lib.hid hi
  have HG := fun W => Lib.hid (cGood a g W)
  unfold termV at HG ⊢
  have hb := box_below w (.cells #[.int .i64 a, .int .i64 g] 82)
  have HB := Lib.hid hb
  clear hi hb
  cases hg : goodT a g with
  | false =>
    have HF : Hid (∀ W, Below w.heap.size w W → CheckIs a g l w (.returned (.int .i64 1)) W) := fun W hW => ⟨by rw [codeT_good hg], hW⟩
    rw [hg] at HG
    clear hg
    go_enter Try.func77, Try.ntmps77
    go_wp2_with fail
    refine (HG _).out.mono ?_
    rintro e w1 ⟨rfl, hb1⟩
    have HB1 := Lib.hid (HB.out.trans (hb1.mono HB.out.size))
    clear hb1
    go_wp2
    go_ret
    exact HF.out _ HB1.out
  | true =>
    rw [hg] at HG
    cases ha : l.all inB with
    | false =>
      have HF : Hid (∀ W, Below w.heap.size w W → CheckIs a g l w (.returned (.int .i64 9)) W) := fun W hW => ⟨by rw [codeT_all hg ha], hW⟩
      rw [ha] at HC
      clear hg ha
      go_enter Try.func77, Try.ntmps77
      go_wp2_with fail
      refine (HG _).out.mono ?_
      rintro e w1 ⟨rfl, hb1⟩
      have HB1 := Lib.hid (HB.out.trans (hb1.mono HB.out.size))
      have HC1 := Lib.hid (HC w1 (HI.out.below HB1.out)).out
      clear hb1 HC
      go_wp2_with fail
      refine HC1.out.mono ?_
      rintro e w2 ⟨rfl, rfl⟩
      go_wp2
      go_ret
      exact HF.out _ HB1.out
    | true =>
      have HF : Hid (∀ W, Below w.heap.size w W → CheckIs a g l w (.returned (.int .i64 0)) W) := fun W hW => ⟨by rw [codeT_of hg ha], hW⟩
      rw [ha] at HC
      clear hg ha
      go_enter Try.func77, Try.ntmps77
      go_wp2_with fail
      refine (HG _).out.mono ?_
      rintro e w1 ⟨rfl, hb1⟩
      have HB1 := Lib.hid (HB.out.trans (hb1.mono HB.out.size))
      have HC1 := Lib.hid (HC w1 (HI.out.below HB1.out)).out
      clear hb1 HC
      go_wp2_with fail
      refine HC1.out.mono ?_
      rintro e w2 ⟨rfl, rfl⟩
      go_wp2
      go_ret
      exact HF.out _ HB1.out

set_option maxHeartbeats 800000 in
theorem cTaken (a g n : Int) (w : World) (hg : 0 ≤ g ∧ g ≤ 15) (hn : -1099511627776 ≤ n ∧ n ≤ 1099511627776) :
    Calls Try.prog 78 #[termV a g, .int .i64 n] w fun e w' => e = .returned (.int .i64 (tk g n)) ∧ Below w.heap.size w w' := by
  have HB := Lib.hid (box_below w (.cells #[.int .i64 a, .int .i64 g] 82))
  have hpb : -16492674416640 ≤ n * g ∧ n * g ≤ 16492674416640 := LagM.prod_bound hg hn
  have HW : Hid (wrap64 (n * g) / 16 = tk g n) := by show _ = _; rw [show wrap64 (n * g) = n * g from IntWalk.wrap64_in _ (by omega)]; rfl
  unfold termV
  clear hg hn hpb
  go_enter Try.func78, Try.ntmps78
  go_wp2
  go_ret
  refine ⟨?_, HB.out⟩
  show Ending.returned (Value.int .i64 (wrap64 (n * g) / 16)) = _
  rw [HW.out]
end Go.Proofs.Ytefbakhhlonafaa.Gx
end
