import Derived.Test.YtnfpkjnllkkngaaGreatDoorBlkB

namespace Go.Proofs.YtnfpkjnllkkngaaGreatDoor
open Go.RowKit Go.Proofs Go.Proofs.PipeM Go.Proofs.PipeA Go.Proofs.BlkM
set_option maxRecDepth 100000

/-- A row that may be written. -/
def Writable (W : World) (ao : Option Addr) (n : Nat) : Prop := ∀ b off, ao = some ⟨b, off, none⟩ → ∀ j, j < n → W.frozen? ⟨b, off + j, none⟩ = false
theorem Writable.keeps {W W' : World} {bs : List Nat} {b off n : Nat} (h : Writable W (some ⟨b, off, none⟩) n) (hk : Keeps bs W W') (hb : b < W.heap.size) (hn : b ∉ bs) : Writable W' (some ⟨b, off, none⟩) n := fun b' off' e j hj => by
  cases e
  rw [hk.frozen (p := ⟨b, off + j, none⟩) hb hn]
  exact h b off rfl j hj
theorem sizeN_cases (n : Int) : (decide (1 ≤ n) = false ∧ sizeN n = false) ∨ (decide (1 ≤ n) = true ∧ decide (n ≤ 1024) = false ∧ sizeN n = false) ∨ (decide (1 ≤ n) = true ∧ decide (n ≤ 1024) = true ∧ sizeN n = true) := by
  unfold sizeN
  by_cases h1 : 1 ≤ n
  · by_cases h2 : n ≤ 1024
    · exact .inr (.inr ⟨decide_eq_true h1, decide_eq_true h2, decide_eq_true (by omega)⟩)
    · exact .inr (.inl ⟨decide_eq_true h1, decide_eq_false h2, decide_eq_false (by omega)⟩)
  · exact .inl ⟨decide_eq_false h1, decide_eq_false (by omega)⟩
theorem cIsCount (n : Int) (w : World) :
    Calls Tryz.prog 39 #[.int .i64 n] w fun e w' => e = .returned (.bool (sizeN n)) ∧ w = w' := by
  rcases sizeN_cases n with ⟨h1, h2⟩ | ⟨h1, t, h2⟩ | ⟨h1, t, h2⟩
  all_goals
    rw [h2]
    clear h2
    go_enter Tryz.func39, Tryz.ntmps39
    go_wp2
    go_ret
    exact ⟨rfl, rfl⟩
theorem depthC_cases (d : Int) : (decide (8 ≤ d) = false ∧ depthB d = false) ∨ (decide (8 ≤ d) = true ∧ decide (d ≤ 26) = false ∧ depthB d = false) ∨ (decide (8 ≤ d) = true ∧ decide (d ≤ 26) = true ∧ depthB d = true) := by
  unfold depthB
  by_cases h1 : 8 ≤ d
  · by_cases h2 : d ≤ 26
    · exact .inr (.inr ⟨decide_eq_true h1, decide_eq_true h2, decide_eq_true (by omega)⟩)
    · exact .inr (.inl ⟨decide_eq_true h1, decide_eq_false h2, decide_eq_false (by omega)⟩)
  · exact .inl ⟨decide_eq_false h1, decide_eq_false (by omega)⟩
theorem cIsGood (d : Int) (w : World) :
    Calls Tryz.prog 40 #[.int .i64 d] w fun e w' => e = .returned (.bool (depthB d)) ∧ w = w' := by
  rcases depthC_cases d with ⟨h1, h2⟩ | ⟨h1, t, h2⟩ | ⟨h1, t, h2⟩
  all_goals
    rw [h2]
    clear h2
    go_enter Tryz.func40, Tryz.ntmps40
    go_wp2
    go_ret
    exact ⟨rfl, rfl⟩
/-- Is this a shift of samples of so many bits? -/
def shiftB (d s : Int) : Bool := decide (0 ≤ s ∧ s < d)
theorem shiftB_cases (d s : Int) : (decide (0 ≤ s) = false ∧ shiftB d s = false) ∨ (decide (0 ≤ s) = true ∧ decide (s < d) = false ∧ shiftB d s = false) ∨ (decide (0 ≤ s) = true ∧ decide (s < d) = true ∧ shiftB d s = true) := by
  unfold shiftB
  by_cases h1 : 0 ≤ s
  · by_cases h2 : s < d
    · exact .inr (.inr ⟨decide_eq_true h1, decide_eq_true h2, decide_eq_true ⟨h1, h2⟩⟩)
    · exact .inr (.inl ⟨decide_eq_true h1, decide_eq_false h2, decide_eq_false (fun h => h2 h.2)⟩)
  · exact .inl ⟨decide_eq_false h1, decide_eq_false (fun h => h1 h.1)⟩
theorem cHasShift (d s : Int) (w : World) :
    Calls Tryz.prog 14 #[.int .i64 d, .int .i64 s] w fun e w' => e = .returned (.bool (shiftB d s)) ∧ w = w' := by
  rcases shiftB_cases d s with ⟨h1, h2⟩ | ⟨h1, t, h2⟩ | ⟨h1, t, h2⟩
  all_goals
    rw [h2]
    clear h2
    go_enter Tryz.func14, Tryz.ntmps14
    go_wp2
    go_ret
    exact ⟨rfl, rfl⟩
/-- Is a Kind one of the four? -/
def kindB (k : Int) : Bool := decide (0 ≤ k ∧ k ≤ 3)
theorem cIsKind (k : Int) (w : World) :
    Calls Tryz.prog 55 #[.int .i64 k] w fun e w' => e = .returned (.bool (kindB k)) ∧ w = w' := by
  have h : k = 0 ∨ k = 1 ∨ k = 2 ∨ k = 3 ∨ ((k == 0) = false ∧ (k == 1) = false ∧ (k == 2) = false ∧ (k == 3) = false ∧ kindB k = false) := by
    by_cases h0 : k = 0
    · exact .inl h0
    by_cases h1 : k = 1
    · exact .inr (.inl h1)
    by_cases h2 : k = 2
    · exact .inr (.inr (.inl h2))
    by_cases h3 : k = 3
    · exact .inr (.inr (.inr (.inl h3)))
    · exact .inr (.inr (.inr (.inr ⟨beq_eq_false_iff_ne.2 h0, beq_eq_false_iff_ne.2 h1, beq_eq_false_iff_ne.2 h2, beq_eq_false_iff_ne.2 h3, decide_eq_false (by omega)⟩)))
  rcases h with rfl | rfl | rfl | rfl | ⟨t0, t1, t2, t3, hk⟩
  rotate_right
  · rw [hk]
    clear hk
    go_enter Tryz.func55, Tryz.ntmps55
    go_wp2
    go_ret
    exact ⟨rfl, rfl⟩
  all_goals
    go_enter Tryz.func55, Tryz.ntmps55
    go_wp2
    go_ret
    exact ⟨rfl, rfl⟩

theorem cMost (m : Nat) (w : World) (h1 : 8 ≤ m) (h2 : m ≤ 26) :
    Calls Tryz.prog 67 #[.int .i64 (m : Int)] w fun e w' => e = .returned (.int .i64 (halfOf (m : Int) - 1)) ∧ w = w' := by
  have h : m = 8 ∨ m = 9 ∨ m = 10 ∨ m = 11 ∨ m = 12 ∨ m = 13 ∨ m = 14 ∨ m = 15 ∨ m = 16 ∨ m = 17 ∨ m = 18 ∨ m = 19 ∨ m = 20 ∨ m = 21 ∨ m = 22 ∨ m = 23 ∨ m = 24 ∨ m = 25 ∨ m = 26 := by omega
  clear h1 h2
  rcases h with rfl | rfl | rfl | rfl | rfl | rfl | rfl | rfl | rfl | rfl | rfl | rfl | rfl | rfl | rfl | rfl | rfl | rfl | rfl
  all_goals
    go_enter Tryz.func67, Tryz.ntmps67
    go_wp2
    go_ret
    exact ⟨rfl, rfl⟩

set_option maxHeartbeats 800000 in
theorem cLacks (n : Int) (m : Nat) (w : World) (h1 : 8 ≤ m) (h2 : m ≤ 26) :
    Calls Tryz.prog 42 #[.int .i64 (m : Int), .int .i64 n] w fun e w' => e = .returned (.bool (!hasP (halfOf (m : Int)) n)) ∧ w = w' := by
  have HP := Lib.hid (cMost m w h1 h2)
  have hb := hp_bound h1 h2
  generalize halfOf (m : Int) = P at *
  have hwr : IntKind.i64.wrap (IntKind.i64.wrap (-(P - 1)) - 1) = -P := by
    rw [IntWalk.i64_in (-(P - 1)) (by omega), IntWalk.i64_in _ (by omega)]; omega
  have HWR := Lib.hid hwr
  have hwr1 : IntKind.i64.wrap (-(P - 1)) = 1 - P := by rw [IntWalk.i64_in _ (by omega)]; omega
  have hwr2 : IntKind.i64.wrap (1 - P - 1) = -P := by rw [IntWalk.i64_in _ (by omega)]; omega
  clear hwr
  by_cases a1 : n < -P
  · have t1 : decide (n < -P) = true := decide_eq_true a1
    have HF : Hid (hasP P n = false) := decide_eq_false (fun h => by omega)
    clear a1 hb
    go_enter Tryz.func42, Tryz.ntmps42
    go_wp2_with fail
    refine HP.out.mono ?_
    rintro e w1 ⟨rfl, rfl⟩
    go_wp2
    go_ret
    exact ⟨by rw [HF.out]; rfl, rfl⟩
  · have t1 : decide (n < -P) = false := decide_eq_false a1
    by_cases a2 : P - 1 < n
    · have t2 : decide (P - 1 < n) = true := decide_eq_true a2
      have HF : Hid (hasP P n = false) := decide_eq_false (fun h => by omega)
      clear a1 a2 hb
      go_enter Tryz.func42, Tryz.ntmps42
      go_wp2_with fail
      refine HP.out.mono ?_
      rintro e w1 ⟨rfl, rfl⟩
      go_wp2_with fail
      refine HP.out.mono ?_
      rintro e w1 ⟨rfl, rfl⟩
      go_wp2
      go_ret
      exact ⟨by rw [HF.out]; rfl, rfl⟩
    · have t2 : decide (P - 1 < n) = false := decide_eq_false a2
      have HF : Hid (hasP P n = true) := decide_eq_true (by omega)
      clear a1 a2 hb
      go_enter Tryz.func42, Tryz.ntmps42
      go_wp2_with fail
      refine HP.out.mono ?_
      rintro e w1 ⟨rfl, rfl⟩
      go_wp2_with fail
      refine HP.out.mono ?_
      rintro e w1 ⟨rfl, rfl⟩
      go_wp2
      go_ret
      exact ⟨by rw [HF.out]; rfl, rfl⟩

theorem b_any_take {f : Int → Bool} {l : List Int} {c : Nat} (hc : c < l.length) : (l.take (c + 1)).any f = ((l.take c).any f || f l[c]) := by
  rw [List.take_succ_eq_append_getElem hc, List.any_append]; simp
def FoundB (l : List Int) (f : Int → Bool) (k : Int) : Prop := decide (0 ≤ k) = l.any f

set_option maxHeartbeats 800000 in
theorem cIndexLacks (ao : Option Addr) (cap : Nat) (l : List Int) (m : Nat) (w : World) (h1 : 8 ≤ m) (h2 : m ≤ 26) (hl : l.length ≤ 9223372036854775807) (hi : IntsAt w ao l) :
    Calls Tryz.prog 66 #[.slice ao l.length cap, .func (.func 42) #[.int .i64 (m : Int)] #[]] w fun e w' => ∃ k : Int, e = .returned (.int .i64 k) ∧ FoundB l (fun n => !hasP (halfOf (m : Int)) n) k ∧ w = w' := by
  have HI := Lib.hid hi
  have HL := fun n W => Lib.hid (cLacks n m W h1 h2)
  clear hi
  generalize halfOf (m : Int) = P at *
  go_enter Tryz.func66, Tryz.ntmps66
  go_wp2
  go_loopg [5, 8] l.length (fun gk q i wr => ∃ c : Nat, c ≤ l.length ∧ gk + c = l.length ∧ i = .int .i64 c ∧ Hid ((l.take c).any (fun n => !hasP P n) = false) ∧ w = wr)
  case atStart => exact ⟨0, Nat.zero_le _, by omega, rfl, by simp [Hid], rfl⟩
  case round =>
    obtain ⟨c, hc, hgk, rfl, HT, rfl⟩ := hrel
    have HGK := Lib.hid hgk
    clear hgk
    by_cases hlt : c < l.length
    · obtain ⟨b, off, rfl, hg, hcell⟩ := HI.out c hlt
      have HNX := Lib.hid (b_any_take (f := fun n => !hasP P n) hlt)
      have HLC := fun W => Lib.hid (HL l[c] W).out
      have HMem : Hid (hasP P l[c] = false → l.any (fun n => !hasP P n) = true) := fun h => List.any_eq_true.2 ⟨l[c], List.getElem_mem hlt, by simp [h]⟩
      generalize l[c] = x at hcell HNX HLC HMem
      cases hx : hasP P x
      · have HM2 := Lib.hid (HMem.out hx)
        rw [hx] at HLC
        clear hx HMem HNX hg
        go_wp2_with fail
        refine (HLC _).out.mono ?_
        rintro e w1 ⟨rfl, rfl⟩
        go_wp2
        go_ret
        exact ⟨_, rfl, by unfold FoundB; rw [HM2.out]; exact decide_eq_true (by omega), rfl⟩
      · have HN2 : Hid ((l.take (c + 1)).any (fun n => !hasP P n) = false) := by show _ = _; rw [HNX.out, HT.out]; simp [hx]
        rw [hx] at HLC
        clear hx HMem HNX hg
        go_wp2_with fail
        refine (HLC _).out.mono ?_
        rintro e w1 ⟨rfl, rfl⟩
        go_wp2
        go_roundg (gk - 1)
        case rel => exact ⟨c + 1, by omega, by have := HGK.out; omega, by go_num, HN2, rfl⟩
        case measure => have := HGK.out; omega
    · obtain rfl : c = l.length := by omega
      have HA : Hid (l.any (fun n => !hasP P n) = false) := by have := HT.out; rw [List.take_length] at this; exact this
      go_wp2
      go_ret
      exact ⟨_, rfl, by unfold FoundB; rw [HA.out]; rfl, rfl⟩

set_option maxHeartbeats 400000 in
theorem cContainsLacks (ao : Option Addr) (cap : Nat) (l : List Int) (m : Nat) (w : World) (h1 : 8 ≤ m) (h2 : m ≤ 26) (hl : l.length ≤ 9223372036854775807) (hi : IntsAt w ao l) :
    Calls Tryz.prog 41 #[.slice ao l.length cap, .func (.func 42) #[.int .i64 (m : Int)] #[]] w fun e w' => e = .returned (.bool (l.any (fun n => !hasP (halfOf (m : Int)) n))) ∧ w = w' := by
  have HC := Lib.hid (cIndexLacks ao cap l m w h1 h2 hl hi)
  obtain ⟨d, hd⟩ : ∃ d, d = l.any (fun n => !hasP (halfOf (m : Int)) n) := ⟨_, rfl⟩
  rw [← hd]
  have HD := Lib.hid hd
  clear hi hd
  go_enter Tryz.func41, Tryz.ntmps41
  go_wp2_with fail
  refine HC.out.mono ?_
  rintro e w1 ⟨k, rfl, hf, rfl⟩
  unfold FoundB at hf
  rw [← HD.out] at hf
  go_wp2
  go_ret
  exact ⟨rfl, rfl⟩


/-- What is wrong with samples. -/
def chkB (l : List Int) (d : Int) : Int := if !(sizeN (l.length : Int) && depthB d) then 1 else if l.all (hasP (halfOf d)) then 0 else 9
theorem any_not_all (P : Int) (l : List Int) : l.any (fun n => !hasP P n) = !(l.all (hasP P)) := by
  induction l with
  | nil => rfl
  | cons x r ih => simp only [List.any_cons, List.all_cons, ih]; cases hasP P x <;> simp

set_option maxHeartbeats 800000 in
theorem cCheck (ao : Option Addr) (cap : Nat) (l : List Int) (d : Int) (w : World) (hl : l.length ≤ 1000000) (hi : IntsAt w ao l) :
    Calls Tryz.prog 13 #[.int .i64 d, .slice ao l.length cap] w fun e w' => e = .returned (.int .i64 (chkB l d)) ∧ w = w' := by
  have HS := Lib.hid (cIsCount (l.length : Int) w)
  have HG := Lib.hid (cIsGood d w)
  have HE : Hid (chkB l d = if !(sizeN (l.length : Int) && depthB d) then 1 else if l.all (hasP (halfOf d)) then 0 else 9) := rfl
  have HX : Hid (depthB d = true → ∃ m : Nat, d = m ∧ 8 ≤ m ∧ m ≤ 26) := fun h => depthB_of h
  have HI := Lib.hid hi
  clear hi
  cases hs : sizeN (l.length : Int) with
  | false =>
    rw [hs, if_pos (by rfl)] at HE
    rw [hs] at HS
    clear hs
    go_enter Tryz.func13, Tryz.ntmps13
    go_wp2_with fail
    refine HS.out.mono ?_
    rintro e w1 ⟨rfl, rfl⟩
    go_wp2
    go_ret
    exact ⟨by rw [HE.out]; rfl, rfl⟩
  | true =>
    cases hd : depthB d with
    | false =>
      rw [hs, hd, if_pos (by rfl)] at HE
      rw [hs] at HS
      rw [hd] at HG
      clear hs hd
      go_enter Tryz.func13, Tryz.ntmps13
      go_wp2_with fail
      refine HS.out.mono ?_
      rintro e w1 ⟨rfl, rfl⟩
      go_wp2_with fail
      refine HG.out.mono ?_
      rintro e w1 ⟨rfl, rfl⟩
      go_wp2
      go_ret
      exact ⟨by rw [HE.out]; rfl, rfl⟩
    | true =>
      obtain ⟨m, rfl, h1, h2⟩ := HX.out hd
      have HC := Lib.hid (cContainsLacks ao cap l m w h1 h2 (by omega) HI.out)
      rw [any_not_all] at HC
      rw [hs, hd, if_neg (by simp)] at HE
      rw [hs] at HS
      rw [hd] at HG
      clear hs hd HX h1 h2
      cases ha : l.all (hasP (halfOf (m : Int))) with
      | false =>
        rw [ha] at HE HC
        clear ha
        go_enter Tryz.func13, Tryz.ntmps13
        go_wp2_with fail
        refine HS.out.mono ?_
        rintro e w1 ⟨rfl, rfl⟩
        go_wp2_with fail
        refine HG.out.mono ?_
        rintro e w1 ⟨rfl, rfl⟩
        go_wp2_with fail
        refine HC.out.mono ?_
        rintro e w1 ⟨rfl, rfl⟩
        go_wp2
        go_ret
        exact ⟨by rw [HE.out]; rfl, rfl⟩
      | true =>
        rw [ha] at HE HC
        clear ha
        go_enter Tryz.func13, Tryz.ntmps13
        go_wp2_with fail
        refine HS.out.mono ?_
        rintro e w1 ⟨rfl, rfl⟩
        go_wp2_with fail
        refine HG.out.mono ?_
        rintro e w1 ⟨rfl, rfl⟩
        go_wp2_with fail
        refine HC.out.mono ?_
        rintro e w1 ⟨rfl, rfl⟩
        go_wp2
        go_ret
        exact ⟨by rw [HE.out]; rfl, rfl⟩
end Go.Proofs.YtnfpkjnllkkngaaGreatDoor
