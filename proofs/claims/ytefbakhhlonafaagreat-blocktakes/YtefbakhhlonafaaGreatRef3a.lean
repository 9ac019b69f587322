import Derived.Test.YtefbakhhlonafaaGreatBlkB
import Derived.Test.YtefbakhhlonafaaGreatReader
import Derived.Test.YtefbakhhlonafaaGreatReader5
import Derived.Test.YtefbakhhlonafaaGreatRef2

section
namespace Go.Proofs.YtefbakhhlonafaaGreat
open Go.RowKit Go.Proofs Go.Proofs.PipeM Go.Proofs.PipeA Go.Proofs.BlkM
set_option maxRecDepth 100000

/-- A row that may be written. -/
def Writable (W : World) (ao : Option Addr) (n : Nat) : Prop := ∀ b off, ao = some ⟨b, off, none⟩ → ∀ j, j < n → W.frozen? ⟨b, off + j, none⟩ = false
theorem Writable.keeps {W W' : World} {bs : List Nat} {b off n : Nat} (h : Writable W (some ⟨b, off, none⟩) n) (hk : Keeps bs W W') (hb : b < W.heap.size) (hn : b ∉ bs) : Writable W' (some ⟨b, off, none⟩) n := fun b' off' e j hj => by
  cases e
  rw [hk.frozen (p := ⟨b, off + j, none⟩) hb hn]
  exact h b off rfl j hj
theorem sizeN_cases (n : Int) : (decide (1 ≤ n) = false ∧ sizeN n = false) ∨ (decide (1 ≤ n) = true ∧ decide (n ≤ 1024) = false ∧ sizeN n = false) ∨ (decide (1 ≤ n) = true ∧ decide (n ≤ 1024) = true ∧ sizeN n = true) := by
  unfold sizeN
  by_cases h1 : 1 ≤ n
  · by_cases h2 : n ≤ 1024
    · exact .inr (.inr ⟨decide_eq_true h1, decide_eq_true h2, decide_eq_true (by omega)⟩)
    · exact .inr (.inl ⟨decide_eq_true h1, decide_eq_false h2, decide_eq_false (by omega)⟩)
  · exact .inl ⟨decide_eq_false h1, decide_eq_false (by omega)⟩
theorem cIsCount (n : Int) (w : World) :
    Calls Tryz.prog 44 #[.int .i64 n] w fun e w' => e = .returned (.bool (sizeN n)) ∧ w = w' := by
  rcases sizeN_cases n with ⟨h1, h2⟩ | ⟨h1, t, h2⟩ | ⟨h1, t, h2⟩
  all_goals
    rw [h2]
    clear h2
    go_enter Tryz.func44, Tryz.ntmps44
    go_wp2
    go_ret
    exact ⟨rfl, rfl⟩
theorem depthC_cases (d : Int) : (decide (8 ≤ d) = false ∧ depthB d = false) ∨ (decide (8 ≤ d) = true ∧ decide (d ≤ 26) = false ∧ depthB d = false) ∨ (decide (8 ≤ d) = true ∧ decide (d ≤ 26) = true ∧ depthB d = true) := by
  unfold depthB
  by_cases h1 : 8 ≤ d
  · by_cases h2 : d ≤ 26
    · exact .inr (.inr ⟨decide_eq_true h1, decide_eq_true h2, decide_eq_true (by omega)⟩)
    · exact .inr (.inl ⟨decide_eq_true h1, decide_eq_false h2, decide_eq_false (by omega)⟩)
  · exact .inl ⟨decide_eq_false h1, decide_eq_false (by omega)⟩
theorem cIsGood (d : Int) (w : World) :
    Calls Tryz.prog 45 #[.int .i64 d] w fun e w' => e = .returned (.bool (depthB d)) ∧ w = w' := by
  rcases depthC_cases d with ⟨h1, h2⟩ | ⟨h1, t, h2⟩ | ⟨h1, t, h2⟩
  all_goals
    rw [h2]
    clear h2
    go_enter Tryz.func45, Tryz.ntmps45
    go_wp2
    go_ret
    exact ⟨rfl, rfl⟩
/-- Is this a shift of samples of so many bits? -/
def shiftB (d s : Int) : Bool := decide (0 ≤ s ∧ s < d)
theorem shiftB_cases (d s : Int) : (decide (0 ≤ s) = false ∧ shiftB d s = false) ∨ (decide (0 ≤ s) = true ∧ decide (s < d) = false ∧ shiftB d s = false) ∨ (decide (0 ≤ s) = true ∧ decide (s < d) = true ∧ shiftB d s = true) := by
  unfold shiftB
  by_cases h1 : 0 ≤ s
  · by_cases h2 : s < d
    · exact .inr (.inr ⟨decide_eq_true h1, decide_eq_true h2, decide_eq_true ⟨h1, h2⟩⟩)
    · exact .inr (.inl ⟨decide_eq_true h1, decide_eq_false h2, decide_eq_false (fun h => h2 h.2)⟩)
  · exact .inl ⟨decide_eq_false h1, decide_eq_false (fun h => h1 h.1)⟩
theorem cHasShift (d s : Int) (w : World) :
    Calls Tryz.prog 113 #[.int .i64 d, .int .i64 s] w fun e w' => e = .returned (.bool (shiftB d s)) ∧ w = w' := by
  rcases shiftB_cases d s with ⟨h1, h2⟩ | ⟨h1, t, h2⟩ | ⟨h1, t, h2⟩
  all_goals
    rw [h2]
    clear h2
    go_enter Tryz.func113, Tryz.ntmps113
    go_wp2
    go_ret
    exact ⟨rfl, rfl⟩
/-- Is a Kind one of the four? -/
def kindB (k : Int) : Bool := decide (0 ≤ k ∧ k ≤ 3)
theorem cIsKind (k : Int) (w : World) :
    Calls Tryz.prog 92 #[.int .i64 k] w fun e w' => e = .returned (.bool (kindB k)) ∧ w = w' := by
  have h : k = 0 ∨ k = 1 ∨ k = 2 ∨ k = 3 ∨ ((k == 0) = false ∧ (k == 1) = false ∧ (k == 2) = false ∧ (k == 3) = false ∧ kindB k = false) := by
    by_cases h0 : k = 0
    · exact .inl h0
    by_cases h1 : k = 1
    · exact .inr (.inl h1)
    by_cases h2 : k = 2
    · exact .inr (.inr (.inl h2))
    by_cases h3 : k = 3
    · exact .inr (.inr (.inr (.inl h3)))
    · exact .inr (.inr (.inr (.inr ⟨beq_eq_false_iff_ne.2 h0, beq_eq_false_iff_ne.2 h1, beq_eq_false_iff_ne.2 h2, beq_eq_false_iff_ne.2 h3, decide_eq_false (by omega)⟩)))
  rcases h with rfl | rfl | rfl | rfl | ⟨t0, t1, t2, t3, hk⟩
  rotate_right
  · rw [hk]
    clear hk
    go_enter Tryz.func92, Tryz.ntmps92
    go_wp2
    go_ret
    exact ⟨rfl, rfl⟩
  all_goals
    go_enter Tryz.func92, Tryz.ntmps92
    go_wp2
    go_ret
    exact ⟨rfl, rfl⟩

theorem cMost (m : Nat) (w : World) (h1 : 8 ≤ m) (h2 : m ≤ 26) :
    Calls Tryz.prog 118 #[.int .i64 (m : Int)] w fun e w' => e = .returned (.int .i64 (halfOf (m : Int) - 1)) ∧ w = w' := by
  have h : m = 8 ∨ m = 9 ∨ m = 10 ∨ m = 11 ∨ m = 12 ∨ m = 13 ∨ m = 14 ∨ m = 15 ∨ m = 16 ∨ m = 17 ∨ m = 18 ∨ m = 19 ∨ m = 20 ∨ m = 21 ∨ m = 22 ∨ m = 23 ∨ m = 24 ∨ m = 25 ∨ m = 26 := by omega
  clear h1 h2
  rcases h with rfl | rfl | rfl | rfl | rfl | rfl | rfl | rfl | rfl | rfl | rfl | rfl | rfl | rfl | rfl | rfl | rfl | rfl | rfl
  all_goals
    go_enter Tryz.func118, Tryz.ntmps118
    go_wp2
    go_ret
    exact ⟨rfl, rfl⟩

set_option maxHeartbeats 800000 in
theorem cLacks (n : Int) (m : Nat) (w : World) (h1 : 8 ≤ m) (h2 : m ≤ 26) :
    Calls Tryz.prog 99 #[.int .i64 (m : Int), .int .i64 n] w fun e w' => e = .returned (.bool (!hasP (halfOf (m : Int)) n)) ∧ w = w' := by
  have HP := Lib.hid (cMost m w h1 h2)
  have hb := hp_bound h1 h2
  generalize halfOf (m : Int) = P at *
  have hwr : IntKind.i64.wrap (IntKind.i64.wrap (-(P - 1)) - 1) = -P := by
    rw [IntWalk.i64_in (-(P - 1)) (by omega), IntWalk.i64_in _ (by omega)]; omega
  have HWR := Lib.hid hwr
  have hwr1 : IntKind.i64.wrap (-(P - 1)) = 1 - P := by rw [IntWalk.i64_in _ (by omega)]; omega
  have hwr2 : IntKind.i64.wrap (1 - P - 1) = -P := by rw [IntWalk.i64_in _ (by omega)]; omega
  clear hwr
  by_cases a1 : n < -P
  · have t1 : decide (n < -P) = true := decide_eq_true a1
    have HF : Hid (hasP P n = false) := decide_eq_false (fun h => by omega)
    clear a1 hb
    go_enter Tryz.func99, Tryz.ntmps99
    go_wp2_with fail
    refine HP.out.mono ?_
    rintro e w1 ⟨rfl, rfl⟩
    go_wp2
    go_ret
    exact ⟨by rw [HF.out]; rfl, rfl⟩
  · have t1 : decide (n < -P) = false := decide_eq_false a1
    by_cases a2 : P - 1 < n
    · have t2 : decide (P - 1 < n) = true := decide_eq_true a2
      have HF : Hid (hasP P n = false) := decide_eq_false (fun h => by omega)
      clear a1 a2 hb
      go_enter Tryz.func99, Tryz.ntmps99
      go_wp2_with fail
      refine HP.out.mono ?_
      rintro e w1 ⟨rfl, rfl⟩
      go_wp2_with fail
      refine HP.out.mono ?_
      rintro e w1 ⟨rfl, rfl⟩
      go_wp2
      go_ret
      exact ⟨by rw [HF.out]; rfl, rfl⟩
    · have t2 : decide (P - 1 < n) = false := decide_eq_false a2
      have HF : Hid (hasP P n = true) := decide_eq_true (by omega)
      clear a1 a2 hb
      go_enter Tryz.func99, Tryz.ntmps99
      go_wp2_with fail
      refine HP.out.mono ?_
      rintro e w1 ⟨rfl, rfl⟩
      go_wp2_with fail
      refine HP.out.mono ?_
      rintro e w1 ⟨rfl, rfl⟩
      go_wp2
      go_ret
      exact ⟨by rw [HF.out]; rfl, rfl⟩

theorem b_any_take {f : Int → Bool} {l : List Int} {c : Nat} (hc : c < l.length) : (l.take (c + 1)).any f = ((l.take c).any f || f l[c]) := by
  rw [List.take_succ_eq_append_getElem hc, List.any_append]; simp
def FoundB (l : List Int) (f : Int → Bool) (k : Int) : Prop := decide (0 ≤ k) = l.any f

set_option maxHeartbeats 800000 in
theorem cIndexLacks (ao : Option Addr) (cap : Nat) (l : List Int) (m : Nat) (w : World) (h1 : 8 ≤ m) (h2 : m ≤ 26) (hl : l.length ≤ 9223372036854775807) (hi : IntsAt w ao l) :
    Calls Tryz.prog 120 #[.slice ao l.length cap, .func (.func 99) #[.int .i64 (m : Int)] #[]] w fun e w' => ∃ k : Int, e = .returned (.int .i64 k) ∧ FoundB l (fun n => !hasP (halfOf (m : Int)) n) k ∧ w = w' := by
  have HI := Lib.hid hi
  have HL := fun n W => Lib.hid (cLacks n m W h1 h2)
  clear hi
  generalize halfOf (m : Int) = P at *
  go_enter Tryz.func120, Tryz.ntmps120
  go_wp2
  go_loopg [5, 8] l.length (fun gk q i wr => ∃ c : Nat, c ≤ l.length ∧ gk + c = l.length ∧ i = .int .i64 c ∧ Hid ((l.take c).any (fun n => !hasP P n) = false) ∧ w = wr)
  case atStart => exact ⟨0, Nat.zero_le _, by omega, rfl, by simp [Hid], rfl⟩
  case round =>
    obtain ⟨c, hc, hgk, rfl, HT, rfl⟩ := hrel
    have HGK := Lib.hid hgk
    clear hgk
    by_cases hlt : c < l.length
    · obtain ⟨b, off, rfl, hg, hcell⟩ := HI.out c hlt
      have HNX := Lib.hid (b_any_take (f := fun n => !hasP P n) hlt)
      have HLC := fun W => Lib.hid (HL l[c] W).out
      have HMem : Hid (hasP P l[c] = false → l.any (fun n => !hasP P n) = true) := fun h => List.any_eq_true.2 ⟨l[c], List.getElem_mem hlt, by simp [h]⟩
      generalize l[c] = x at hcell HNX HLC HMem
      cases hx : hasP P x
      · have HM2 := Lib.hid (HMem.out hx)
        rw [hx] at HLC
        clear hx HMem HNX hg
        go_wp2_with fail
        refine (HLC _).out.mono ?_
        rintro e w1 ⟨rfl, rfl⟩
        go_wp2
        go_ret
        exact ⟨_, rfl, by unfold FoundB; rw [HM2.out]; exact decide_eq_true (by omega), rfl⟩
      · have HN2 : Hid ((l.take (c + 1)).any (fun n => !hasP P n) = false) := by show _ = _; rw [HNX.out, HT.out]; simp [hx]
        rw [hx] at HLC
        clear hx HMem HNX hg
        go_wp2_with fail
        refine (HLC _).out.mono ?_
        rintro e w1 ⟨rfl, rfl⟩
        go_wp2
        go_roundg (gk - 1)
        case rel => exact ⟨c + 1, by omega, by have := HGK.out; omega, by go_num, HN2, rfl⟩
        case measure => have := HGK.out; omega
    · obtain rfl : c = l.length := by omega
      have HA : Hid (l.any (fun n => !hasP P n) = false) := by have := HT.out; rw [List.take_length] at this; exact this
      go_wp2
      go_ret
      exact ⟨_, rfl, by unfold FoundB; rw [HA.out]; rfl, rfl⟩

set_option maxHeartbeats 400000 in
theorem cContainsLacks (ao : Option Addr) (cap : Nat) (l : List Int) (m : Nat) (w : World) (h1 : 8 ≤ m) (h2 : m ≤ 26) (hl : l.length ≤ 9223372036854775807) (hi : IntsAt w ao l) :
    Calls Tryz.prog 98 #[.slice ao l.length cap, .func (.func 99) #[.int .i64 (m : Int)] #[]] w fun e w' => e = .returned (.bool (l.any (fun n => !hasP (halfOf (m : Int)) n))) ∧ w = w' := by
  have HC := Lib.hid (cIndexLacks ao cap l m w h1 h2 hl hi)
  obtain ⟨d, hd⟩ : ∃ d, d = l.any (fun n => !hasP (halfOf (m : Int)) n) := ⟨_, rfl⟩
  rw [← hd]
  have HD := Lib.hid hd
  clear hi hd
  go_enter Tryz.func98, Tryz.ntmps98
  go_wp2_with fail
  refine HC.out.mono ?_
  rintro e w1 ⟨k, rfl, hf, rfl⟩
  unfold FoundB at hf
  rw [← HD.out] at hf
  go_wp2
  go_ret
  exact ⟨rfl, rfl⟩


/-- What is wrong with samples. -/
def chkB (l : List Int) (d : Int) : Int := if !(sizeN (l.length : Int) && depthB d) then 1 else if l.all (hasP (halfOf d)) then 0 else 9
theorem any_not_all (P : Int) (l : List Int) : l.any (fun n => !hasP P n) = !(l.all (hasP P)) := by
  induction l with
  | nil => rfl
  | cons x r ih => simp only [List.any_cons, List.all_cons, ih]; cases hasP P x <;> simp

set_option maxHeartbeats 800000 in
theorem cCheck (ao : Option Addr) (cap : Nat) (l : List Int) (d : Int) (w : World) (hl : l.length ≤ 1000000) (hi : IntsAt w ao l) :
    Calls Tryz.prog 76 #[.int .i64 d, .slice ao l.length cap] w fun e w' => e = .returned (.int .i64 (chkB l d)) ∧ w = w' := by
  have HS := Lib.hid (cIsCount (l.length : Int) w)
  have HG := Lib.hid (cIsGood d w)
  have HE : Hid (chkB l d = if !(sizeN (l.length : Int) && depthB d) then 1 else if l.all (hasP (halfOf d)) then 0 else 9) := rfl
  have HX : Hid (depthB d = true → ∃ m : Nat, d = m ∧ 8 ≤ m ∧ m ≤ 26) := fun h => depthB_of h
  have HI := Lib.hid hi
  clear hi
  cases hs : sizeN (l.length : Int) with
  | false =>
    rw [hs, if_pos (by rfl)] at HE
    rw [hs] at HS
    clear hs
    go_enter Tryz.func76, Tryz.ntmps76
    go_wp2_with fail
    refine HS.out.mono ?_
    rintro e w1 ⟨rfl, rfl⟩
    go_wp2
    go_ret
    exact ⟨by rw [HE.out]; rfl, rfl⟩
  | true =>
    cases hd : depthB d with
    | false =>
      rw [hs, hd, if_pos (by rfl)] at HE
      rw [hs] at HS
      rw [hd] at HG
      clear hs hd
      go_enter Tryz.func76, Tryz.ntmps76
      go_wp2_with fail
      refine HS.out.mono ?_
      rintro e w1 ⟨rfl, rfl⟩
      go_wp2_with fail
      refine HG.out.mono ?_
      rintro e w1 ⟨rfl, rfl⟩
      go_wp2
      go_ret
      exact ⟨by rw [HE.out]; rfl, rfl⟩
    | true =>
      obtain ⟨m, rfl, h1, h2⟩ := HX.out hd
      have HC := Lib.hid (cContainsLacks ao cap l m w h1 h2 (by omega) HI.out)
      rw [any_not_all] at HC
      rw [hs, hd, if_neg (by simp)] at HE
      rw [hs] at HS
      rw [hd] at HG
      clear hs hd HX h1 h2
      cases ha : l.all (hasP (halfOf (m : Int))) with
      | false =>
        rw [ha] at HE HC
        clear ha
        go_enter Tryz.func76, Tryz.ntmps76
        go_wp2_with fail
        refine HS.out.mono ?_
        rintro e w1 ⟨rfl, rfl⟩
        go_wp2_with fail
        refine HG.out.mono ?_
        rintro e w1 ⟨rfl, rfl⟩
        go_wp2_with fail
        refine HC.out.mono ?_
        rintro e w1 ⟨rfl, rfl⟩
        go_wp2
        go_ret
        exact ⟨by rw [HE.out]; rfl, rfl⟩
      | true =>
        rw [ha] at HE HC
        clear ha
        go_enter Tryz.func76, Tryz.ntmps76
        go_wp2_with fail
        refine HS.out.mono ?_
        rintro e w1 ⟨rfl, rfl⟩
        go_wp2_with fail
        refine HG.out.mono ?_
        rintro e w1 ⟨rfl, rfl⟩
        go_wp2_with fail
        refine HC.out.mono ?_
        rintro e w1 ⟨rfl, rfl⟩
        go_wp2
        go_ret
        exact ⟨by rw [HE.out]; rfl, rfl⟩
end Go.Proofs.YtefbakhhlonafaaGreat
end

section
namespace Go.Proofs.YtefbakhhlonafaaGreat
open Go.RowKit Go.Proofs Go.Proofs.PipeM Go.Proofs.PipeA

/-- The text of bytes. -/
def bstr (zs : List Nat) : ByteArray := strOfNums (zs.map fun z : Nat => (z : Int))

theorem conv_row {w : World} {base : Nat} {v : Value} {zs : List Nat} (h : w.ownsRow base 5 1 v zs.length (cellsOf zs)) :
    (convert 29 9 v).run Tryz.prog w = .ok (.string (bstr zs)) w := by
  obtain ⟨ao, cap, rfl, _, _, h3⟩ := own_shape h
  by_cases h0 : 0 < zs.length
  · obtain ⟨g, rfl, _, hc⟩ := h3 h0
    refine run_convert_bytes_arg w 29 5 und_bytes und_u8 g 0 zs.length cap (zs.map fun z : Nat => (z : Int)) (by simp) ?_ 9 und_string
    intro i hi
    rw [Nat.zero_add, hc i _ (cellsOf_get zs i hi)]
    simp [List.getD, hi]
  · obtain rfl : zs = [] := List.eq_nil_of_length_eq_zero (by omega)
    rcases h.2 with ⟨h', _⟩ | ⟨g, cap', cur, h', _⟩
    · simp only [Value.slice.injEq, List.length_nil, true_and] at h'
      obtain ⟨rfl, rfl⟩ := h'
      exact run_convert_bytes_nil w 29 5 und_bytes und_u8 0 0 9 und_string
    · simp only [Value.slice.injEq] at h'
      obtain ⟨rfl, _, _⟩ := h'
      exact run_convert_bytes_arg w 29 5 und_bytes und_u8 g 0 0 cap [] rfl (by intro i hi; omega) 9 und_string

theorem wr_fresh (w : World) : WrIs (w.alloc (.cells #[.slice none 0 0, .int .i64 0] 31)) w.heap.size (.slice none 0 0) [] [] := by
  refine ⟨⟨by simp, by simp, by simp, by simp, by simp, World.ownsRow_nil _ _ _ _⟩, packs_nil⟩

/-- What a fresh writer has written lies in new memory. -/
theorem wrote_below {w w' : World} {l : List Bool} (h : Wrote (w.alloc (.cells #[.slice none 0 0, .int .i64 0] 31)) w.heap.size (.slice none 0 0) l w') : Below w.heap.size w w' := by
  obtain ⟨_, _, _, hk, _⟩ := h
  exact ((Below.refl _ _).alloc (Nat.le_refl _) _).trans (hk.below (by simp) (by intro x hx; simp [Value.ownBlock] at hx; omega))

end Go.Proofs.YtefbakhhlonafaaGreat
end

section
namespace Go.Proofs.YtefbakhhlonafaaGreat
open Go.RowKit Go.Proofs Go.Proofs.PipeM Go.Proofs.PipeA

theorem WrIs.keeps {w w' : World} {bs : List Nat} {b : Nat} {v : Value} {l : List Bool} {zs : List Nat} (h : WrIs w b v l zs) (hk : Keeps bs w w') (hb : b ∉ bs) (hv : ∀ g, v.ownBlock = some g → g ∉ bs) : WrIs w' b v l zs := by
  refine ⟨⟨Nat.lt_of_lt_of_le h.lt hk.size, (hk.cell (p := ⟨b, 0, none⟩) h.lt hb).trans h.c0, (hk.cell (p := ⟨b, 1, none⟩) h.lt hb).trans h.c1, (hk.frozen (p := ⟨b, 0, none⟩) h.lt hb).trans h.f0, (hk.frozen (p := ⟨b, 1, none⟩) h.lt hb).trans h.f1, ?_⟩, h.packs⟩
  refine ⟨h.own.1, ?_⟩
  rcases h.own.2 with h2 | ⟨g, cap, cur, hv', hg, hh, r⟩
  · exact Or.inl h2
  · have hlt : g < w.heap.size := by
      rcases Nat.lt_or_ge g w.heap.size with h5 | h5
      · exact h5
      · rw [Array.getElem?_eq_none h5] at hh; cases hh
    exact Or.inr ⟨g, cap, cur, hv', hg, by rw [hk.block g hlt (hv g (by rw [hv']; rfl))]; exact hh, r⟩

/-- What was written behind new blocks. -/
theorem Wrote.later {w w1 w2 : World} {b : Nat} {v : Value} {l : List Bool} (hk : Keeps [] w w1) (h2 : Wrote w1 b v l w2) : Wrote w b v l w2 :=
  Wrote.next ⟨hk.os, hk.tape, hk.output, hk.size, fun k hlt _ => hk.block k hlt (by simp)⟩ (Or.inl rfl) h2

theorem keeps_drew (w : World) : Keeps [] w w.drew := ⟨rfl, rfl, rfl, Nat.le_refl _, fun _ _ _ => rfl⟩

theorem keeps_drew_b (w : World) (bs : List Nat) : Keeps bs w w.drew := ⟨rfl, rfl, rfl, Nat.le_refl _, fun _ _ _ => rfl⟩

theorem own_slice {w : World} {base n size : Nat} {e : TypeId} {xs : List Value} {v : Value} (h : w.ownsRow base e size v n xs) : ∃ ao cap, v = .slice ao n cap := by
  rcases h.2 with ⟨rfl, rfl⟩ | ⟨g, cap, cur, rfl, _⟩
  · exact ⟨none, 0, rfl⟩
  · exact ⟨_, cap, rfl⟩

theorem own_block_lt {w : World} {base n size : Nat} {e : TypeId} {xs : List Value} {v : Value} (h : w.ownsRow base e size v n xs) : ∀ g, v.ownBlock = some g → base ≤ g ∧ g < w.heap.size := by
  intro g hg
  rcases h.2 with ⟨rfl, rfl⟩ | ⟨g', cap, cur, rfl, hb, hh, _⟩
  · cases hg
  · simp [Value.ownBlock] at hg
    subst hg
    refine ⟨hb, ?_⟩
    rcases Nat.lt_or_ge g' w.heap.size with h5 | h5
    · exact h5
    · rw [Array.getElem?_eq_none h5] at hh; cases hh

theorem ownsRow_keeps {w w' : World} {base n size : Nat} {e : TypeId} {xs : List Value} {v : Value} {bs : List Nat} (h : w.ownsRow base e size v n xs) (hk : Keeps bs w w') (hn : ∀ g, v.ownBlock = some g → g ∉ bs) : w'.ownsRow base e size v n xs := by
  refine ⟨h.1, ?_⟩
  have hlt := own_block_lt h
  rcases h.2 with h2 | ⟨g, cap, cur, hv', hg, hh, r⟩
  · exact Or.inl h2
  · exact Or.inr ⟨g, cap, cur, hv', hg, by rw [hk.block g (hlt g (by rw [hv']; rfl)).2 (hn g (by rw [hv']; rfl))]; exact hh, r⟩

theorem quiet_left {P : Program} {f : FuncId} {args : Array Value} {w : World} {n : Nat} {v : Value}
    (h : Calls P f args (w.drewN n) fun e w' => e = .returned v ∧ w.drewN n = w') : Calls P f args (w.drewN n) fun e w'' => e = .returned v ∧ ∃ m, w'' = w.drewN m :=
  h.mono fun _ _ ⟨he, hm⟩ => ⟨he, n, hm.symm⟩
end Go.Proofs.YtefbakhhlonafaaGreat
end

section
namespace Go.Proofs.YtefbakhhlonafaaGreat
open Go.RowKit Go.Proofs Go.Proofs.PipeM Go.Proofs.PipeA

theorem below_drewN {w W : World} (h : Below w.heap.size w W) (m : Nat) : Below w.heap.size w (W.drewN m) := h.trans ((keeps_drewN W m []).below h.size (by simp))

set_option maxHeartbeats 800000 in
theorem refList (ao : Option Addr) (cap : Nat) (l : List Int) (w : World) (hl : l.length ≤ 1000000000) (hi : IntsAt w ao l) :
    Calls Tryz.prog 58 #[.slice ao l.length cap] w fun e w' => e = .returned (.bool (listOk l)) ∧ w = w' := by
  have HI := Lib.hid hi
  clear hi
  go_enter Tryz.func58, Tryz.ntmps58
  go_wp2
  go_loopg [3, 6] l.length (fun gk q i wr => ∃ c : Nat, c ≤ l.length ∧ gk + c = l.length ∧ i = .int .i64 c ∧ Hid (∀ n ∈ l.take c, nOk n = true) ∧ w = wr)
  case atStart => exact ⟨0, Nat.zero_le _, by omega, rfl, fun n hn => by simp at hn, rfl⟩
  case round =>
    obtain ⟨c, hc, hgk, rfl, HT, rfl⟩ := hrel
    have HGK := Lib.hid hgk
    clear hgk
    by_cases hlt : c < l.length
    · obtain ⟨g, off, rfl, hg, hcell⟩ := HI.out c hlt
      have HNX : Hid (nOk l[c] = true → ∀ n ∈ l.take (c + 1), nOk n = true) := by
        intro h n hn
        rw [List.take_succ_eq_append_getElem hlt] at hn
        rcases List.mem_append.1 hn with h1 | h1
        · exact HT.out n h1
        · rw [List.mem_singleton.1 h1]; exact h
      have HNO : Hid (nOk l[c] = false → listOk l = false) := by
        intro h
        have : l.all nOk = false := by
          rw [List.all_eq_false]
          exact ⟨l[c], List.getElem_mem hlt, by simp [h]⟩
        unfold listOk
        rw [this]; rfl
      obtain ⟨n, hn⟩ : ∃ n, n = l[c] := ⟨_, rfl⟩
      rw [← hn] at hcell HNX HNO
      clear hn
      by_cases h1 : n < -8589934592
      · have t1 : decide (n < -8589934592) = true := decide_eq_true h1
        have HNO2 := Lib.hid (HNO.out (decide_eq_false (by omega)))
        clear h1
        go_wp2
        go_ret
        exact ⟨by rw [HNO2.out]; rfl, rfl⟩
      · have t1 : decide (n < -8589934592) = false := decide_eq_false h1
        by_cases h2 : 8589934591 < n
        · have t2 : decide (8589934591 < n) = true := decide_eq_true h2
          have HNO2 := Lib.hid (HNO.out (decide_eq_false (by omega)))
          clear h1 h2
          go_wp2
          go_ret
          exact ⟨by rw [HNO2.out]; rfl, rfl⟩
        · have t2 : decide (8589934591 < n) = false := decide_eq_false h2
          have HN2 := Lib.hid (HNX.out (decide_eq_true ⟨by omega, by omega⟩))
          clear h1 h2
          go_wp2
          go_roundg (gk - 1)
          case rel => exact ⟨c + 1, by omega, by have := HGK.out; omega, by go_num, HN2, rfl⟩
          case measure => have := HGK.out; omega
    · obtain rfl : c = l.length := by omega
      have HA : Hid (listOk l = decide (1 ≤ l.length ∧ l.length ≤ 1024)) := by
        have : l.all nOk = true := List.all_eq_true.2 (fun n hn => HT.out n (by rw [List.take_length]; exact hn))
        unfold listOk
        rw [Hid, this, Bool.true_and]
      by_cases h1 : 1 ≤ l.length
      · have HA2 : Hid (listOk l = decide ((l.length : Int) ≤ 1024)) := by
          rw [Hid, HA.out]
          by_cases h2 : l.length ≤ 1024
          · rw [decide_eq_true (⟨h1, h2⟩ : 1 ≤ l.length ∧ l.length ≤ 1024), decide_eq_true (by omega)]
          · rw [decide_eq_false (by omega : ¬ (1 ≤ l.length ∧ l.length ≤ 1024)), decide_eq_false (by omega)]
        go_wp2
        go_ret
        exact ⟨by rw [HA2.out]; rfl, rfl⟩
      · have HA2 : Hid (listOk l = false) := by rw [Hid, HA.out]; exact decide_eq_false (by omega)
        go_wp2
        go_ret
        exact ⟨by rw [HA2.out]; rfl, rfl⟩

theorem partsOk_no {n : Nat} {P : Int} {ks : List Int} (h : ¬ (1 ≤ n ∧ n ≤ 1024 ∧ 0 ≤ P ∧ P ≤ 3 ∧ n % 2 ^ P.toNat = 0 ∧ ks.length = 2 ^ P.toNat)) : partsOk n P ks = false := by
  unfold partsOk
  rw [decide_eq_false h]; rfl

theorem box_below (w : World) (o : Obj) : Below w.heap.size w (w.alloc o) := (Below.refl _ _).alloc (Nat.le_refl _) _

set_option maxHeartbeats 1600000 in
theorem refGood_no (n : Nat) (P : Int) (ao : Option Addr) (cap : Nat) (ks : List Int) (w : World) (hn : n ≤ 1000000000) (h : ¬ (1 ≤ n ∧ n ≤ 1024 ∧ 0 ≤ P ∧ P ≤ 3)) :
    Calls Tryz.prog 57 #[.int .i64 n, .agg #[.int .i64 P, .slice ao ks.length cap]] w fun e w' => e = .returned (.bool (partsOk n P ks)) ∧ Below w.heap.size w w' := by
  have HNO := Lib.hid (partsOk_no (n := n) (P := P) (ks := ks) (fun hc => h ⟨hc.1, hc.2.1, hc.2.2.1, hc.2.2.2.1⟩))
  have t : decide ((n : Int) < 1) = true ∨ (decide ((n : Int) < 1) = false ∧ (decide (1024 < (n : Int)) = true ∨ (decide (1024 < (n : Int)) = false ∧ (decide (P < 0) = true ∨ (decide (P < 0) = false ∧ decide (3 < P) = true))))) := by
    by_cases h1 : (n : Int) < 1
    · exact Or.inl (decide_eq_true h1)
    · refine Or.inr ⟨decide_eq_false h1, ?_⟩
      by_cases h2 : 1024 < (n : Int)
      · exact Or.inl (decide_eq_true h2)
      · refine Or.inr ⟨decide_eq_false h2, ?_⟩
        by_cases h3 : P < 0
        · exact Or.inl (decide_eq_true h3)
        · exact Or.inr ⟨decide_eq_false h3, decide_eq_true (by omega)⟩
  clear h
  rcases t with t1 | ⟨t1, t2 | ⟨t2, t3 | ⟨t3, t4⟩⟩⟩
  all_goals
    go_enter Tryz.func57, Tryz.ntmps57
    go_wp2
    go_region
    go_wp2
    go_ret
    exact ⟨by rw [HNO.out]; rfl, (box_below w _).drew⟩

end Go.Proofs.YtefbakhhlonafaaGreat
end

section
namespace Go.Proofs.YtefbakhhlonafaaGreat
open Go.RowKit Go.Proofs Go.Proofs.PipeM Go.Proofs.PipeA

set_option maxHeartbeats 3200000 in
theorem refGood_a (n p : Nat) (ao : Option Addr) (cap : Nat) (ks : List Int) (w : World) (hn1 : 1 ≤ n) (hn : n ≤ 1024) (hp : p ≤ 3) (hi : IntsAt w ao ks) (hc : n % 2 ^ p ≠ 0) :
    Calls Tryz.prog 57 #[.int .i64 n, .agg #[.int .i64 p, .slice ao ks.length cap]] w fun e w' => e = .returned (.bool (partsOk n p ks)) ∧ Below w.heap.size w w' := by
  obtain ⟨pw, hpw⟩ : ∃ pw, pw = 2 ^ p := ⟨_, rfl⟩
  have hpw1 : 1 ≤ pw ∧ pw ≤ 8 := by rw [hpw]; exact ⟨Nat.two_pow_pos p, Nat.le_trans (Nat.pow_le_pow_right (by decide) hp) (by decide)⟩
  have hpb := hpw1.2
  have hpa := hpw1.1
  have HP := fun W => Lib.hid (refPower p W (by omega))
  rw [← hpw] at HP
  have HOK : Hid (partsOk n p ks = (decide (n % pw = 0 ∧ ks.length = pw) && ks.all kOk)) := by
    show _ = _
    unfold partsOk
    rw [Int.toNat_natCast, ← hpw]
    congr 1
    exact decide_eq_decide.2 ⟨fun h => ⟨h.2.2.2.2.1, h.2.2.2.2.2⟩, fun h => ⟨hn1, hn, by omega, by omega, h.1, h.2⟩⟩
  have t1 : decide ((n : Int) < 1) = false := decide_eq_false (by omega)
  have t2 : decide (1024 < (n : Int)) = false := decide_eq_false (by omega)
  have t3 : decide ((p : Int) < 0) = false := decide_eq_false (by omega)
  have t4 : decide (3 < (p : Int)) = false := decide_eq_false (by omega)
  have HI0 := Lib.hid hi
  rw [← hpw] at hc
  clear hpw hpw1 hi
  go_enter Tryz.func57, Tryz.ntmps57
  go_wp2
  have HI : Hid (IntsAt (w.alloc (.cells #[.int .i64 p, .slice ao ks.length cap] 71)) ao ks) := HI0.out.below (box_below w _)
  have c0 : (w.alloc (.cells #[.int .i64 p, .slice ao ks.length cap] 71)).cell? ⟨w.heap.size, 0, none⟩ = some (.int .i64 p) := by simp
  have c1 : (w.alloc (.cells #[.int .i64 p, .slice ao ks.length cap] 71)).cell? ⟨w.heap.size, 1, none⟩ = some (.slice ao ks.length cap) := by simp
  have HB := Lib.hid (box_below w (.cells #[.int .i64 p, .slice ao ks.length cap] 71))
  generalize hW : w.alloc (.cells #[.int .i64 p, .slice ao ks.length cap] 71) = W at HI c0 c1 HB ⊢
  generalize hBB : w.heap.size = B at c0 c1 ⊢
  clear hW HI0
  have t5 : ((n : Int) % (pw : Int) != 0) = true := by rw [bne_iff_ne]; omega
  have HNO : Hid (partsOk n p ks = false) := by rw [Hid, HOK.out, decide_eq_false (fun h => hc h.1)]; rfl
  clear hc
  go_quiet ((go_at_call 29; exact quiet_left (HP _).out))
  go_wp2
  go_ret
  exact ⟨by rw [HNO.out]; rfl, below_drewN HB.out _⟩

set_option maxHeartbeats 3200000 in
theorem refGood_b (n p : Nat) (ao : Option Addr) (cap : Nat) (ks : List Int) (w : World) (hn1 : 1 ≤ n) (hn : n ≤ 1024) (hp : p ≤ 3) (hi : IntsAt w ao ks) (hc : n % 2 ^ p = 0) (hk0 : ks.length ≠ 2 ^ p) :
    Calls Tryz.prog 57 #[.int .i64 n, .agg #[.int .i64 p, .slice ao ks.length cap]] w fun e w' => e = .returned (.bool (partsOk n p ks)) ∧ Below w.heap.size w w' := by
  obtain ⟨pw, hpw⟩ : ∃ pw, pw = 2 ^ p := ⟨_, rfl⟩
  have hpw1 : 1 ≤ pw ∧ pw ≤ 8 := by rw [hpw]; exact ⟨Nat.two_pow_pos p, Nat.le_trans (Nat.pow_le_pow_right (by decide) hp) (by decide)⟩
  have hpb := hpw1.2
  have hpa := hpw1.1
  have HP := fun W => Lib.hid (refPower p W (by omega))
  rw [← hpw] at HP
  have HOK : Hid (partsOk n p ks = (decide (n % pw = 0 ∧ ks.length = pw) && ks.all kOk)) := by
    show _ = _
    unfold partsOk
    rw [Int.toNat_natCast, ← hpw]
    congr 1
    exact decide_eq_decide.2 ⟨fun h => ⟨h.2.2.2.2.1, h.2.2.2.2.2⟩, fun h => ⟨hn1, hn, by omega, by omega, h.1, h.2⟩⟩
  have t1 : decide ((n : Int) < 1) = false := decide_eq_false (by omega)
  have t2 : decide (1024 < (n : Int)) = false := decide_eq_false (by omega)
  have t3 : decide ((p : Int) < 0) = false := decide_eq_false (by omega)
  have t4 : decide (3 < (p : Int)) = false := decide_eq_false (by omega)
  have HI0 := Lib.hid hi
  rw [← hpw] at hc hk0
  clear hpw hpw1 hi
  go_enter Tryz.func57, Tryz.ntmps57
  go_wp2
  have HI : Hid (IntsAt (w.alloc (.cells #[.int .i64 p, .slice ao ks.length cap] 71)) ao ks) := HI0.out.below (box_below w _)
  have c0 : (w.alloc (.cells #[.int .i64 p, .slice ao ks.length cap] 71)).cell? ⟨w.heap.size, 0, none⟩ = some (.int .i64 p) := by simp
  have c1 : (w.alloc (.cells #[.int .i64 p, .slice ao ks.length cap] 71)).cell? ⟨w.heap.size, 1, none⟩ = some (.slice ao ks.length cap) := by simp
  have HB := Lib.hid (box_below w (.cells #[.int .i64 p, .slice ao ks.length cap] 71))
  generalize hW : w.alloc (.cells #[.int .i64 p, .slice ao ks.length cap] 71) = W at HI c0 c1 HB ⊢
  generalize hBB : w.heap.size = B at c0 c1 ⊢
  clear hW HI0
  have t5 : ((n : Int) % (pw : Int) != 0) = false := by rw [bne_eq_false_iff_eq]; omega
  have t6 : ((ks.length : Int) != (pw : Int)) = true := by rw [bne_iff_ne]; omega
  have HNO : Hid (partsOk n p ks = false) := by rw [Hid, HOK.out, decide_eq_false (fun h => hk0 h.2)]; rfl
  clear hc hk0
  go_quiet ((go_at_call 29; exact quiet_left (HP _).out))
  go_wp2
  go_ret
  exact ⟨by rw [HNO.out]; rfl, below_drewN HB.out _⟩

end Go.Proofs.YtefbakhhlonafaaGreat
end
