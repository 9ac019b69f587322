import Derived.Laws.Bits64b
import Derived.Lib.TrailingZeros
import Derived.RowKit
import Derived.Test.YtefbakhhlonafaaBlkF1

section
namespace Go.Proofs.BlkB
open Go

/-- Two numbers' bits, each that one of them has. -/
def orI (a b : Int) : Int := bits BinOp.or IntKind.i64 a b
theorem toNat_mod (a : Int) {k : Nat} (hk : k ≤ 64) : ((BitVec.ofInt 64 a).toNat % 2 ^ k = 0) ↔ ((2 ^ k : Nat) : Int) ∣ a := by
  rw [BitVec.toNat_ofInt]
  obtain ⟨j, hj⟩ : ∃ j, 64 = k + j := ⟨64 - k, by omega⟩
  rw [hj]
  have hd : ((2 ^ k : Nat) : Int) ∣ ((2 ^ (k + j) : Nat) : Int) := ⟨((2 ^ j : Nat) : Int), by rw [Nat.pow_add]; simp⟩
  have hp : (0 : Int) < ((2 ^ (k + j) : Nat) : Int) := by have := Nat.two_pow_pos (k + j); omega
  have h0 : 0 ≤ a % ((2 ^ (k + j) : Nat) : Int) := Int.emod_nonneg _ (by omega)
  have e : a = a % ((2 ^ (k + j) : Nat) : Int) + ((2 ^ (k + j) : Nat) : Int) * (a / ((2 ^ (k + j) : Nat) : Int)) := (Int.emod_add_mul_ediv a _).symm
  have hq : ((2 ^ k : Nat) : Int) ∣ ((2 ^ (k + j) : Nat) : Int) * (a / ((2 ^ (k + j) : Nat) : Int)) := Int.dvd_trans hd (Int.dvd_mul_right _ _)
  constructor
  · intro h
    have h1 : ((2 ^ k : Nat) : Int) ∣ ((a % ((2 ^ (k + j) : Nat) : Int)).toNat : Int) := Int.ofNat_dvd.2 (Nat.dvd_of_mod_eq_zero h)
    rw [Int.toNat_of_nonneg h0] at h1
    rw [e]
    exact Int.dvd_add h1 hq
  · intro h
    have h1 : ((2 ^ k : Nat) : Int) ∣ a % ((2 ^ (k + j) : Nat) : Int) := by
      have := (Int.dvd_add_left (a := ((2 ^ k : Nat) : Int)) hq (b := a % ((2 ^ (k + j) : Nat) : Int))).1 (by rw [← e]; exact h)
      exact this
    rw [← Int.toNat_of_nonneg h0] at h1
    exact Nat.mod_eq_zero_of_dvd (Int.ofNat_dvd.1 h1)
theorem wrap_ofInt (z : Int) : BitVec.ofInt 64 (IntKind.i64.wrap z) = BitVec.ofInt 64 z := by
  apply BitVec.eq_of_toNat_eq
  rw [BitVec.toNat_ofInt, BitVec.toNat_ofInt]
  congr 1
  have : (IntKind.i64.wrap z - z) % ((2 ^ 64 : Nat) : Int) = 0 := by
    simp only [IntKind.wrap, IntKind.signed, IntKind.bits]
    simp
    split <;> omega
  omega
theorem or_dvd (a b : Int) {k : Nat} (hk : k ≤ 64) : ((2 ^ k : Nat) : Int) ∣ orI a b ↔ ((2 ^ k : Nat) : Int) ∣ a ∧ ((2 ^ k : Nat) : Int) ∣ b := by
  rw [← toNat_mod _ hk, ← toNat_mod a hk, ← toNat_mod b hk]
  have e : (BitVec.ofInt 64 (orI a b)).toNat = (BitVec.ofInt 64 a).toNat ||| (BitVec.ofInt 64 b).toNat := by
    show (BitVec.ofInt 64 (IntKind.i64.wrap ((BitVec.ofInt 64 a ||| BitVec.ofInt 64 b).toNat : Int))).toNat = _
    rw [wrap_ofInt, BitVec.ofInt_natCast, BitVec.toNat_ofNat, BitVec.toNat_or]
    refine Nat.mod_eq_of_lt ?_
    rw [← BitVec.toNat_or]
    exact BitVec.isLt _
  rw [e, Nat.or_mod_two_pow]
  exact Nat.or_eq_zero_iff
/-- A number of 64 bits. -/
def In64 (a : Int) : Prop := -9223372036854775808 ≤ a ∧ a ≤ 9223372036854775807
theorem or_in (a b : Int) : In64 (orI a b) := by
  show In64 (IntKind.i64.wrap _)
  unfold In64
  generalize ((BitVec.ofInt 64 a ||| BitVec.ofInt 64 b).toNat : Int) = z
  simp only [IntKind.wrap, IntKind.signed, IntKind.bits]
  simp
  split <;> omega
theorem dvd64 {a : Int} (h : In64 a) : ((2 ^ 64 : Nat) : Int) ∣ a ↔ a = 0 := by
  unfold In64 at h
  constructor
  · rintro ⟨c, hc⟩
    have : ((2 ^ 64 : Nat) : Int) = 18446744073709551616 := by decide
    rw [this] at hc
    omega
  · rintro rfl; exact Int.dvd_zero _
theorem or_zero {a b : Int} (ha : In64 a) (hb : In64 b) : orI a b = 0 ↔ a = 0 ∧ b = 0 := by
  rw [← dvd64 (or_in a b), or_dvd a b (Nat.le_refl 64), dvd64 ha, dvd64 hb]
theorem or_nought {a : Int} (h : In64 a) : orI a 0 = a := by
  show IntKind.i64.wrap ((BitVec.ofInt 64 a ||| BitVec.ofInt 64 0).toNat : Int) = a
  rw [show BitVec.ofInt 64 0 = 0#64 from rfl, BitVec.or_zero, BitVec.toNat_ofInt]
  unfold In64 at h
  simp only [IntKind.wrap, IntKind.signed, IntKind.bits]
  simp
  omega
/-- The bits of all. -/
def orAll (l : List Int) : Int := l.foldl orI 0
theorem orAll_snoc (l : List Int) (x : Int) : orAll (l ++ [x]) = orI (orAll l) x := by unfold orAll; rw [List.foldl_append]; rfl
theorem orAll_in (l : List Int) : In64 (orAll l) := by
  rcases List.eq_nil_or_concat l with rfl | ⟨m, x, rfl⟩
  · exact ⟨by decide, by decide⟩
  · rw [List.concat_eq_append, orAll_snoc]; exact or_in _ _
theorem orAll_dvd {k : Nat} (hk : k ≤ 64) (l : List Int) : ((2 ^ k : Nat) : Int) ∣ orAll l ↔ ∀ x ∈ l, ((2 ^ k : Nat) : Int) ∣ x := by
  have H : ∀ (l : List Int) (a : Int), ((2 ^ k : Nat) : Int) ∣ l.foldl orI a ↔ ((2 ^ k : Nat) : Int) ∣ a ∧ ∀ x ∈ l, ((2 ^ k : Nat) : Int) ∣ x := by
    intro l
    induction l with
    | nil => intro a; simp
    | cons y r ih =>
      intro a
      rw [List.foldl_cons, ih, or_dvd a y hk]
      constructor
      · rintro ⟨⟨h1, h2⟩, h3⟩
        refine ⟨h1, fun x hx => ?_⟩
        rcases List.mem_cons.1 hx with rfl | hx
        · exact h2
        · exact h3 x hx
      · rintro ⟨h1, h2⟩
        exact ⟨⟨h1, h2 y (List.mem_cons_self ..)⟩, fun x hx => h2 x (List.mem_cons_of_mem _ hx)⟩
  unfold orAll
  rw [H]
  exact ⟨fun h => h.2, fun h => ⟨Int.dvd_zero _, h⟩⟩
/-- How many low bits are 0 of all. -/
def word (a : Int) : Nat := (a % 18446744073709551616).toNat
def zerosL (l : List Int) : Nat := Lib.ctz 64 (word (orAll l))
theorem word_lt (a : Int) : word a < 18446744073709551616 := by unfold word; omega
theorem ctz_dvd {x : Nat} (hx : x < 2 ^ 64) {k : Nat} (hk : k ≤ 64) : 2 ^ k ∣ x ↔ k ≤ Lib.ctz 64 x := by
  unfold Lib.ctz
  by_cases h0 : x = 0
  · rw [if_pos h0, h0]; exact ⟨fun _ => hk, fun _ => Nat.dvd_zero _⟩
  · rw [if_neg h0]
    obtain ⟨m, hm, hc⟩ := Lib.ctzFrom_spec 64 x (by omega) hx
    generalize Lib.ctzFrom 64 x = c at *
    constructor
    · intro h
      apply Nat.le_of_not_lt
      intro hlt
      obtain ⟨j, rfl⟩ : ∃ j, k = c + (j + 1) := ⟨k - c - 1, by omega⟩
      rw [hm, Nat.pow_add] at h
      have h2 := Nat.dvd_of_mul_dvd_mul_left (Nat.two_pow_pos c) h
      have h3 : 2 ∣ 2 * m + 1 := Nat.dvd_trans ⟨2 ^ j, by rw [Nat.pow_succ, Nat.mul_comm]⟩ h2
      omega
    · intro h
      rw [hm]
      exact Nat.dvd_trans (Nat.pow_dvd_pow 2 h) (Nat.dvd_mul_right _ _)
theorem word_dvd (a : Int) {k : Nat} (hk : k ≤ 64) : 2 ^ k ∣ word a ↔ ((2 ^ k : Nat) : Int) ∣ a := by
  rw [← toNat_mod a hk, BitVec.toNat_ofInt]
  exact ⟨fun h => Nat.mod_eq_zero_of_dvd h, fun h => Nat.dvd_of_mod_eq_zero h⟩
/-- **Of numbers: the greatest n such that all are multiples of 2^n.** -/
theorem zerosL_le (l : List Int) {k : Nat} (hk : k ≤ 64) : k ≤ zerosL l ↔ ∀ x ∈ l, ((2 ^ k : Nat) : Int) ∣ x := by
  unfold zerosL
  rw [← ctz_dvd (by have := word_lt (orAll l); omega) hk, word_dvd _ hk, orAll_dvd hk]
theorem zerosL_most (l : List Int) : zerosL l ≤ 64 := by
  unfold zerosL Lib.ctz
  split
  · exact Nat.le_refl _
  · rename_i h
    obtain ⟨m, hm, hc⟩ := Lib.ctzFrom_spec 64 (word (orAll l)) (by omega) (by have := word_lt (orAll l); omega)
    omega
end Go.Proofs.BlkB
end

section
namespace Go.Proofs.Ytefbakhhlonafaa
open Go.RowKit Go.Proofs Go.Proofs.PipeM Go.Proofs.PipeA Go.Proofs.BlkM
set_option maxRecDepth 100000

/-- A row that may be written. -/
def Writable (W : World) (ao : Option Addr) (n : Nat) : Prop := ∀ b off, ao = some ⟨b, off, none⟩ → ∀ j, j < n → W.frozen? ⟨b, off + j, none⟩ = false
theorem Writable.keeps {W W' : World} {bs : List Nat} {b off n : Nat} (h : Writable W (some ⟨b, off, none⟩) n) (hk : Keeps bs W W') (hb : b < W.heap.size) (hn : b ∉ bs) : Writable W' (some ⟨b, off, none⟩) n := fun b' off' e j hj => by
  cases e
  rw [hk.frozen (p := ⟨b, off + j, none⟩) hb hn]
  exact h b off rfl j hj
theorem sizeN_cases (n : Int) : (decide (1 ≤ n) = false ∧ sizeN n = false) ∨ (decide (1 ≤ n) = true ∧ decide (n ≤ 1024) = false ∧ sizeN n = false) ∨ (decide (1 ≤ n) = true ∧ decide (n ≤ 1024) = true ∧ sizeN n = true) := by
  unfold sizeN
  by_cases h1 : 1 ≤ n
  · by_cases h2 : n ≤ 1024
    · exact .inr (.inr ⟨decide_eq_true h1, decide_eq_true h2, decide_eq_true (by omega)⟩)
    · exact .inr (.inl ⟨decide_eq_true h1, decide_eq_false h2, decide_eq_false (by omega)⟩)
  · exact .inl ⟨decide_eq_false h1, decide_eq_false (by omega)⟩
theorem cIsCount (n : Int) (w : World) :
    Calls Try.prog 37 #[.int .i64 n] w fun e w' => e = .returned (.bool (sizeN n)) ∧ w = w' := by
  rcases sizeN_cases n with ⟨h1, h2⟩ | ⟨h1, t, h2⟩ | ⟨h1, t, h2⟩
  all_goals
    rw [h2]
    clear h2
    go_enter Try.func37, Try.ntmps37
    go_wp2
    go_ret
    exact ⟨rfl, rfl⟩
theorem depthC_cases (d : Int) : (decide (8 ≤ d) = false ∧ depthB d = false) ∨ (decide (8 ≤ d) = true ∧ decide (d ≤ 26) = false ∧ depthB d = false) ∨ (decide (8 ≤ d) = true ∧ decide (d ≤ 26) = true ∧ depthB d = true) := by
  unfold depthB
  by_cases h1 : 8 ≤ d
  · by_cases h2 : d ≤ 26
    · exact .inr (.inr ⟨decide_eq_true h1, decide_eq_true h2, decide_eq_true (by omega)⟩)
    · exact .inr (.inl ⟨decide_eq_true h1, decide_eq_false h2, decide_eq_false (by omega)⟩)
  · exact .inl ⟨decide_eq_false h1, decide_eq_false (by omega)⟩
theorem cIsGood (d : Int) (w : World) :
    Calls Try.prog 38 #[.int .i64 d] w fun e w' => e = .returned (.bool (depthB d)) ∧ w = w' := by
  rcases depthC_cases d with ⟨h1, h2⟩ | ⟨h1, t, h2⟩ | ⟨h1, t, h2⟩
  all_goals
    rw [h2]
    clear h2
    go_enter Try.func38, Try.ntmps38
    go_wp2
    go_ret
    exact ⟨rfl, rfl⟩
/-- Is this a shift of samples of so many bits? -/
def shiftB (d s : Int) : Bool := decide (0 ≤ s ∧ s < d)
theorem shiftB_cases (d s : Int) : (decide (0 ≤ s) = false ∧ shiftB d s = false) ∨ (decide (0 ≤ s) = true ∧ decide (s < d) = false ∧ shiftB d s = false) ∨ (decide (0 ≤ s) = true ∧ decide (s < d) = true ∧ shiftB d s = true) := by
  unfold shiftB
  by_cases h1 : 0 ≤ s
  · by_cases h2 : s < d
    · exact .inr (.inr ⟨decide_eq_true h1, decide_eq_true h2, decide_eq_true ⟨h1, h2⟩⟩)
    · exact .inr (.inl ⟨decide_eq_true h1, decide_eq_false h2, decide_eq_false (fun h => h2 h.2)⟩)
  · exact .inl ⟨decide_eq_false h1, decide_eq_false (fun h => h1 h.1)⟩
theorem cHasShift (d s : Int) (w : World) :
    Calls Try.prog 61 #[.int .i64 d, .int .i64 s] w fun e w' => e = .returned (.bool (shiftB d s)) ∧ w = w' := by
  rcases shiftB_cases d s with ⟨h1, h2⟩ | ⟨h1, t, h2⟩ | ⟨h1, t, h2⟩
  all_goals
    rw [h2]
    clear h2
    go_enter Try.func61, Try.ntmps61
    go_wp2
    go_ret
    exact ⟨rfl, rfl⟩
/-- Is a Kind one of the four? -/
def kindB (k : Int) : Bool := decide (0 ≤ k ∧ k ≤ 3)
theorem cIsKind (k : Int) (w : World) :
    Calls Try.prog 39 #[.int .i64 k] w fun e w' => e = .returned (.bool (kindB k)) ∧ w = w' := by
  have h : k = 0 ∨ k = 1 ∨ k = 2 ∨ k = 3 ∨ ((k == 0) = false ∧ (k == 1) = false ∧ (k == 2) = false ∧ (k == 3) = false ∧ kindB k = false) := by
    by_cases h0 : k = 0
    · exact .inl h0
    by_cases h1 : k = 1
    · exact .inr (.inl h1)
    by_cases h2 : k = 2
    · exact .inr (.inr (.inl h2))
    by_cases h3 : k = 3
    · exact .inr (.inr (.inr (.inl h3)))
    · exact .inr (.inr (.inr (.inr ⟨beq_eq_false_iff_ne.2 h0, beq_eq_false_iff_ne.2 h1, beq_eq_false_iff_ne.2 h2, beq_eq_false_iff_ne.2 h3, decide_eq_false (by omega)⟩)))
  rcases h with rfl | rfl | rfl | rfl | ⟨t0, t1, t2, t3, hk⟩
  rotate_right
  · rw [hk]
    clear hk
    go_enter Try.func39, Try.ntmps39
    go_wp2
    go_ret
    exact ⟨rfl, rfl⟩
  all_goals
    go_enter Try.func39, Try.ntmps39
    go_wp2
    go_ret
    exact ⟨rfl, rfl⟩

theorem cMost (m : Nat) (w : World) (h1 : 8 ≤ m) (h2 : m ≤ 26) :
    Calls Try.prog 66 #[.int .i64 (m : Int)] w fun e w' => e = .returned (.int .i64 (halfOf (m : Int) - 1)) ∧ w = w' := by
  have h : m = 8 ∨ m = 9 ∨ m = 10 ∨ m = 11 ∨ m = 12 ∨ m = 13 ∨ m = 14 ∨ m = 15 ∨ m = 16 ∨ m = 17 ∨ m = 18 ∨ m = 19 ∨ m = 20 ∨ m = 21 ∨ m = 22 ∨ m = 23 ∨ m = 24 ∨ m = 25 ∨ m = 26 := by omega
  clear h1 h2
  rcases h with rfl | rfl | rfl | rfl | rfl | rfl | rfl | rfl | rfl | rfl | rfl | rfl | rfl | rfl | rfl | rfl | rfl | rfl | rfl
  all_goals
    go_enter Try.func66, Try.ntmps66
    go_wp2
    go_ret
    exact ⟨rfl, rfl⟩

set_option maxHeartbeats 800000 in
theorem cLacks (n : Int) (m : Nat) (w : World) (h1 : 8 ≤ m) (h2 : m ≤ 26) :
    Calls Try.prog 45 #[.int .i64 (m : Int), .int .i64 n] w fun e w' => e = .returned (.bool (!hasP (halfOf (m : Int)) n)) ∧ w = w' := by
  have HP := Lib.hid (cMost m w h1 h2)
  have hb := hp_bound h1 h2
  generalize halfOf (m : Int) = P at *
  have hwr : IntKind.i64.wrap (IntKind.i64.wrap (-(P - 1)) - 1) = -P := by
    rw [IntWalk.i64_in (-(P - 1)) (by omega), IntWalk.i64_in _ (by omega)]; omega
  have HWR := Lib.hid hwr
  have hwr1 : IntKind.i64.wrap (-(P - 1)) = 1 - P := by rw [IntWalk.i64_in _ (by omega)]; omega
  have hwr2 : IntKind.i64.wrap (1 - P - 1) = -P := by rw [IntWalk.i64_in _ (by omega)]; omega
  clear hwr
  by_cases a1 : n < -P
  · have t1 : decide (n < -P) = true := decide_eq_true a1
    have HF : Hid (hasP P n = false) := decide_eq_false (fun h => by omega)
    clear a1 hb
    go_enter Try.func45, Try.ntmps45
    go_wp2_with fail
    refine HP.out.mono ?_
    rintro e w1 ⟨rfl, rfl⟩
    go_wp2
    go_ret
    exact ⟨by rw [HF.out]; rfl, rfl⟩
  · have t1 : decide (n < -P) = false := decide_eq_false a1
    by_cases a2 : P - 1 < n
    · have t2 : decide (P - 1 < n) = true := decide_eq_true a2
      have HF : Hid (hasP P n = false) := decide_eq_false (fun h => by omega)
      clear a1 a2 hb
      go_enter Try.func45, Try.ntmps45
      go_wp2_with fail
      refine HP.out.mono ?_
      rintro e w1 ⟨rfl, rfl⟩
      go_wp2_with fail
      refine HP.out.mono ?_
      rintro e w1 ⟨rfl, rfl⟩
      go_wp2
      go_ret
      exact ⟨by rw [HF.out]; rfl, rfl⟩
    · have t2 : decide (P - 1 < n) = false := decide_eq_false a2
      have HF : Hid (hasP P n = true) := decide_eq_true (by omega)
      clear a1 a2 hb
      go_enter Try.func45, Try.ntmps45
      go_wp2_with fail
      refine HP.out.mono ?_
      rintro e w1 ⟨rfl, rfl⟩
      go_wp2_with fail
      refine HP.out.mono ?_
      rintro e w1 ⟨rfl, rfl⟩
      go_wp2
      go_ret
      exact ⟨by rw [HF.out]; rfl, rfl⟩

theorem b_any_take {f : Int → Bool} {l : List Int} {c : Nat} (hc : c < l.length) : (l.take (c + 1)).any f = ((l.take c).any f || f l[c]) := by
  rw [List.take_succ_eq_append_getElem hc, List.any_append]; simp
def FoundB (l : List Int) (f : Int → Bool) (k : Int) : Prop := decide (0 ≤ k) = l.any f

set_option maxHeartbeats 800000 in
theorem cIndexLacks (ao : Option Addr) (cap : Nat) (l : List Int) (m : Nat) (w : World) (h1 : 8 ≤ m) (h2 : m ≤ 26) (hl : l.length ≤ 9223372036854775807) (hi : IntsAt w ao l) :
    Calls Try.prog 68 #[.slice ao l.length cap, .func (.func 45) #[.int .i64 (m : Int)] #[]] w fun e w' => ∃ k : Int, e = .returned (.int .i64 k) ∧ FoundB l (fun n => !hasP (halfOf (m : Int)) n) k ∧ w = w' := by
  have HI := Lib.hid hi
  have HL := fun n W => Lib.hid (cLacks n m W h1 h2)
  clear hi
  generalize halfOf (m : Int) = P at *
  go_enter Try.func68, Try.ntmps68
  go_wp2
  go_loopg [5, 8] l.length (fun gk q i wr => ∃ c : Nat, c ≤ l.length ∧ gk + c = l.length ∧ i = .int .i64 c ∧ Hid ((l.take c).any (fun n => !hasP P n) = false) ∧ w = wr)
  case atStart => exact ⟨0, Nat.zero_le _, by omega, rfl, by simp [Hid], rfl⟩
  case round =>
    obtain ⟨c, hc, hgk, rfl, HT, rfl⟩ := hrel
    have HGK := Lib.hid hgk
    clear hgk
    by_cases hlt : c < l.length
    · obtain ⟨b, off, rfl, hg, hcell⟩ := HI.out c hlt
      have HNX := Lib.hid (b_any_take (f := fun n => !hasP P n) hlt)
      have HLC := fun W => Lib.hid (HL l[c] W).out
      have HMem : Hid (hasP P l[c] = false → l.any (fun n => !hasP P n) = true) := fun h => List.any_eq_true.2 ⟨l[c], List.getElem_mem hlt, by simp [h]⟩
      generalize l[c] = x at hcell HNX HLC HMem
      cases hx : hasP P x
      · have HM2 := Lib.hid (HMem.out hx)
        rw [hx] at HLC
        clear hx HMem HNX hg
        go_wp2_with fail
        refine (HLC _).out.mono ?_
        rintro e w1 ⟨rfl, rfl⟩
        go_wp2
        go_ret
        exact ⟨_, rfl, by unfold FoundB; rw [HM2.out]; exact decide_eq_true (by omega), rfl⟩
      · have HN2 : Hid ((l.take (c + 1)).any (fun n => !hasP P n) = false) := by show _ = _; rw [HNX.out, HT.out]; simp [hx]
        rw [hx] at HLC
        clear hx HMem HNX hg
        go_wp2_with fail
        refine (HLC _).out.mono ?_
        rintro e w1 ⟨rfl, rfl⟩
        go_wp2
        go_roundg (gk - 1)
        case rel => exact ⟨c + 1, by omega, by have := HGK.out; omega, by go_num, HN2, rfl⟩
        case measure => have := HGK.out; omega
    · obtain rfl : c = l.length := by omega
      have HA : Hid (l.any (fun n => !hasP P n) = false) := by have := HT.out; rw [List.take_length] at this; exact this
      go_wp2
      go_ret
      exact ⟨_, rfl, by unfold FoundB; rw [HA.out]; rfl, rfl⟩

set_option maxHeartbeats 400000 in
theorem cContainsLacks (ao : Option Addr) (cap : Nat) (l : List Int) (m : Nat) (w : World) (h1 : 8 ≤ m) (h2 : m ≤ 26) (hl : l.length ≤ 9223372036854775807) (hi : IntsAt w ao l) :
    Calls Try.prog 44 #[.slice ao l.length cap, .func (.func 45) #[.int .i64 (m : Int)] #[]] w fun e w' => e = .returned (.bool (l.any (fun n => !hasP (halfOf (m : Int)) n))) ∧ w = w' := by
  have HC := Lib.hid (cIndexLacks ao cap l m w h1 h2 hl hi)
  obtain ⟨d, hd⟩ : ∃ d, d = l.any (fun n => !hasP (halfOf (m : Int)) n) := ⟨_, rfl⟩
  rw [← hd]
  have HD := Lib.hid hd
  clear hi hd
  go_enter Try.func44, Try.ntmps44
  go_wp2_with fail
  refine HC.out.mono ?_
  rintro e w1 ⟨k, rfl, hf, rfl⟩
  unfold FoundB at hf
  rw [← HD.out] at hf
  go_wp2
  go_ret
  exact ⟨rfl, rfl⟩


/-- What is wrong with samples. -/
def chkB (l : List Int) (d : Int) : Int := if !(sizeN (l.length : Int) && depthB d) then 1 else if l.all (hasP (halfOf d)) then 0 else 9
theorem any_not_all (P : Int) (l : List Int) : l.any (fun n => !hasP P n) = !(l.all (hasP P)) := by
  induction l with
  | nil => rfl
  | cons x r ih => simp only [List.any_cons, List.all_cons, ih]; cases hasP P x <;> simp

set_option maxHeartbeats 800000 in
theorem cCheck (ao : Option Addr) (cap : Nat) (l : List Int) (d : Int) (w : World) (hl : l.length ≤ 1000000) (hi : IntsAt w ao l) :
    Calls Try.prog 21 #[.int .i64 d, .slice ao l.length cap] w fun e w' => e = .returned (.int .i64 (chkB l d)) ∧ w = w' := by
  have HS := Lib.hid (cIsCount (l.length : Int) w)
  have HG := Lib.hid (cIsGood d w)
  have HE : Hid (chkB l d = if !(sizeN (l.length : Int) && depthB d) then 1 else if l.all (hasP (halfOf d)) then 0 else 9) := rfl
  have HX : Hid (depthB d = true → ∃ m : Nat, d = m ∧ 8 ≤ m ∧ m ≤ 26) := fun h => depthB_of h
  have HI := Lib.hid hi
  clear hi
  cases hs : sizeN (l.length : Int) with
  | false =>
    rw [hs, if_pos (by rfl)] at HE
    rw [hs] at HS
    clear hs
    go_enter Try.func21, Try.ntmps21
    go_wp2_with fail
    refine HS.out.mono ?_
    rintro e w1 ⟨rfl, rfl⟩
    go_wp2
    go_ret
    exact ⟨by rw [HE.out]; rfl, rfl⟩
  | true =>
    cases hd : depthB d with
    | false =>
      rw [hs, hd, if_pos (by rfl)] at HE
      rw [hs] at HS
      rw [hd] at HG
      clear hs hd
      go_enter Try.func21, Try.ntmps21
      go_wp2_with fail
      refine HS.out.mono ?_
      rintro e w1 ⟨rfl, rfl⟩
      go_wp2_with fail
      refine HG.out.mono ?_
      rintro e w1 ⟨rfl, rfl⟩
      go_wp2
      go_ret
      exact ⟨by rw [HE.out]; rfl, rfl⟩
    | true =>
      obtain ⟨m, rfl, h1, h2⟩ := HX.out hd
      have HC := Lib.hid (cContainsLacks ao cap l m w h1 h2 (by omega) HI.out)
      rw [any_not_all] at HC
      rw [hs, hd, if_neg (by simp)] at HE
      rw [hs] at HS
      rw [hd] at HG
      clear hs hd HX h1 h2
      cases ha : l.all (hasP (halfOf (m : Int))) with
      | false =>
        rw [ha] at HE HC
        clear ha
        go_enter Try.func21, Try.ntmps21
        go_wp2_with fail
        refine HS.out.mono ?_
        rintro e w1 ⟨rfl, rfl⟩
        go_wp2_with fail
        refine HG.out.mono ?_
        rintro e w1 ⟨rfl, rfl⟩
        go_wp2_with fail
        refine HC.out.mono ?_
        rintro e w1 ⟨rfl, rfl⟩
        go_wp2
        go_ret
        exact ⟨by rw [HE.out]; rfl, rfl⟩
      | true =>
        rw [ha] at HE HC
        clear ha
        go_enter Try.func21, Try.ntmps21
        go_wp2_with fail
        refine HS.out.mono ?_
        rintro e w1 ⟨rfl, rfl⟩
        go_wp2_with fail
        refine HG.out.mono ?_
        rintro e w1 ⟨rfl, rfl⟩
        go_wp2_with fail
        refine HC.out.mono ?_
        rintro e w1 ⟨rfl, rfl⟩
        go_wp2
        go_ret
        exact ⟨by rw [HE.out]; rfl, rfl⟩
end Go.Proofs.Ytefbakhhlonafaa
end
