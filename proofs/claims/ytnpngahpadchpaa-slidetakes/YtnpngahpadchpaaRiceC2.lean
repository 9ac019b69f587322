import Derived.Test.YtnpngahpadchpaaRiceC1
import Derived.Test.YtnpngahpadchpaaSim2
import Derived.Test.YtnpngahpadchpaaCommon
namespace Go.Proofs.Ytnpngahpadchpaa
open Go.RowKit Go.Proofs Go.Proofs.PipeM Go.Proofs.PipeA

/-- How many bits 0, what comes behind them, and in how many bits. -/
def parts3 (n : Int) (k : Nat) : Nat × Nat × Nat := if foldN n / 2 ^ k < 24 then (foldN n / 2 ^ k, foldN n % 2 ^ k, k) else (24, foldN n, 34)
theorem codeV_parts (n : Int) (k : Nat) : codeV n k = codeVal (parts3 n k).1 (parts3 n k).2.1 (parts3 n k).2.2 := by
  unfold codeV parts3; split <;> rfl
theorem parts3_bits (n : Int) (k : Nat) : codeBits n k = (List.replicate (parts3 n k).1 false ++ [true]) ++ low (parts3 n k).2.1 (parts3 n k).2.2 := by
  unfold codeBits codeZ parts3; split <;> rfl
theorem parts3_lt (n : Int) (k : Nat) (h : InR n) (hk : k ≤ 24) : (parts3 n k).1 ≤ 24 ∧ (parts3 n k).2.1 < 2 ^ (parts3 n k).2.2 ∧ (parts3 n k).2.2 ≤ 34 := by
  unfold parts3
  split
  · exact ⟨by simp; omega, Nat.mod_lt _ (Nat.two_pow_pos k), by simp; omega⟩
  · exact ⟨by simp, foldN_lt h, by simp⟩

set_option maxHeartbeats 800000 in
theorem cCost_yes (n : Int) (k : Nat) (w : World) (h : InR n) (hk : k ≤ 24) :
    Calls Try.prog 68 #[.int .i64 n, .int .i64 k] w fun e w' => e = .returned (.int .i64 (costN n k)) ∧ Below w.heap.size w w' := by
  have HC := fun W => Lib.hid (cCode_yes n k W h hk)
  rw [codeV_parts] at HC
  have hl := codeBits_length n k
  rw [parts3_bits] at hl
  simp [low_length] at hl
  obtain ⟨l1, l2, l3⟩ := parts3_lt n k h hk
  obtain ⟨⟨a, b, c⟩, hp⟩ : ∃ p, p = parts3 n k := ⟨_, rfl⟩
  rw [← hp] at HC hl l1 l2 l3
  simp only at hl l1 l2 l3 HC
  have HL := Lib.hid hl
  clear hl hp l2
  simp only [codeVal] at HC
  go_enter Try.func68, Try.ntmps68
  go_wp2_with fail
  refine (HC _).out.mono ?_
  rintro e w1 ⟨rfl, hb⟩
  have HB := Lib.hid hb
  clear hb
  go_wp2
  go_ret
  exact ⟨by rw [← HL.out]; show Ending.returned (Value.int .i64 ((a : Int) + 1 + (c : Int))) = _; congr 2; omega, HB.out.alloc HB.out.size _⟩

set_option maxHeartbeats 800000 in
theorem cCost (n k : Int) (w : World) :
    Calls Try.prog 68 #[.int .i64 n, .int .i64 k] w fun e w' => e = .returned (.int .i64 ((codeOf n k).length : Nat)) ∧ Below w.heap.size w w' := by
  by_cases h : codeOk n k = true
  · have h4 : -8589934592 ≤ n ∧ n ≤ 8589934591 ∧ 0 ≤ k ∧ k ≤ 24 := of_decide_eq_true h
    obtain ⟨m, rfl⟩ := Int.eq_ofNat_of_zero_le h4.2.2.1
    have e : (codeOf n (m : Int)).length = costN n m := by unfold codeOf; rw [if_pos h, Int.toNat_natCast, codeBits_length]
    rw [e]
    exact cCost_yes n m w ⟨h4.1, h4.2.1⟩ (by omega)
  · have h' : codeOk n k = false := by simpa using h
    have e : (codeOf n k).length = 0 := by unfold codeOf; rw [h']; rfl
    rw [e]
    have HC := fun W => Lib.hid (cCode_no n k W h')
    simp only [codeVal] at HC
    clear h h' e
    go_enter Try.func68, Try.ntmps68
    go_wp2_with fail
    refine (HC _).out.mono ?_
    rintro e w1 ⟨rfl, hb⟩
    have HB := Lib.hid hb
    clear hb
    go_wp2
    go_ret
    exact ⟨rfl, HB.out.alloc HB.out.size _⟩

set_option maxHeartbeats 1600000 in
theorem cPut_yes (b : Nat) (v : Value) (l : List Bool) (zs : List Nat) (n : Int) (k : Nat) (w : World) (h : InR n) (hk : k ≤ 24) (hl : l.length ≤ 90000) (hw : WrIs w b v l zs) :
    Calls Try.prog 39 #[.pointer (some ⟨b, 0, none⟩), .int .i64 n, .int .i64 k] w (Puts w b v true (l ++ codeBits n k)) := by
  have HC := fun W => Lib.hid (cCode_yes n k W h hk)
  rw [codeV_parts] at HC
  rw [parts3_bits]
  obtain ⟨l1, l2, l3⟩ := parts3_lt n k h hk
  obtain ⟨⟨a, x, c⟩, hp⟩ : ∃ p, p = parts3 n k := ⟨_, rfl⟩
  rw [← hp] at HC l1 l2 l3 ⊢
  simp only at l1 l2 l3 HC ⊢
  have HX := Lib.hid l2
  have HW := Lib.hid hw
  clear hp l2 hw
  simp only [codeVal] at HC
  obtain ⟨L, hL⟩ : ∃ L, L = l ++ ((List.replicate a false ++ [true]) ++ low x c) := ⟨_, rfl⟩
  rw [← hL]
  have HL := Lib.hid hL
  clear hL
  go_enter Try.func39, Try.ntmps39
  go_wp2_with fail
  refine (HC _).out.mono ?_
  rintro e w1 ⟨rfl, hb⟩
  have HB := Lib.hid hb
  clear hb HC
  have hkp : Keeps [] w (w1.alloc (.cells #[.int .i64 a, .int .u64 x, .int .i64 c] 97)) := keeps_of_below (HB.out.alloc HB.out.size _) []
  have HW2 : Hid (WrIs (w1.alloc (.cells #[.int .i64 a, .int .u64 x, .int .i64 c] 97)) b v l zs) := HW.out.keeps hkp (by simp) (by simp)
  have HK := Lib.hid hkp
  clear hkp
  go_wp2_with fail
  refine (wZeros_yes b v l zs a _ (by omega) (by omega) HW2.out).mono ?_
  rintro e w2 ⟨rfl, hw2⟩
  have hcell : ∀ i u, (w1.alloc (.cells #[.int .i64 a, .int .u64 x, .int .i64 c] 97)).cell? ⟨w1.heap.size, i, none⟩ = some u → w2.cell? ⟨w1.heap.size, i, none⟩ = some u := by
    intro i u hu
    obtain ⟨v', zs', _, hk2, _⟩ := hw2
    have hlt := HW.out.lt
    have hle := HB.out.size
    have ho := own_block_lt HW.out.own
    rw [hk2.cell (p := ⟨w1.heap.size, i, none⟩) (by simp) (by simp; exact ⟨by omega, fun hg => by have := (ho _ hg).2; omega⟩), hu]
  have c1 := hcell 1 (.int .u64 x) (by simp)
  have c2 := hcell 2 (.int .i64 c) (by simp)
  obtain ⟨v3, zs3, hi3, hk3, ho3⟩ := Wrote.later HK.out hw2
  have H3 := Lib.hid hi3
  have HK3 := Lib.hid hk3
  have HO3 := Lib.hid ho3
  clear hi3 hcell hk3 ho3 hw2
  go_wp2_with fail
  refine (wPut_yes b v3 _ zs3 x c w2 (by omega) HX.out (by simp; omega) H3.out).mono ?_
  rintro e w4 ⟨rfl, hw4⟩
  have HR4 : Hid (Wrote w b v L w4) := by
    rw [HL.out, ← List.append_assoc]
    exact Wrote.next HK3.out HO3.out hw4
  clear hw4
  go_wp2
  go_ret
  exact ⟨rfl, HR4.out⟩

theorem cPut_no (b : Nat) (n k : Int) (w : World) (h : codeOk n k = false) :
    Calls Try.prog 39 #[.pointer (some ⟨b, 0, none⟩), .int .i64 n, .int .i64 k] w fun e w' => e = .returned (.bool false) ∧ Below w.heap.size w w' := by
  have HC := fun W => Lib.hid (cCode_no n k W h)
  simp only [codeVal] at HC
  clear h
  go_enter Try.func39, Try.ntmps39
  go_wp2_with fail
  refine (HC _).out.mono ?_
  rintro e w1 ⟨rfl, hb⟩
  have HB := Lib.hid hb
  clear hb HC
  go_wp2
  go_ret
  exact ⟨rfl, HB.out.alloc HB.out.size _⟩

theorem cPut (b : Nat) (v : Value) (l : List Bool) (zs : List Nat) (n k : Int) (w : World) (hl : l.length ≤ 90000) (hw : WrIs w b v l zs) :
    Calls Try.prog 39 #[.pointer (some ⟨b, 0, none⟩), .int .i64 n, .int .i64 k] w (Puts w b v (codeOk n k) (l ++ codeOf n k)) := by
  by_cases h : codeOk n k = true
  · have h4 : -8589934592 ≤ n ∧ n ≤ 8589934591 ∧ 0 ≤ k ∧ k ≤ 24 := of_decide_eq_true h
    obtain ⟨m, rfl⟩ := Int.eq_ofNat_of_zero_le h4.2.2.1
    have e : codeOf n (m : Int) = codeBits n m := by unfold codeOf; rw [if_pos h, Int.toNat_natCast]
    rw [e, h]
    exact cPut_yes b v l zs n m w ⟨h4.1, h4.2.1⟩ (by omega) hl hw
  · have h' : codeOk n k = false := by simpa using h
    have e : codeOf n k = [] := by unfold codeOf; rw [h']; rfl
    rw [e, h', List.append_nil]
    refine (cPut_no b n k w h').mono ?_
    rintro e w1 ⟨rfl, hb⟩
    exact ⟨rfl, Wrote.later (keeps_of_below hb []) (Wrote.refl (hw.keeps (keeps_of_below hb []) (by simp) (by simp)))⟩
end Go.Proofs.Ytnpngahpadchpaa
