import Derived.Test.YtefbakhhlonafaaSim2
import Derived.Test.YtefbakhhlonafaaRef3a

section
namespace Go.Proofs.Ytefbakhhlonafaa
open Go.RowKit Go.Proofs Go.Proofs.PipeM Go.Proofs.PipeA

/-- How many bits 0, what comes behind them, and in how many bits. -/
def parts3 (n : Int) (k : Nat) : Nat × Nat × Nat := if foldN n / 2 ^ k < 24 then (foldN n / 2 ^ k, foldN n % 2 ^ k, k) else (24, foldN n, 34)
theorem codeV_parts (n : Int) (k : Nat) : codeV n k = codeVal (parts3 n k).1 (parts3 n k).2.1 (parts3 n k).2.2 := by
  unfold codeV parts3; split <;> rfl
theorem parts3_bits (n : Int) (k : Nat) : codeBits n k = (List.replicate (parts3 n k).1 false ++ [true]) ++ low (parts3 n k).2.1 (parts3 n k).2.2 := by
  unfold codeBits codeZ parts3; split <;> rfl
theorem parts3_lt (n : Int) (k : Nat) (h : InR n) (hk : k ≤ 24) : (parts3 n k).1 ≤ 24 ∧ (parts3 n k).2.1 < 2 ^ (parts3 n k).2.2 ∧ (parts3 n k).2.2 ≤ 34 := by
  unfold parts3
  split
  · exact ⟨by simp; omega, Nat.mod_lt _ (Nat.two_pow_pos k), by simp; omega⟩
  · exact ⟨by simp, foldN_lt h, by simp⟩

set_option maxHeartbeats 800000 in
theorem cCost_yes (n : Int) (k : Nat) (w : World) (h : InR n) (hk : k ≤ 24) :
    Calls Try.prog 91 #[.int .i64 n, .int .i64 k] w fun e w' => e = .returned (.int .i64 (costN n k)) ∧ Below w.heap.size w w' := by
  have HC := fun W => Lib.hid (cCode_yes n k W h hk)
  rw [codeV_parts] at HC
  have hl := codeBits_length n k
  rw [parts3_bits] at hl
  simp [low_length] at hl
  obtain ⟨l1, l2, l3⟩ := parts3_lt n k h hk
  obtain ⟨⟨a, b, c⟩, hp⟩ : ∃ p, p = parts3 n k := ⟨_, rfl⟩
  rw [← hp] at HC hl l1 l2 l3
  simp only at hl l1 l2 l3 HC
  have HL := Lib.hid hl
  clear hl hp l2
  simp only [codeVal] at HC
  go_enter Try.func91, Try.ntmps91
  go_wp2_with fail
  refine (HC _).out.mono ?_
  rintro e w1 ⟨rfl, hb⟩
  have HB := Lib.hid hb
  clear hb
  go_wp2
  go_ret
  exact ⟨by rw [← HL.out]; show Ending.returned (Value.int .i64 ((a : Int) + 1 + (c : Int))) = _; congr 2; omega, HB.out.alloc HB.out.size _⟩

set_option maxHeartbeats 800000 in
theorem cCost (n k : Int) (w : World) :
    Calls Try.prog 91 #[.int .i64 n, .int .i64 k] w fun e w' => e = .returned (.int .i64 ((codeOf n k).length : Nat)) ∧ Below w.heap.size w w' := by
  by_cases h : codeOk n k = true
  · have h4 : -8589934592 ≤ n ∧ n ≤ 8589934591 ∧ 0 ≤ k ∧ k ≤ 24 := of_decide_eq_true h
    obtain ⟨m, rfl⟩ := Int.eq_ofNat_of_zero_le h4.2.2.1
    have e : (codeOf n (m : Int)).length = costN n m := by unfold codeOf; rw [if_pos h, Int.toNat_natCast, codeBits_length]
    rw [e]
    exact cCost_yes n m w ⟨h4.1, h4.2.1⟩ (by omega)
  · have h' : codeOk n k = false := by simpa using h
    have e : (codeOf n k).length = 0 := by unfold codeOf; rw [h']; rfl
    rw [e]
    have HC := fun W => Lib.hid (cCode_no n k W h')
    simp only [codeVal] at HC
    clear h h' e
    go_enter Try.func91, Try.ntmps91
    go_wp2_with fail
    refine (HC _).out.mono ?_
    rintro e w1 ⟨rfl, hb⟩
    have HB := Lib.hid hb
    clear hb
    go_wp2
    go_ret
    exact ⟨rfl, HB.out.alloc HB.out.size _⟩

set_option maxHeartbeats 1600000 in
theorem cPut_yes (b : Nat) (v : Value) (l : List Bool) (zs : List Nat) (n : Int) (k : Nat) (w : World) (h : InR n) (hk : k ≤ 24) (hl : l.length ≤ 90000) (hw : WrIs w b v l zs) :
    Calls Try.prog 75 #[.pointer (some ⟨b, 0, none⟩), .int .i64 n, .int .i64 k] w (Puts w b v true (l ++ codeBits n k)) := by
  have HC := fun W => Lib.hid (cCode_yes n k W h hk)
  rw [codeV_parts] at HC
  rw [parts3_bits]
  obtain ⟨l1, l2, l3⟩ := parts3_lt n k h hk
  obtain ⟨⟨a, x, c⟩, hp⟩ : ∃ p, p = parts3 n k := ⟨_, rfl⟩
  rw [← hp] at HC l1 l2 l3 ⊢
  simp only at l1 l2 l3 HC ⊢
  have HX := Lib.hid l2
  have HW := Lib.hid hw
  clear hp l2 hw
  simp only [codeVal] at HC
  obtain ⟨L, hL⟩ : ∃ L, L = l ++ ((List.replicate a false ++ [true]) ++ low x c) := ⟨_, rfl⟩
  rw [← hL]
  have HL := Lib.hid hL
  clear hL
  go_enter Try.func75, Try.ntmps75
  go_wp2_with fail
  refine (HC _).out.mono ?_
  rintro e w1 ⟨rfl, hb⟩
  have HB := Lib.hid hb
  clear hb HC
  have hkp : Keeps [] w (w1.alloc (.cells #[.int .i64 a, .int .u64 x, .int .i64 c] 112)) := keeps_of_below (HB.out.alloc HB.out.size _) []
  have HW2 : Hid (WrIs (w1.alloc (.cells #[.int .i64 a, .int .u64 x, .int .i64 c] 112)) b v l zs) := HW.out.keeps hkp (by simp) (by simp)
  have HK := Lib.hid hkp
  clear hkp
  go_wp2_with fail
  refine (wZeros_yes b v l zs a _ (by omega) (by omega) HW2.out).mono ?_
  rintro e w2 ⟨rfl, hw2⟩
  have hcell : ∀ i u, (w1.alloc (.cells #[.int .i64 a, .int .u64 x, .int .i64 c] 112)).cell? ⟨w1.heap.size, i, none⟩ = some u → w2.cell? ⟨w1.heap.size, i, none⟩ = some u := by
    intro i u hu
    obtain ⟨v', zs', _, hk2, _⟩ := hw2
    have hlt := HW.out.lt
    have hle := HB.out.size
    have ho := own_block_lt HW.out.own
    rw [hk2.cell (p := ⟨w1.heap.size, i, none⟩) (by simp) (by simp; exact ⟨by omega, fun hg => by have := (ho _ hg).2; omega⟩), hu]
  have c1 := hcell 1 (.int .u64 x) (by simp)
  have c2 := hcell 2 (.int .i64 c) (by simp)
  obtain ⟨v3, zs3, hi3, hk3, ho3⟩ := Wrote.later HK.out hw2
  have H3 := Lib.hid hi3
  have HK3 := Lib.hid hk3
  have HO3 := Lib.hid ho3
  clear hi3 hcell hk3 ho3 hw2
  go_wp2_with fail
  refine (wPut_yes b v3 _ zs3 x c w2 (by omega) HX.out (by simp; omega) H3.out).mono ?_
  rintro e w4 ⟨rfl, hw4⟩
  have HR4 : Hid (Wrote w b v L w4) := by
    rw [HL.out, ← List.append_assoc]
    exact Wrote.next HK3.out HO3.out hw4
  clear hw4
  go_wp2
  go_ret
  exact ⟨rfl, HR4.out⟩

theorem cPut_no (b : Nat) (n k : Int) (w : World) (h : codeOk n k = false) :
    Calls Try.prog 75 #[.pointer (some ⟨b, 0, none⟩), .int .i64 n, .int .i64 k] w fun e w' => e = .returned (.bool false) ∧ Below w.heap.size w w' := by
  have HC := fun W => Lib.hid (cCode_no n k W h)
  simp only [codeVal] at HC
  clear h
  go_enter Try.func75, Try.ntmps75
  go_wp2_with fail
  refine (HC _).out.mono ?_
  rintro e w1 ⟨rfl, hb⟩
  have HB := Lib.hid hb
  clear hb HC
  go_wp2
  go_ret
  exact ⟨rfl, HB.out.alloc HB.out.size _⟩

theorem cPut (b : Nat) (v : Value) (l : List Bool) (zs : List Nat) (n k : Int) (w : World) (hl : l.length ≤ 90000) (hw : WrIs w b v l zs) :
    Calls Try.prog 75 #[.pointer (some ⟨b, 0, none⟩), .int .i64 n, .int .i64 k] w (Puts w b v (codeOk n k) (l ++ codeOf n k)) := by
  by_cases h : codeOk n k = true
  · have h4 : -8589934592 ≤ n ∧ n ≤ 8589934591 ∧ 0 ≤ k ∧ k ≤ 24 := of_decide_eq_true h
    obtain ⟨m, rfl⟩ := Int.eq_ofNat_of_zero_le h4.2.2.1
    have e : codeOf n (m : Int) = codeBits n m := by unfold codeOf; rw [if_pos h, Int.toNat_natCast]
    rw [e, h]
    exact cPut_yes b v l zs n m w ⟨h4.1, h4.2.1⟩ (by omega) hl hw
  · have h' : codeOk n k = false := by simpa using h
    have e : codeOf n k = [] := by unfold codeOf; rw [h']; rfl
    rw [e, h', List.append_nil]
    refine (cPut_no b n k w h').mono ?_
    rintro e w1 ⟨rfl, hb⟩
    exact ⟨rfl, Wrote.later (keeps_of_below hb []) (Wrote.refl (hw.keeps (keeps_of_below hb []) (by simp) (by simp)))⟩
end Go.Proofs.Ytefbakhhlonafaa
end

section
namespace Go.Proofs.Ytefbakhhlonafaa
open Go.RowKit Go.Proofs Go.Proofs.PipeM Go.Proofs.PipeA

/-- The folded number that is taken; where the reader fails it may be any. -/
def RS.foldT (s : RS) (k : Nat) : RS :=
  if (s.zeros 24).1 < 24 then (s.zeros 24).2.takeS k
  else if ((s.zeros 24).2.takeV 34) / 2 ^ k < 24 then ((s.zeros 24).2.takeS 34).give 2 else (s.zeros 24).2.takeS 34
def RS.foldV (s : RS) (k : Nat) : Nat :=
  if (s.zeros 24).1 < 24 then (s.zeros 24).1 * 2 ^ k + (s.zeros 24).2.takeV k else (s.zeros 24).2.takeV 34

theorem takeV_ltn (s : RS) (n : Nat) (hn : n ≤ 48) : s.takeV n < 2 ^ n := by
  unfold RS.takeV
  split
  · refine Nat.lt_of_lt_of_le (num_lt _) (Nat.pow_le_pow_right (by decide) ?_)
    rw [List.length_take]; omega
  · exact Nat.two_pow_pos n

theorem or_shift (q v k : Nat) (hq : q < 24) (hk : k ≤ 24) (hv : v < 2 ^ k) : bits BinOp.or IntKind.i64 (IntKind.i64.wrap ((q : Int) * 2 ^ k)) (IntKind.i64.wrap (v : Int)) = ((q * 2 ^ k + v : Nat) : Int) := by
  obtain ⟨p1, p2⟩ := pow24 k hk
  have e := pow_cast k
  have hm : q * 2 ^ k ≤ 24 * 16777216 := Nat.mul_le_mul (by omega) p2
  have e2 : (q : Int) * 2 ^ k = ((q * 2 ^ k : Nat) : Int) := by rw [Int.natCast_mul, e]
  have hw : IntKind.i64.wrap ((q : Int) * 2 ^ k) = ((q * 2 ^ k : Nat) : Int) := by rw [e2]; exact IntWalk.i64_in _ (by omega)
  have hw2 : IntKind.i64.wrap (v : Int) = (v : Int) := IntWalk.i64_in _ (by omega)
  rw [hw, hw2, bits_join .i64 34 (by decide) (fun n h1 h2 => IntWalk.i64_in _ (by omega)) k _ _ (by omega) ?_ (by omega) (by omega) (by omega) (by omega)]
  · omega
  · rw [← e, ← Int.natCast_emod, Nat.mul_mod_left]; rfl

theorem rice_fold (s : RS) (k : Nat) (hk : k ≤ 24) : s.rice k = if (s.foldT k).err ≠ 0 then (s.foldT k, 0) else (s.foldT k, unfoldN (s.foldV k)) := by
  unfold RS.rice RS.foldT RS.foldV RS.riceA RS.riceB
  rw [if_neg (by omega), Int.toNat_natCast]
  by_cases hq : (s.zeros 24).1 < 24
  · rw [if_pos hq, if_pos hq, if_pos hq]
  · rw [if_neg hq, if_neg hq, if_neg hq]

theorem foldV_lt (s : RS) (k : Nat) (hk : k ≤ 24) : s.foldV k < 17179869184 := by
  unfold RS.foldV
  split
  · next h =>
    have h1 := takeV_ltn (s.zeros 24).2 k (by omega)
    obtain ⟨p1, p2⟩ := pow24 k hk
    have hm : (s.zeros 24).1 * 2 ^ k ≤ 24 * 16777216 := Nat.mul_le_mul (by omega) p2
    omega
  · exact takeV_ltn _ 34 (by omega)

set_option maxHeartbeats 400000 in
theorem cTotal (ao : Option Addr) (cap : Nat) (l : List Int) (k : Nat) (w : World) (hl : l.length ≤ 100000) (hi : IntsAt w ao l) (hr : ∀ n ∈ l, InR n) (hk : k ≤ 24) :
    Calls Try.prog 73 #[.slice ao l.length cap, .int .i64 k] w fun e w' => e = .returned (.int .i64 (totalN l k)) ∧ Below w.heap.size w w' := by
  have HI := Lib.hid hi
  have HR := Lib.hid hr
  clear hi hr
  go_enter Try.func73, Try.ntmps73
  go_wp2
  go_loopg [5, 7, 10] l.length (fun gk s q i wr => ∃ c : Nat, c ≤ l.length ∧ gk + c = l.length ∧ i = .int .i64 c ∧ s = .int .i64 (totalN (l.take c) k) ∧ Hid (Below w.heap.size w wr))
  case atStart => exact ⟨0, Nat.zero_le _, by omega, rfl, rfl, Below.refl _ _⟩
  case round =>
    obtain ⟨c, hc, hgk, rfl, rfl, HB⟩ := hrel
    have HGK := Lib.hid hgk
    clear hgk
    have htl := totalN_le (l.take c) k hk
    rw [List.length_take] at htl
    obtain ⟨x, hx⟩ : ∃ x, x = totalN (l.take c) k := ⟨_, rfl⟩
    rw [← hx] at htl ⊢
    have HX := Lib.hid hx
    clear hx
    by_cases hlt : c < l.length
    · obtain ⟨g, off, rfl, hg, hcell⟩ := (HI.out.below HB.out) c hlt
      have hcl := costN_le l[c] k hk
      have hsn : totalN (l.take (c + 1)) k = totalN (l.take c) k + costN l[c] k := by rw [List.take_succ_eq_append_getElem hlt, totalN_snoc]
      have HL := fun W => Lib.hid (cCost_yes l[c] k W (HR.out _ (List.getElem_mem hlt)) hk)
      obtain ⟨n, hn⟩ : ∃ n, n = l[c] := ⟨_, rfl⟩
      obtain ⟨y, hy⟩ : ∃ y, y = costN n k := ⟨_, rfl⟩
      rw [← hn] at hcell
      rw [← hn, ← hy] at hcl HL hsn
      have HSN := Lib.hid hsn
      clear hsn hn hy
      go_wp2_with (go_at_call 91; refine (HL _).out.mono ?_; rintro e w1 ⟨rfl, hb1⟩; have HB1 := Lib.hid (HB.out.trans (hb1.mono HB.out.size)); clear hb1)
      go_roundg (gk - 1)
      case rel => exact ⟨c + 1, by omega, by have := HGK.out; omega, by go_num, by rw [HSN.out, ← HX.out]; go_num, HB1⟩
      case measure => have := HGK.out; omega
    · obtain rfl : c = l.length := by omega
      go_wp2
      go_ret
      exact ⟨by rw [show totalN l k = x by rw [HX.out, List.take_length]]; rfl, HB.out⟩
end Go.Proofs.Ytefbakhhlonafaa
end
