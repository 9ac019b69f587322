import Derived.Test.YtefbakhhlonafaaRiceC3
import Derived.Test.YtefbakhhlonafaaRef3b

namespace Go.Proofs.Ytefbakhhlonafaa
open Go.RowKit Go.Proofs Go.Proofs.PipeM Go.Proofs.PipeA

def lenOk (n : Int) : Bool := decide (1 ≤ n ∧ n ≤ 1024)
set_option maxHeartbeats 400000 in
theorem cIsLen (n : Int) (w : World) : Calls Try.prog 97 #[.int .i64 n] w fun e w' => e = .returned (.bool (lenOk n)) ∧ w = w' := by
  by_cases h1 : 1 ≤ n
  · have t1 : decide (1 ≤ n) = true := decide_eq_true h1
    by_cases h2 : n ≤ 1024
    · have t2 : decide (n ≤ 1024) = true := decide_eq_true h2
      have HP : Hid (lenOk n = true) := by show _ = _; unfold lenOk; exact decide_eq_true ⟨h1, h2⟩
      go_enter Try.func97, Try.ntmps97
      go_wp2
      go_ret
      exact ⟨by rw [HP.out]; rfl, rfl⟩
    · have t2 : decide (n ≤ 1024) = false := decide_eq_false h2
      have HP : Hid (lenOk n = false) := by show _ = _; unfold lenOk; exact decide_eq_false (by omega)
      go_enter Try.func97, Try.ntmps97
      go_wp2
      go_ret
      exact ⟨by rw [HP.out]; rfl, rfl⟩
  · have t1 : decide (1 ≤ n) = false := decide_eq_false h1
    have HP : Hid (lenOk n = false) := by show _ = _; unfold lenOk; exact decide_eq_false (by omega)
    go_enter Try.func97, Try.ntmps97
    go_wp2
    go_ret
    exact ⟨by rw [HP.out]; rfl, rfl⟩

def powOk (n : Nat) (P : Int) : Bool := decide (0 ≤ P ∧ P ≤ 3 ∧ n % 2 ^ P.toNat = 0)
theorem powOk_at (n : Nat) (p q : Nat) (hp : p ≤ 3) (hq : 2 ^ p = q) : powOk n p = ((n : Int) % (q : Int) == 0) := by
  unfold powOk
  rw [Int.toNat_natCast, hq]
  by_cases h : n % q = 0
  · rw [decide_eq_true ⟨by omega, by omega, h⟩]
    symm; rw [beq_iff_eq]; omega
  · rw [decide_eq_false (fun hc => h hc.2.2)]
    symm; rw [beq_eq_false_iff_ne]; omega

set_option maxHeartbeats 800000 in
theorem cIsPow (n : Nat) (P : Int) (w : World) (hn : n ≤ 1000000000) : Calls Try.prog 100 #[.int .i64 n, .int .i64 P] w fun e w' => e = .returned (.bool (powOk n P)) ∧ w = w' := by
  by_cases h1 : 0 ≤ P
  · obtain ⟨p, rfl⟩ := Int.eq_ofNat_of_zero_le h1
    have t1 : decide (0 ≤ (p : Int)) = true := decide_eq_true h1
    by_cases h2 : (p : Int) ≤ 3
    · have h3 : p = 0 ∨ p = 1 ∨ p = 2 ∨ p = 3 := by omega
      clear t1
      rcases h3 with rfl | rfl | rfl | rfl
      · have HP : Hid (powOk n ((0 : Nat) : Int) = true) := by show _ = _; unfold powOk; exact decide_eq_true ⟨by omega, by omega, by simp [Nat.mod_one]⟩
        clear h1 h2
        generalize powOk n ((0 : Nat) : Int) = tt at HP ⊢
        go_enter Try.func100, Try.ntmps100
        go_wp2
        go_ret
        exact ⟨by rw [HP.out]; rfl, rfl⟩
      · have HP2 : Hid (((n : Int) % 2 == 0) = powOk n ((1 : Nat) : Int)) := by have := powOk_at n 1 2 (by decide) (by decide); exact this.symm
        clear h1 h2
        generalize powOk n ((1 : Nat) : Int) = tt at HP2 ⊢
        go_enter Try.func100, Try.ntmps100
        go_wp2
        go_ret
        exact ⟨by rw [← HP2.out]; rfl, rfl⟩
      · have HP2 : Hid (((n : Int) % 4 == 0) = powOk n ((2 : Nat) : Int)) := by have := powOk_at n 2 4 (by decide) (by decide); exact this.symm
        clear h1 h2
        generalize powOk n ((2 : Nat) : Int) = tt at HP2 ⊢
        go_enter Try.func100, Try.ntmps100
        go_wp2
        go_ret
        exact ⟨by rw [← HP2.out]; rfl, rfl⟩
      · have HP2 : Hid (((n : Int) % 8 == 0) = powOk n ((3 : Nat) : Int)) := by have := powOk_at n 3 8 (by decide) (by decide); exact this.symm
        clear h1 h2
        generalize powOk n ((3 : Nat) : Int) = tt at HP2 ⊢
        go_enter Try.func100, Try.ntmps100
        go_wp2
        go_ret
        exact ⟨by rw [← HP2.out]; rfl, rfl⟩
    · have t2 : decide ((p : Int) ≤ 3) = false := decide_eq_false h2
      have HP : Hid (powOk n (p : Int) = false) := by show _ = _; unfold powOk; exact decide_eq_false (by omega)
      go_enter Try.func100, Try.ntmps100
      go_wp2
      go_ret
      exact ⟨by rw [HP.out]; rfl, rfl⟩
  · have t1 : decide (0 ≤ P) = false := decide_eq_false h1
    have HP : Hid (powOk n P = false) := by show _ = _; unfold powOk; exact decide_eq_false (by omega)
    go_enter Try.func100, Try.ntmps100
    go_wp2
    go_ret
    exact ⟨by rw [HP.out]; rfl, rfl⟩

theorem code_len_n (n : Int) : decide (0 < (codeOf n 0).length) = nOk n := by
  unfold codeOf nOk codeOk
  by_cases h : -8589934592 ≤ n ∧ n ≤ 8589934591
  · rw [decide_eq_true (⟨h.1, h.2, by omega, by omega⟩ : -8589934592 ≤ n ∧ n ≤ 8589934591 ∧ (0 : Int) ≤ 0 ∧ (0 : Int) ≤ 24), if_pos rfl, codeBits_length, decide_eq_true h]
    exact decide_eq_true (by have := costN_pos n (0 : Int).toNat; omega)
  · rw [decide_eq_false (fun hc => h ⟨hc.1, hc.2.1⟩ : ¬ (-8589934592 ≤ n ∧ n ≤ 8589934591 ∧ (0 : Int) ≤ 0 ∧ (0 : Int) ≤ 24)), decide_eq_false h]; rfl
theorem code_len_k (k : Int) : decide (0 < (codeOf 0 k).length) = kOk k := by
  unfold codeOf kOk codeOk
  by_cases h : 0 ≤ k ∧ k ≤ 24
  · rw [decide_eq_true (⟨by omega, by omega, h.1, h.2⟩ : -8589934592 ≤ (0 : Int) ∧ (0 : Int) ≤ 8589934591 ∧ 0 ≤ k ∧ k ≤ 24), if_pos rfl, codeBits_length, decide_eq_true h]
    exact decide_eq_true (by have := costN_pos 0 k.toNat; omega)
  · rw [decide_eq_false (fun hc => h hc.2.2 : ¬ (-8589934592 ≤ (0 : Int) ∧ (0 : Int) ≤ 8589934591 ∧ 0 ≤ k ∧ k ≤ 24)), decide_eq_false h]; rfl

set_option maxHeartbeats 400000 in
theorem cIsNum (n : Int) (w : World) : Calls Try.prog 99 #[.int .i64 n] w fun e w' => e = .returned (.bool (nOk n)) ∧ Below w.heap.size w w' := by
  have HC := Lib.hid (cCost n 0 w)
  have HL := Lib.hid (code_len_n n)
  have hlen : (codeOf n 0).length ≤ 59 := codeOf_len n 0
  generalize (codeOf n 0).length = c at HC HL hlen
  generalize nOk n = ok at HL ⊢
  go_enter Try.func99, Try.ntmps99
  go_wp2_with fail
  refine HC.out.mono ?_
  rintro e w1 ⟨rfl, hb⟩
  have HB := Lib.hid hb
  clear hb
  go_wp2
  go_ret
  exact ⟨by rw [← HL.out]; rfl, HB.out⟩

set_option maxHeartbeats 400000 in
theorem cIsPar (n : Int) (w : World) : Calls Try.prog 101 #[.int .i64 n] w fun e w' => e = .returned (.bool (kOk n)) ∧ Below w.heap.size w w' := by
  have HC := Lib.hid (cCost 0 n w)
  have HL := Lib.hid (code_len_k n)
  have hlen : (codeOf 0 n).length ≤ 59 := codeOf_len 0 n
  generalize (codeOf 0 n).length = c at HC HL hlen
  generalize kOk n = ok at HL ⊢
  go_enter Try.func101, Try.ntmps101
  go_wp2_with fail
  refine HC.out.mono ?_
  rintro e w1 ⟨rfl, hb⟩
  have HB := Lib.hid hb
  clear hb
  go_wp2
  go_ret
  exact ⟨by rw [← HL.out]; rfl, HB.out⟩

set_option maxHeartbeats 800000 in
theorem cAllNum (ao : Option Addr) (cap : Nat) (l : List Int) (w : World) (hl : l.length ≤ 1000000000) (hi : IntsAt w ao l) :
    Calls Try.prog 98 #[.slice ao l.length cap, .func (.func 99) #[] #[]] w fun e w' => e = .returned (.bool (l.all nOk)) ∧ Below w.heap.size w w' := by
  have HI := Lib.hid hi
  clear hi
  obtain ⟨kl, hkl⟩ : ∃ kl, kl = l.length := ⟨_, rfl⟩
  rw [← hkl] at hl ⊢
  have HKL := Lib.hid hkl
  clear hkl
  go_enter Try.func98, Try.ntmps98
  go_wp2
  go_loopg [9] kl (fun gk i wr => ∃ c : Nat, c ≤ kl ∧ gk + c = kl ∧ i = .int .i64 c ∧ Hid ((l.take c).all nOk = true) ∧ Hid (Below w.heap.size w wr))
  case atStart => exact ⟨0, Nat.zero_le _, by omega, rfl, rfl, Below.refl _ _⟩
  case round =>
    obtain ⟨c, hcl, hgk, rfl, HT, HB⟩ := hrel
    have HGK := Lib.hid hgk
    clear hgk
    by_cases hlt : c < kl
    · have hltk : c < l.length := by have := HKL.out; omega
      obtain ⟨g, off, rfl, hg, hcell⟩ := (HI.out.below HB.out) c hltk
      have HA : Hid ((l.take (c + 1)).all nOk = ((l.take c).all nOk && nOk l[c])) := by
        show _ = _
        rw [List.take_succ_eq_append_getElem hltk, List.all_append]; simp only [List.all_cons, List.all_nil, Bool.and_true]
      have HNO : Hid (nOk l[c] = false → l.all nOk = false) := fun h => by
        rw [List.all_eq_false]; exact ⟨l[c], List.getElem_mem hltk, by simp [h]⟩
      obtain ⟨k, hk⟩ : ∃ k, k = l[c] := ⟨_, rfl⟩
      rw [← hk] at hcell HA HNO
      clear hk hltk
      have HC := Lib.hid (cIsNum k wr)
      cases hok : nOk k
      · rw [hok] at HC
        have HNO2 := Lib.hid (HNO.out hok)
        clear hok
        go_wp2_with fail
        refine HC.out.mono ?_
        rintro e w1 ⟨rfl, hb⟩
        have HB1 := Lib.hid hb
        clear hb
        go_wp2
        go_ret
        exact ⟨by rw [HNO2.out]; rfl, HB.out.trans (HB1.out.mono HB.out.size)⟩
      · rw [hok] at HC HA
        have HA2 := Lib.hid (HA.out.trans (by rw [HT.out]))
        clear hok
        go_wp2_with fail
        refine HC.out.mono ?_
        rintro e w1 ⟨rfl, hb⟩
        have HB1 := Lib.hid hb
        clear hb
        go_wp2
        go_roundg (gk - 1)
        case rel => exact ⟨c + 1, by omega, by have := HGK.out; omega, by go_num, HA2.out, HB.out.trans (HB1.out.mono HB.out.size)⟩
        case measure => have := HGK.out; omega
    · obtain rfl : c = kl := by omega
      have HA : Hid (l.all nOk = true) := by have := HT.out; rw [HKL.out, List.take_length] at this; exact this
      go_wp2
      go_ret
      exact ⟨by rw [HA.out]; rfl, HB.out⟩

set_option maxHeartbeats 800000 in
theorem cAllPar (ao : Option Addr) (cap : Nat) (l : List Int) (w : World) (hl : l.length ≤ 1000000000) (hi : IntsAt w ao l) :
    Calls Try.prog 98 #[.slice ao l.length cap, .func (.func 101) #[] #[]] w fun e w' => e = .returned (.bool (l.all kOk)) ∧ Below w.heap.size w w' := by
  have HI := Lib.hid hi
  clear hi
  obtain ⟨kl, hkl⟩ : ∃ kl, kl = l.length := ⟨_, rfl⟩
  rw [← hkl] at hl ⊢
  have HKL := Lib.hid hkl
  clear hkl
  go_enter Try.func98, Try.ntmps98
  go_wp2
  go_loopg [9] kl (fun gk i wr => ∃ c : Nat, c ≤ kl ∧ gk + c = kl ∧ i = .int .i64 c ∧ Hid ((l.take c).all kOk = true) ∧ Hid (Below w.heap.size w wr))
  case atStart => exact ⟨0, Nat.zero_le _, by omega, rfl, rfl, Below.refl _ _⟩
  case round =>
    obtain ⟨c, hcl, hgk, rfl, HT, HB⟩ := hrel
    have HGK := Lib.hid hgk
    clear hgk
    by_cases hlt : c < kl
    · have hltk : c < l.length := by have := HKL.out; omega
      obtain ⟨g, off, rfl, hg, hcell⟩ := (HI.out.below HB.out) c hltk
      have HA : Hid ((l.take (c + 1)).all kOk = ((l.take c).all kOk && kOk l[c])) := by
        show _ = _
        rw [List.take_succ_eq_append_getElem hltk, List.all_append]; simp only [List.all_cons, List.all_nil, Bool.and_true]
      have HNO : Hid (kOk l[c] = false → l.all kOk = false) := fun h => by
        rw [List.all_eq_false]; exact ⟨l[c], List.getElem_mem hltk, by simp [h]⟩
      obtain ⟨k, hk⟩ : ∃ k, k = l[c] := ⟨_, rfl⟩
      rw [← hk] at hcell HA HNO
      clear hk hltk
      have HC := Lib.hid (cIsPar k wr)
      cases hok : kOk k
      · rw [hok] at HC
        have HNO2 := Lib.hid (HNO.out hok)
        clear hok
        go_wp2_with fail
        refine HC.out.mono ?_
        rintro e w1 ⟨rfl, hb⟩
        have HB1 := Lib.hid hb
        clear hb
        go_wp2
        go_ret
        exact ⟨by rw [HNO2.out]; rfl, HB.out.trans (HB1.out.mono HB.out.size)⟩
      · rw [hok] at HC HA
        have HA2 := Lib.hid (HA.out.trans (by rw [HT.out]))
        clear hok
        go_wp2_with fail
        refine HC.out.mono ?_
        rintro e w1 ⟨rfl, hb⟩
        have HB1 := Lib.hid hb
        clear hb
        go_wp2
        go_roundg (gk - 1)
        case rel => exact ⟨c + 1, by omega, by have := HGK.out; omega, by go_num, HA2.out, HB.out.trans (HB1.out.mono HB.out.size)⟩
        case measure => have := HGK.out; omega
    · obtain rfl : c = kl := by omega
      have HA : Hid (l.all kOk = true) := by have := HT.out; rw [HKL.out, List.take_length] at this; exact this
      go_wp2
      go_ret
      exact ⟨by rw [HA.out]; rfl, HB.out⟩
end Go.Proofs.Ytefbakhhlonafaa
