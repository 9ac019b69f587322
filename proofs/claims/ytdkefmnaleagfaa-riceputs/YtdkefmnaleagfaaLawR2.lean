import Derived.Test.YtdkefmnaleagfaaLawR1
namespace Go.Proofs.Ytdkefmnaleagfaa
open Go.RowKit Go.Proofs Go.Proofs.PipeM Go.Proofs.PipeA

theorem cost_mono (a b : Int) (k : Nat) (hk : k ≤ 24) (h : foldN a ≤ foldN b) : costN a k ≤ costN b k := by
  have hd : foldN a / 2 ^ k ≤ foldN b / 2 ^ k := Nat.div_le_div_right h
  unfold costN
  generalize foldN a / 2 ^ k = x at *
  generalize foldN b / 2 ^ k = y at *
  split <;> split <;> omega

theorem cost_short (n : Int) (k : Nat) (h0 : -(2 ^ k) ≤ n) (h1 : n < 2 ^ k) : costN n k ≤ k + 2 := by
  have hpc : ((2 ^ k : Nat) : Int) = (2 : Int) ^ k := by rw [Int.natCast_pow]; rfl
  have hp := Nat.two_pow_pos k
  rw [← hpc] at h0 h1
  have hf : foldN n < 2 * 2 ^ k := by
    unfold foldN
    generalize 2 ^ k = P at *
    split <;> omega
  have hd : foldN n / 2 ^ k < 2 := (Nat.div_lt_iff_lt_mul hp).2 hf
  unfold costN
  generalize foldN n / 2 ^ k = x at *
  split <;> omega

theorem codeOf_len (n : Int) (k : Nat) (h : InR n) (hk : k ≤ 24) : (codeOf n (k : Int)).length = costN n k := by
  have hok : codeOk n (k : Int) = true := by unfold codeOk; exact decide_eq_true ⟨h.1, h.2, by omega, by omega⟩
  unfold codeOf; rw [hok, if_pos rfl, codeBits_length, Int.toNat_natCast]

set_option maxHeartbeats 800000 in
theorem short (n : Int) (kk : Nat) (w : World) (hkk : kk ≤ 255) : Calls Try.prog 8 #[.int .i64 n, .int .u8 kk] w fun e w' => e = .returned (.bool true) ∧ Below w.heap.size w w' := by
  obtain ⟨k, hk0⟩ : ∃ k : Nat, k = kk % 25 := ⟨_, rfl⟩
  have hk : k ≤ 24 := by omega
  have hki : ((kk : Int) % 25) = (k : Int) := by omega
  clear hk0
  by_cases h1 : n < -8589934592 ∨ 8589934591 < n
  · have t : decide (n < -8589934592) = true ∨ (decide (n < -8589934592) = false ∧ decide (8589934591 < n) = true) := by
      by_cases h : n < -8589934592
      · exact Or.inl (decide_eq_true h)
      · exact Or.inr ⟨decide_eq_false h, decide_eq_true (by omega)⟩
    clear h1
    rcases t with t1 | ⟨t1, t2⟩
    all_goals
      go_enter Try.func8, Try.ntmps8
      go_wp2_with fail
      refine (awake2 w).mono ?_
      rintro e w1 ⟨rfl, hb1⟩
      have HB1 := Lib.hid hb1
      clear hb1
      go_wp2_with fail
      refine (awake2 w1).mono ?_
      rintro e w2 ⟨rfl, hb2⟩
      have HB2 := Lib.hid hb2
      clear hb2
      go_wp2
      go_ret
      exact ⟨rfl, HB1.out.trans (HB2.out.mono HB1.out.size)⟩
  · have hr : InR n := ⟨by omega, by omega⟩
    have t1 : decide (n < -8589934592) = false := decide_eq_false (by omega)
    have t2 : decide (8589934591 < n) = false := decide_eq_false (by omega)
    have HC := fun W => Lib.hid (cCost n k W)
    rw [codeOf_len n k hr hk] at HC
    have HP := fun W => Lib.hid (refPower k W (by omega))
    have c1 := costN_pos n k
    have c2 := costN_le n k hk
    have hsh := cost_short n k
    obtain ⟨p1, p2⟩ := pow24 k hk
    have hpc : ((2 ^ k : Nat) : Int) = (2 : Int) ^ k := by rw [Int.natCast_pow]; rfl
    rw [← hpc] at hsh
    obtain ⟨c, hc⟩ : ∃ c, c = costN n k := ⟨_, rfl⟩
    obtain ⟨P, hP⟩ : ∃ P, P = 2 ^ k := ⟨_, rfl⟩
    rw [← hc] at HC c1 c2 hsh
    rw [← hP] at HP p1 p2 hsh
    clear hc hP hpc hr
    have t3 : decide ((1 : Int) ≤ (c : Int)) = true := decide_eq_true (by omega)
    have t4 : decide ((c : Int) ≤ 59) = true := decide_eq_true (by omega)
    have t3' : decide (1 ≤ c) = true := decide_eq_true (by omega)
    have t4' : decide (c ≤ 59) = true := decide_eq_true (by omega)
    have hs : decide (n < (P : Int)) = false ∨ (decide (n < (P : Int)) = true ∧ (decide (-(P : Int) ≤ n) = false ∨ (decide (-(P : Int) ≤ n) = true ∧ decide ((c : Int) ≤ (k : Int) + 2) = true))) := by
      by_cases q1 : n < (P : Int)
      · refine Or.inr ⟨decide_eq_true q1, ?_⟩
        by_cases q2 : -(P : Int) ≤ n
        · exact Or.inr ⟨decide_eq_true q2, decide_eq_true (by have := hsh q2 q1; omega)⟩
        · exact Or.inl (decide_eq_false q2)
      · exact Or.inl (decide_eq_false q1)
    clear hsh
    rcases hs with s1 | ⟨s1, s2 | ⟨s2, s3⟩⟩
    all_goals
      go_enter Try.func8, Try.ntmps8
      go_wp2_with fail
      refine (awake2 w).mono ?_
      rintro e w1 ⟨rfl, hb1⟩
      have HB1 := Lib.hid hb1
      clear hb1
      go_wp2_with fail
      refine (HC _).out.mono ?_
      rintro e w2 ⟨rfl, hb2⟩
      have HB2 : Hid (Below w.heap.size w w2) := HB1.out.trans (hb2.mono HB1.out.size)
      clear hb2
      go_wp2_with (go_at_call 31; refine (HP _).out.mono ?_; rintro e w3 ⟨rfl, rfl⟩)
      go_ret
      exact ⟨rfl, HB2.out⟩

set_option maxHeartbeats 800000 in
theorem rises (a b : Int) (kk : Nat) (w : World) (hkk : kk ≤ 255) : Calls Try.prog 9 #[.int .i64 a, .int .i64 b, .int .u8 kk] w fun e w' => e = .returned (.bool true) ∧ Below w.heap.size w w' := by
  obtain ⟨k, hk0⟩ : ∃ k : Nat, k = kk % 25 := ⟨_, rfl⟩
  have hk : k ≤ 24 := by omega
  have hki : ((kk : Int) % 25) = (k : Int) := by omega
  clear hk0
  by_cases h1 : (a < -8589934592 ∨ 8589934591 < a) ∨ (b < -8589934592 ∨ 8589934591 < b)
  · have t : decide (a < -8589934592) = true ∨ (decide (a < -8589934592) = false ∧ (decide (8589934591 < a) = true ∨ (decide (8589934591 < a) = false ∧ (decide (b < -8589934592) = true ∨ (decide (b < -8589934592) = false ∧ decide (8589934591 < b) = true))))) := by
      by_cases q1 : a < -8589934592
      · exact Or.inl (decide_eq_true q1)
      · refine Or.inr ⟨decide_eq_false q1, ?_⟩
        by_cases q2 : 8589934591 < a
        · exact Or.inl (decide_eq_true q2)
        · refine Or.inr ⟨decide_eq_false q2, ?_⟩
          by_cases q3 : b < -8589934592
          · exact Or.inl (decide_eq_true q3)
          · exact Or.inr ⟨decide_eq_false q3, decide_eq_true (by omega)⟩
    clear h1
    rcases t with t1 | ⟨t1, t2 | ⟨t2, t3 | ⟨t3, t4⟩⟩⟩
    all_goals
      go_enter Try.func9, Try.ntmps9
      go_wp2_with fail
      refine (awake2 w).mono ?_
      rintro e w1 ⟨rfl, hb1⟩
      have HB1 := Lib.hid hb1
      clear hb1
      go_wp2_with fail
      refine (awake2 w1).mono ?_
      rintro e w2 ⟨rfl, hb2⟩
      have HB2 := Lib.hid hb2
      clear hb2
      go_wp2
      go_ret
      exact ⟨rfl, HB1.out.trans (HB2.out.mono HB1.out.size)⟩
  · have hra : InR a := ⟨by omega, by omega⟩
    have hrb : InR b := ⟨by omega, by omega⟩
    have t1 : decide (a < -8589934592) = false := decide_eq_false (by omega)
    have t2 : decide (8589934591 < a) = false := decide_eq_false (by omega)
    have t3 : decide (b < -8589934592) = false := decide_eq_false (by omega)
    have t4 : decide (8589934591 < b) = false := decide_eq_false (by omega)
    have HC := fun W => Lib.hid (cCost a k W)
    have HD := fun W => Lib.hid (cCost b k W)
    rw [codeOf_len a k hra hk] at HC
    rw [codeOf_len b k hrb hk] at HD
    have HF := fun W => Lib.hid (refFold a W hra)
    have HG := fun W => Lib.hid (refFold b W hrb)
    have c1 := costN_pos a k
    have c2 := costN_pos b k
    have m1 := cost_mono a b k hk
    have m2 := cost_mono b a k hk
    obtain ⟨x, hx⟩ : ∃ x, x = costN a k := ⟨_, rfl⟩
    obtain ⟨y, hy⟩ : ∃ y, y = costN b k := ⟨_, rfl⟩
    obtain ⟨f, hf⟩ : ∃ f, f = foldN a := ⟨_, rfl⟩
    obtain ⟨g, hg⟩ : ∃ g, g = foldN b := ⟨_, rfl⟩
    rw [← hx] at HC c1 m1 m2
    rw [← hy] at HD c2 m1 m2
    rw [← hf] at HF m1 m2
    rw [← hg] at HG m1 m2
    clear hx hy hf hg hra hrb h1
    have hs : (f ≤ g ∧ x ≤ y) ∨ (¬ f ≤ g ∧ y ≤ x) := by omega
    clear m1 m2
    rcases hs with ⟨s1, s2⟩ | ⟨s1, s2⟩
    all_goals
      have u1 : decide (x ≤ y) = true ∨ decide (y ≤ x) = true := by
        first
          | exact Or.inl (decide_eq_true s2)
          | exact Or.inr (decide_eq_true s2)
      have u2 : (0 : Int) < (x : Int) := by omega
      have u3 : (0 : Int) < (y : Int) := by omega
      have u4 : 0 < x := by omega
      have u5 : 0 < y := by omega
      clear u1
      go_enter Try.func9, Try.ntmps9
      go_wp2_with fail
      refine (awake2 w).mono ?_
      rintro e w1 ⟨rfl, hb1⟩
      have HB1 := Lib.hid hb1
      clear hb1
      go_wp2_with fail
      refine (HC _).out.mono ?_
      rintro e w2 ⟨rfl, hb2⟩
      have HB2 : Hid (Below w.heap.size w w2) := HB1.out.trans (hb2.mono HB1.out.size)
      clear hb2
      go_wp2_with fail
      refine (HD _).out.mono ?_
      rintro e w3 ⟨rfl, hb3⟩
      have HB3 : Hid (Below w.heap.size w w3) := HB2.out.trans (hb3.mono HB2.out.size)
      clear hb3
      go_wp2_with fail
      refine (HF _).out.mono ?_
      rintro e w4 ⟨rfl, rfl⟩
      go_wp2_with fail
      refine (HG _).out.mono ?_
      rintro e w4 ⟨rfl, rfl⟩
      go_wp2
      go_ret
      exact ⟨rfl, HB3.out⟩
end Go.Proofs.Ytdkefmnaleagfaa
