import Derived.Test.YtefbakhhlonafaaWriter

namespace Go.Proofs.Ytefbakhhlonafaa
open Go.RowKit Go.Proofs Go.Proofs.PipeM Go.Proofs.PipeA

theorem low_take (v n j : Nat) (h : j < n) : (low v n).take (j + 1) = (low v n).take j ++ [v.testBit (n - 1 - j)] := by
  have hl : j < (low v n).length := by rw [low_length]; exact h
  rw [List.take_succ_eq_append_getElem hl]
  have := low_get v n j h
  rw [List.getElem?_eq_getElem hl] at this
  simp at this
  rw [this]

theorem bit_arg (x k : Nat) (hx : x < 18446744073709551616) : bits BinOp.and IntKind.u64 ((x : Int) / 2 ^ min k 64) 1 % 256 = (((x.testBit k).toNat : Nat) : Int) := by
  have e1 : ((x : Int) / 2 ^ min k 64) = ((x / 2 ^ min k 64 : Nat) : Int) := by
    rw [Int.natCast_ediv, Int.natCast_pow]; rfl
  have h1 : x / 2 ^ min k 64 ≤ x := Nat.div_le_self _ _
  rw [e1]
  have e2 : x / 2 ^ min k 64 = x / 2 ^ k := by
    by_cases h : k ≤ 64
    · rw [Nat.min_eq_left h]
    · have a1 : min k 64 = 64 := by omega
      have a2 : x < 2 ^ k := Nat.lt_of_lt_of_le hx (Nat.pow_le_pow_right (by decide) (show 64 ≤ k by omega) : 2 ^ 64 ≤ 2 ^ k)
      rw [a1, Nat.div_eq_of_lt hx, Nat.div_eq_of_lt a2]
  rw [e2] at h1 ⊢
  obtain ⟨y, hy⟩ : ∃ y, y = x / 2 ^ k := ⟨_, rfl⟩
  rw [Nat.toNat_testBit, ← hy]
  rw [← hy] at h1
  rw [and_one_u64 _ (by omega) (by omega)]
  omega

set_option maxHeartbeats 800000 in
theorem wEach (b : Nat) (v : Value) (l : List Bool) (zs : List Nat) (x n : Nat) (w : World) (hx : x < 18446744073709551616) (hn : n ≤ 2000) (hl : l.length ≤ 100000) (h : WrIs w b v l zs) :
    Calls Try.prog 56 #[.int .u64 x, .int .i64 n, .func (.func 57) #[.pointer (some ⟨b, 0, none⟩)] #[]] w (Pushed w b v (l ++ low x n)) := by
  have H := Lib.hid h
  clear h
  go_enter Try.func56, Try.ntmps56
  go_wp2
  go_loopw [6] (fun k wr => ∃ j : Nat, j ≤ n ∧ k = .int .i64 ((n : Int) - 1 - j) ∧ Hid (Wrote w b v (l ++ (low x n).take j) wr))
    (fun k _ => (intOf k + 1).toNat)
  case atStart => exact ⟨0, Nat.zero_le _, by simp, by have := Wrote.refl H.out; simpa [Hid] using this⟩
  case round =>
    obtain ⟨j, hj, rfl, HW⟩ := hrel
    by_cases hlt : j < n
    · obtain ⟨v1, zs1, hw1, hk1, ho1⟩ := HW.out
      have hlen : (l ++ (low x n).take j).length ≤ 1000000 := by simp [low_length]; omega
      have HP := Lib.hid (wPush b v1 (l ++ (low x n).take j) zs1 (x.testBit (n - 1 - j)) wr hlen hw1)
      have HK := Lib.hid hk1
      have HO := Lib.hid ho1
      clear hw1 hk1 ho1 hlen HW
      have hd : (j : Int) ≤ (n : Int) - 1 := by omega
      go_wp2_with fail
      rw [bit_arg x (n - 1 - j) hx]
      refine HP.out.mono ?_
      rintro e w2 ⟨rfl, hw2⟩
      have HW2 := Lib.hid hw2
      clear hw2
      go_wp2
      go_roundw
      case rel =>
        refine ⟨j + 1, by omega, by go_num, ?_⟩
        have := Wrote.next HK.out HO.out HW2.out
        rw [List.append_assoc, ← low_take _ _ _ hlt] at this
        exact this
      case measure => simp [intOf]; omega
    · obtain rfl : j = n := by omega
      have hw := HW.out
      rw [List.take_of_length_le (by rw [low_length]; exact Nat.le_refl _)] at hw
      have HW2 := Lib.hid hw
      clear hw HW
      have hd : ¬ ((j : Int) ≤ (j : Int) - 1) := by omega
      go_wp2
      go_end0
      exact ⟨rfl, HW2.out⟩

/-- What a call that writes bits, or doesn't, answers. -/
def Puts (w : World) (b : Nat) (v : Value) (ok : Bool) (l : List Bool) (e : Ending) (w' : World) : Prop :=
  e = .returned (.bool ok) ∧ Wrote w b v l w'

set_option maxHeartbeats 800000 in
theorem wPut_yes (b : Nat) (v : Value) (l : List Bool) (zs : List Nat) (x n : Nat) (w : World) (hn : n ≤ 48) (hx : x < 2 ^ n) (hl : l.length ≤ 100000) (h : WrIs w b v l zs) :
    Calls Try.prog 33 #[.pointer (some ⟨b, 0, none⟩), .int .u64 x, .int .i64 n] w (Puts w b v true (l ++ low x n)) := by
  have hx48 : x < 2 ^ 48 := Nat.lt_of_lt_of_le hx (Nat.pow_le_pow_right (by decide) hn)
  have hdiv : (((x : Int) / 2 ^ n) != 0) = false := by
    have e1 : ((x : Int) / 2 ^ n) = ((x / 2 ^ n : Nat) : Int) := by rw [Int.natCast_ediv, Int.natCast_pow]; rfl
    rw [e1, Nat.div_eq_of_lt hx]; rfl
  have HP := Lib.hid (wEach b v l zs x n w (by omega) (by omega) hl h)
  have t1 : decide ((n : Int) < 0) = false := decide_eq_false (by omega)
  have t2 : decide ((48 : Int) < (n : Int)) = false := decide_eq_false (by omega)
  clear hx hx48 h
  go_enter Try.func33, Try.ntmps33
  go_wp2_with (go_at_call 56; refine HP.out.mono ?_; rintro e w2 ⟨rfl, hw2⟩)
  go_ret
  exact ⟨rfl, hw2⟩

theorem wrap_u64 (x : Int) : IntKind.u64.wrap x = ((x % 18446744073709551616).toNat : Int) := by
  have : IntKind.u64.wrap x = x % 18446744073709551616 := by simp [IntKind.wrap, IntKind.bits, IntKind.signed]
  rw [this]; omega

theorem low_wrap (x : Int) (n : Nat) (hn : n ≤ 64) : low (x % 18446744073709551616).toNat n = low (x % 2 ^ n).toNat n := by
  have h64 : (18446744073709551616 : Int) = 2 ^ 64 := rfl
  rw [← low_mod (x % 18446744073709551616).toNat, ← low_mod (x % 2 ^ n).toNat]
  congr 1
  have hp : (0 : Int) < 2 ^ n := by
    have := Nat.two_pow_pos n
    have e : ((2 ^ n : Nat) : Int) = 2 ^ n := by rw [Int.natCast_pow]; rfl
    omega
  have e : ((2 ^ n : Nat) : Int) = (2 : Int) ^ n := by rw [Int.natCast_pow]; rfl
  have hd : ((2 : Int) ^ n) ∣ 18446744073709551616 := by
    rw [h64, show (64 : Nat) = n + (64 - n) by omega, Int.pow_add]
    exact Int.dvd_mul_right _ _
  have h1 : ((x % 18446744073709551616) % 2 ^ n) = x % 2 ^ n := Int.emod_emod_of_dvd _ hd
  have h2 : 0 ≤ x % 18446744073709551616 := Int.emod_nonneg _ (by decide)
  have h3 : 0 ≤ x % 2 ^ n := Int.emod_nonneg _ (by omega)
  apply Int.ofNat.inj
  show (((x % 18446744073709551616).toNat % 2 ^ n : Nat) : Int) = (((x % 2 ^ n).toNat % 2 ^ n : Nat) : Int)
  rw [Int.natCast_emod, Int.natCast_emod, e, Int.toNat_of_nonneg h2, Int.toNat_of_nonneg h3, h1, Int.emod_emod]

theorem half_bound (n : Nat) (hn : n ≤ 48) : (1 : Int) ≤ 2 ^ (n - 1) ∧ (2 : Int) ^ (n - 1) ≤ 281474976710656 := by
  have h1 := Nat.two_pow_pos (n - 1)
  have h2 : 2 ^ (n - 1) ≤ 2 ^ 48 := Nat.pow_le_pow_right (by decide) (by omega)
  have e : ((2 ^ (n - 1) : Nat) : Int) = (2 : Int) ^ (n - 1) := by rw [Int.natCast_pow]; rfl
  omega

set_option maxHeartbeats 800000 in
theorem wSigned_yes (b : Nat) (v : Value) (l : List Bool) (zs : List Nat) (x : Int) (n : Nat) (w : World) (hn0 : 1 ≤ n) (hn : n ≤ 48) (hx0 : -(2 ^ (n - 1)) ≤ x) (hx : x < 2 ^ (n - 1)) (hl : l.length ≤ 100000) (h : WrIs w b v l zs) :
    Calls Try.prog 34 #[.pointer (some ⟨b, 0, none⟩), .int .i64 x, .int .i64 n] w (Puts w b v true (l ++ low ((x % 2 ^ n).toNat) n)) := by
  obtain ⟨hb1, hb2⟩ := half_bound n hn
  have HP := Lib.hid (wEach b v l zs (x % 18446744073709551616).toNat n w (by omega) (by omega) hl h)
  have HL := Lib.hid (low_wrap x n (by omega))
  obtain ⟨hf, hhf⟩ : ∃ hf, hf = (2 : Int) ^ (n - 1) := ⟨_, rfl⟩
  rw [← hhf] at hb1 hb2 hx0 hx
  have hw : wrap64 (2 ^ (n - 1)) = hf := by rw [← hhf]; exact IntWalk.wrap64_in _ ⟨by omega, by omega⟩
  have t1 : decide ((n : Int) < 1) = false := decide_eq_false (by omega)
  have t2 : decide ((48 : Int) < (n : Int)) = false := decide_eq_false (by omega)
  have t3 : decide (x < -hf) = false := decide_eq_false (by omega)
  have t4 : decide (hf ≤ x) = false := decide_eq_false (by omega)
  have HWR := Lib.hid (wrap_u64 x)
  clear h hhf
  go_enter Try.func34, Try.ntmps34
  go_wp2_with fail
  rw [HWR.out]
  refine HP.out.mono ?_
  rintro e w2 ⟨rfl, hw2⟩
  rw [HL.out] at hw2
  go_wp2
  go_ret
  exact ⟨rfl, hw2⟩

end Go.Proofs.Ytefbakhhlonafaa
