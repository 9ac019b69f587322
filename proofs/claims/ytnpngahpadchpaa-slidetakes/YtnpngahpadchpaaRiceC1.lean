import Derived.Test.YtnpngahpadchpaaRef2b
namespace Go.Proofs.Ytnpngahpadchpaa
open Go.RowKit Go.Proofs Go.Proofs.PipeM Go.Proofs.PipeA

set_option maxHeartbeats 400000 in
theorem cFold (n : Int) (w : World) (h : InR n) :
    Calls Try.prog 77 #[.int .i64 n] w fun e w' => e = .returned (.int .i64 (foldN n)) ∧ Below w.heap.size w w' := by
  obtain ⟨h1, h2⟩ := h
  by_cases hn : n < 0
  · have HF : Hid ((foldN n : Int) = -2 * n - 1) := by show _ = _; unfold foldN; rw [if_pos hn]; omega
    have t1 : decide (0 ≤ n) = false := decide_eq_false (by omega)
    go_enter Try.func77, Try.ntmps77
    go_wp2
    go_ret
    exact ⟨by rw [HF.out]; rfl, Below.refl _ _⟩
  · have HF : Hid ((foldN n : Int) = 2 * n) := by show _ = _; unfold foldN; rw [if_neg hn]; omega
    have t1 : decide (0 ≤ n) = true := decide_eq_true (by omega)
    go_enter Try.func77, Try.ntmps77
    go_wp2
    go_ret
    exact ⟨by rw [HF.out]; rfl, Below.refl _ _⟩

theorem cFold_still (n : Int) (w : World) (h : InR n) :
    Calls Try.prog 77 #[.int .i64 n] w fun e w' => e = .returned (.int .i64 (foldN n)) ∧ w = w' := by
  obtain ⟨h1, h2⟩ := h
  by_cases hn : n < 0
  · have HF : Hid ((foldN n : Int) = -2 * n - 1) := by show _ = _; unfold foldN; rw [if_pos hn]; omega
    have t1 : decide (0 ≤ n) = false := decide_eq_false (by omega)
    go_enter Try.func77, Try.ntmps77
    go_wp2
    go_ret
    exact ⟨by rw [HF.out]; rfl, rfl⟩
  · have HF : Hid ((foldN n : Int) = 2 * n) := by show _ = _; unfold foldN; rw [if_neg hn]; omega
    have t1 : decide (0 ≤ n) = true := decide_eq_true (by omega)
    go_enter Try.func77, Try.ntmps77
    go_wp2
    go_ret
    exact ⟨by rw [HF.out]; rfl, rfl⟩

set_option maxHeartbeats 400000 in
theorem cUnfold_still (z : Nat) (w : World) (h : z < 17179869184) :
    Calls Try.prog 71 #[.int .i64 z] w fun e w' => e = .returned (.int .i64 (unfoldN z)) ∧ w = w' := by
  by_cases hz : z % 2 = 1
  · have HU : Hid (wrap64 (-((z : Int) + 1).tdiv 2) = unfoldN z) := unfold_odd z hz (by omega)
    have t1 : ((z : Int) % 2 == 0) = false := by rw [show (z : Int) % 2 = 1 by omega]; rfl
    clear hz
    go_enter Try.func71, Try.ntmps71
    go_wp2
    go_ret
    exact ⟨by rw [← HU.out]; rfl, rfl⟩
  · have HU : Hid (unfoldN z = (z : Int) / 2) := by
      show _ = _; unfold unfoldN; rw [if_neg hz]; omega
    have t1 : ((z : Int) % 2 == 0) = true := by rw [show (z : Int) % 2 = 0 by omega]; rfl
    clear hz
    go_enter Try.func71, Try.ntmps71
    go_wp2
    go_ret
    exact ⟨by rw [HU.out]; rfl, rfl⟩

theorem cUnfold (z : Nat) (w : World) (h : z < 17179869184) :
    Calls Try.prog 71 #[.int .i64 z] w fun e w' => e = .returned (.int .i64 (unfoldN z)) ∧ Below w.heap.size w w' :=
  (cUnfold_still z w h).mono fun _ _ ⟨h1, h2⟩ => ⟨h1, h2 ▸ Below.refl _ _⟩

def parOk (k : Int) : Bool := decide (0 ≤ k ∧ k ≤ 24)
set_option maxHeartbeats 400000 in
theorem cIsP (k : Int) (w : World) : Calls Try.prog 69 #[.int .i64 k] w fun e w' => e = .returned (.bool (parOk k)) ∧ w = w' := by
  by_cases h1 : 0 ≤ k
  · have t1 : decide (0 ≤ k) = true := decide_eq_true h1
    by_cases h2 : k ≤ 24
    · have t2 : decide (k ≤ 24) = true := decide_eq_true h2
      have HP : Hid (parOk k = true) := by show _ = _; unfold parOk; exact decide_eq_true ⟨h1, h2⟩
      go_enter Try.func69, Try.ntmps69
      go_wp2
      go_ret
      exact ⟨by rw [HP.out]; rfl, rfl⟩
    · have t2 : decide (k ≤ 24) = false := decide_eq_false h2
      have HP : Hid (parOk k = false) := by show _ = _; unfold parOk; exact decide_eq_false (by omega)
      go_enter Try.func69, Try.ntmps69
      go_wp2
      go_ret
      exact ⟨by rw [HP.out]; rfl, rfl⟩
  · have t1 : decide (0 ≤ k) = false := decide_eq_false h1
    have HP : Hid (parOk k = false) := by show _ = _; unfold parOk; exact decide_eq_false (by omega)
    go_enter Try.func69, Try.ntmps69
    go_wp2
    go_ret
    exact ⟨by rw [HP.out]; rfl, rfl⟩

def codeVal (zeros rest bits : Nat) : Value := .agg #[.int .i64 zeros, .int .u64 rest, .int .i64 bits]

theorem pow_cast (k : Nat) : ((2 ^ k : Nat) : Int) = (2 : Int) ^ k := by rw [Int.natCast_pow]; rfl

theorem mask_rest (z k : Nat) (hz : z < 17179869184) (hk : k ≤ 24) : IntKind.u64.wrap (bits BinOp.and IntKind.i64 (z : Int) (wrap64 (wrap64 (2 ^ k) - 1))) = ((z % 2 ^ k : Nat) : Int) := by
  obtain ⟨p1, p2⟩ := pow24 k hk
  have e := pow_cast k
  have hw : wrap64 ((2 : Int) ^ k) = 2 ^ k := IntWalk.wrap64_in _ ⟨by omega, by omega⟩
  have hw2 : wrap64 ((2 : Int) ^ k - 1) = 2 ^ k - 1 := IntWalk.wrap64_in _ ⟨by omega, by omega⟩
  rw [hw, hw2, bits_mask .i64 34 (by decide) (fun n h1 h2 => IntWalk.i64_in _ (by omega)) k (by omega) z (by omega) (by omega), ← e]
  have hm : z % 2 ^ k < 2 ^ k := Nat.mod_lt _ p1
  rw [← Int.natCast_emod, wrap_u64]
  omega

set_option maxHeartbeats 400000 in
theorem cCode_no (n k : Int) (w : World) (h : codeOk n k = false) :
    Calls Try.prog 66 #[.int .i64 n, .int .i64 k] w fun e w' => e = .returned (.tuple #[codeVal 0 0 0, .bool false]) ∧ Below w.heap.size w w' := by
  have HP := fun W => Lib.hid (cIsP k W)
  have h4 : ¬ (-8589934592 ≤ n ∧ n ≤ 8589934591 ∧ 0 ≤ k ∧ k ≤ 24) := of_decide_eq_false h
  by_cases a1 : n < -8589934592
  · have t1 : decide (n < -8589934592) = true := decide_eq_true a1
    clear h4
    go_enter Try.func66, Try.ntmps66
    go_wp2
    refine bodyPost_ret (v := .tuple #[codeVal 0 0 0, .bool false]) (by simp [results, Try.results66, go_sem, codeVal]) rfl ?_
    exact ⟨rfl, (Below.refl _ _).alloc (Nat.le_refl _) _⟩
  · have t1 : decide (n < -8589934592) = false := decide_eq_false a1
    by_cases a2 : 8589934592 ≤ n
    · have t2 : decide (8589934592 ≤ n) = true := decide_eq_true a2
      clear h4
      go_enter Try.func66, Try.ntmps66
      go_wp2
      refine bodyPost_ret (v := .tuple #[codeVal 0 0 0, .bool false]) (by simp [results, Try.results66, go_sem, codeVal]) rfl ?_
      exact ⟨rfl, (Below.refl _ _).alloc (Nat.le_refl _) _⟩
    · have t2 : decide (8589934592 ≤ n) = false := decide_eq_false a2
      have hp : parOk k = false := by unfold parOk; exact decide_eq_false (by omega)
      rw [hp] at HP
      clear h4 hp
      go_enter Try.func66, Try.ntmps66
      go_wp2_with (go_at_call 69; refine (HP _).out.mono ?_; rintro e w1 ⟨rfl, rfl⟩)
      refine bodyPost_ret (v := .tuple #[codeVal 0 0 0, .bool false]) (by simp [results, Try.results66, go_sem, codeVal]) rfl ?_
      exact ⟨rfl, (Below.refl _ _).alloc (Nat.le_refl _) _⟩

def codeV (n : Int) (k : Nat) : Value := if foldN n / 2 ^ k < 24 then codeVal (foldN n / 2 ^ k) (foldN n % 2 ^ k) k else codeVal 24 (foldN n) 34

set_option maxHeartbeats 800000 in
theorem cCode_yes (n : Int) (k : Nat) (w : World) (h : InR n) (hk : k ≤ 24) :
    Calls Try.prog 66 #[.int .i64 n, .int .i64 k] w fun e w' => e = .returned (.tuple #[codeV n k, .bool true]) ∧ Below w.heap.size w w' := by
  have HP := fun W => Lib.hid (cIsP k W)
  have hp : parOk k = true := by unfold parOk; exact decide_eq_true (by omega)
  rw [hp] at HP
  have t1 : decide (n < -8589934592) = false := decide_eq_false (by have := h.1; omega)
  have t2 : decide (8589934592 ≤ n) = false := decide_eq_false (by have := h.2; omega)
  have HF := fun W => Lib.hid (cFold_still n W h)
  have hz := foldN_lt h
  have hv : codeV n k = if foldN n / 2 ^ k < 24 then codeVal (foldN n / 2 ^ k) (foldN n % 2 ^ k) k else codeVal 24 (foldN n) 34 := rfl
  obtain ⟨z, hzz⟩ : ∃ z, z = foldN n := ⟨_, rfl⟩
  rw [← hzz] at HF hz hv
  have HM := Lib.hid (mask_rest z k hz hk)
  have e1 : ((z : Int) / 2 ^ k) = ((z / 2 ^ k : Nat) : Int) := by rw [Int.natCast_ediv, pow_cast]
  have HE := Lib.hid e1
  clear hzz hp
  by_cases hq : z / 2 ^ k < 24
  · have HV : Hid (codeV n k = codeVal (z / 2 ^ k) (z % 2 ^ k) k) := by rw [hv, if_pos hq]; rfl
    have t3 : decide ((z : Int) / 2 ^ k < 24) = true := by rw [e1]; exact decide_eq_true (by omega)
    clear hv e1 hq
    go_enter Try.func66, Try.ntmps66
    go_wp2_with (first | (go_at_call 69; refine (HP _).out.mono ?_; rintro e w1 ⟨rfl, rfl⟩) | (go_at_call 77; refine (HF _).out.mono ?_; rintro e w1 ⟨rfl, rfl⟩))
    rw [HV.out, HM.out, HE.out]
    refine bodyPost_ret (v := .tuple #[codeVal (z / 2 ^ k) (z % 2 ^ k) k, .bool true]) (by simp [results, Try.results66, go_sem, codeVal]) rfl ?_
    exact ⟨rfl, (Below.refl _ _).alloc (Nat.le_refl _) _⟩
  · have HV : Hid (codeV n k = codeVal 24 z 34) := by rw [hv, if_neg hq]; rfl
    have t3 : decide ((z : Int) / 2 ^ k < 24) = false := by rw [e1]; exact decide_eq_false (by omega)
    clear hv e1 hq
    go_enter Try.func66, Try.ntmps66
    go_wp2_with (first | (go_at_call 69; refine (HP _).out.mono ?_; rintro e w1 ⟨rfl, rfl⟩) | (go_at_call 77; refine (HF _).out.mono ?_; rintro e w1 ⟨rfl, rfl⟩))
    rw [HV.out]
    refine bodyPost_ret (v := .tuple #[codeVal 24 z 34, .bool true]) (by simp [results, Try.results66, go_sem, codeVal]) rfl ?_
    exact ⟨rfl, (Below.refl _ _).alloc (Nat.le_refl _) _⟩
end Go.Proofs.Ytnpngahpadchpaa
