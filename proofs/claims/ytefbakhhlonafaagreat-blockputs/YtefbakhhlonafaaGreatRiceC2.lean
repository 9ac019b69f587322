import Derived.Test.YtefbakhhlonafaaGreatRef2b
import Derived.Test.YtefbakhhlonafaaGreatRef3a

section
namespace Go.Proofs.YtefbakhhlonafaaGreat
open Go.RowKit Go.Proofs Go.Proofs.PipeM Go.Proofs.PipeA

theorem cFold_still (n : Int) (w : World) (h : InR n) :
    Calls Tryz.prog 126 #[.int .i64 n] w fun e w' => e = .returned (.int .i64 (foldN n)) ∧ w = w' := by
  obtain ⟨h1, h2⟩ := h
  by_cases hn : n < 0
  · have HF : Hid ((foldN n : Int) = -2 * n - 1) := by show _ = _; unfold foldN; rw [if_pos hn]; omega
    have t1 : decide (0 ≤ n) = false := decide_eq_false (by omega)
    go_enter Tryz.func126, Tryz.ntmps126
    go_wp2
    go_ret
    exact ⟨by rw [HF.out]; rfl, rfl⟩
  · have HF : Hid ((foldN n : Int) = 2 * n) := by show _ = _; unfold foldN; rw [if_neg hn]; omega
    have t1 : decide (0 ≤ n) = true := decide_eq_true (by omega)
    go_enter Tryz.func126, Tryz.ntmps126
    go_wp2
    go_ret
    exact ⟨by rw [HF.out]; rfl, rfl⟩

set_option maxHeartbeats 400000 in
theorem cUnfold_still (z : Nat) (w : World) (h : z < 17179869184) :
    Calls Tryz.prog 128 #[.int .i64 z] w fun e w' => e = .returned (.int .i64 (unfoldN z)) ∧ w = w' := by
  by_cases hz : z % 2 = 1
  · have HU : Hid (wrap64 (-((z : Int) + 1).tdiv 2) = unfoldN z) := unfold_odd z hz (by omega)
    have t1 : ((z : Int) % 2 == 0) = false := by rw [show (z : Int) % 2 = 1 by omega]; rfl
    clear hz
    go_enter Tryz.func128, Tryz.ntmps128
    go_wp2
    go_ret
    exact ⟨by rw [← HU.out]; rfl, rfl⟩
  · have HU : Hid (unfoldN z = (z : Int) / 2) := by
      show _ = _; unfold unfoldN; rw [if_neg hz]; omega
    have t1 : ((z : Int) % 2 == 0) = true := by rw [show (z : Int) % 2 = 0 by omega]; rfl
    clear hz
    go_enter Tryz.func128, Tryz.ntmps128
    go_wp2
    go_ret
    exact ⟨by rw [HU.out]; rfl, rfl⟩

def parOk (k : Int) : Bool := decide (0 ≤ k ∧ k ≤ 24)
set_option maxHeartbeats 400000 in
theorem cIsP (k : Int) (w : World) : Calls Tryz.prog 125 #[.int .i64 k] w fun e w' => e = .returned (.bool (parOk k)) ∧ w = w' := by
  by_cases h1 : 0 ≤ k
  · have t1 : decide (0 ≤ k) = true := decide_eq_true h1
    by_cases h2 : k ≤ 24
    · have t2 : decide (k ≤ 24) = true := decide_eq_true h2
      have HP : Hid (parOk k = true) := by show _ = _; unfold parOk; exact decide_eq_true ⟨h1, h2⟩
      go_enter Tryz.func125, Tryz.ntmps125
      go_wp2
      go_ret
      exact ⟨by rw [HP.out]; rfl, rfl⟩
    · have t2 : decide (k ≤ 24) = false := decide_eq_false h2
      have HP : Hid (parOk k = false) := by show _ = _; unfold parOk; exact decide_eq_false (by omega)
      go_enter Tryz.func125, Tryz.ntmps125
      go_wp2
      go_ret
      exact ⟨by rw [HP.out]; rfl, rfl⟩
  · have t1 : decide (0 ≤ k) = false := decide_eq_false h1
    have HP : Hid (parOk k = false) := by show _ = _; unfold parOk; exact decide_eq_false (by omega)
    go_enter Tryz.func125, Tryz.ntmps125
    go_wp2
    go_ret
    exact ⟨by rw [HP.out]; rfl, rfl⟩

def codeVal (zeros rest bits : Nat) : Value := .agg #[.int .i64 zeros, .int .u64 rest, .int .i64 bits]

theorem pow_cast (k : Nat) : ((2 ^ k : Nat) : Int) = (2 : Int) ^ k := by rw [Int.natCast_pow]; rfl

theorem mask_rest (z k : Nat) (hz : z < 17179869184) (hk : k ≤ 24) : IntKind.u64.wrap (bits BinOp.and IntKind.i64 (z : Int) (wrap64 (wrap64 (2 ^ k) - 1))) = ((z % 2 ^ k : Nat) : Int) := by
  obtain ⟨p1, p2⟩ := pow24 k hk
  have e := pow_cast k
  have hw : wrap64 ((2 : Int) ^ k) = 2 ^ k := IntWalk.wrap64_in _ ⟨by omega, by omega⟩
  have hw2 : wrap64 ((2 : Int) ^ k - 1) = 2 ^ k - 1 := IntWalk.wrap64_in _ ⟨by omega, by omega⟩
  rw [hw, hw2, bits_mask .i64 34 (by decide) (fun n h1 h2 => IntWalk.i64_in _ (by omega)) k (by omega) z (by omega) (by omega), ← e]
  have hm : z % 2 ^ k < 2 ^ k := Nat.mod_lt _ p1
  rw [← Int.natCast_emod, wrap_u64]
  omega

set_option maxHeartbeats 400000 in
theorem cCode_no (n k : Int) (w : World) (h : codeOk n k = false) :
    Calls Tryz.prog 107 #[.int .i64 n, .int .i64 k] w fun e w' => e = .returned (.tuple #[codeVal 0 0 0, .bool false]) ∧ Below w.heap.size w w' := by
  have HP := fun W => Lib.hid (cIsP k W)
  have h4 : ¬ (-8589934592 ≤ n ∧ n ≤ 8589934591 ∧ 0 ≤ k ∧ k ≤ 24) := of_decide_eq_false h
  by_cases a1 : n < -8589934592
  · have t1 : decide (n < -8589934592) = true := decide_eq_true a1
    clear h4
    go_enter Tryz.func107, Tryz.ntmps107
    go_wp2
    refine bodyPost_ret (v := .tuple #[codeVal 0 0 0, .bool false]) (by simp [results, Tryz.results107, go_sem, codeVal]) rfl ?_
    exact ⟨rfl, (Below.refl _ _).alloc (Nat.le_refl _) _⟩
  · have t1 : decide (n < -8589934592) = false := decide_eq_false a1
    by_cases a2 : 8589934592 ≤ n
    · have t2 : decide (8589934592 ≤ n) = true := decide_eq_true a2
      clear h4
      go_enter Tryz.func107, Tryz.ntmps107
      go_wp2
      refine bodyPost_ret (v := .tuple #[codeVal 0 0 0, .bool false]) (by simp [results, Tryz.results107, go_sem, codeVal]) rfl ?_
      exact ⟨rfl, (Below.refl _ _).alloc (Nat.le_refl _) _⟩
    · have t2 : decide (8589934592 ≤ n) = false := decide_eq_false a2
      have hp : parOk k = false := by unfold parOk; exact decide_eq_false (by omega)
      rw [hp] at HP
      clear h4 hp
      go_enter Tryz.func107, Tryz.ntmps107
      go_wp2_with (go_at_call 125; refine (HP _).out.mono ?_; rintro e w1 ⟨rfl, rfl⟩)
      refine bodyPost_ret (v := .tuple #[codeVal 0 0 0, .bool false]) (by simp [results, Tryz.results107, go_sem, codeVal]) rfl ?_
      exact ⟨rfl, (Below.refl _ _).alloc (Nat.le_refl _) _⟩

def codeV (n : Int) (k : Nat) : Value := if foldN n / 2 ^ k < 24 then codeVal (foldN n / 2 ^ k) (foldN n % 2 ^ k) k else codeVal 24 (foldN n) 34

set_option maxHeartbeats 800000 in
theorem cCode_yes (n : Int) (k : Nat) (w : World) (h : InR n) (hk : k ≤ 24) :
    Calls Tryz.prog 107 #[.int .i64 n, .int .i64 k] w fun e w' => e = .returned (.tuple #[codeV n k, .bool true]) ∧ Below w.heap.size w w' := by
  have HP := fun W => Lib.hid (cIsP k W)
  have hp : parOk k = true := by unfold parOk; exact decide_eq_true (by omega)
  rw [hp] at HP
  have t1 : decide (n < -8589934592) = false := decide_eq_false (by have := h.1; omega)
  have t2 : decide (8589934592 ≤ n) = false := decide_eq_false (by have := h.2; omega)
  have HF := fun W => Lib.hid (cFold_still n W h)
  have hz := foldN_lt h
  have hv : codeV n k = if foldN n / 2 ^ k < 24 then codeVal (foldN n / 2 ^ k) (foldN n % 2 ^ k) k else codeVal 24 (foldN n) 34 := rfl
  obtain ⟨z, hzz⟩ : ∃ z, z = foldN n := ⟨_, rfl⟩
  rw [← hzz] at HF hz hv
  have HM := Lib.hid (mask_rest z k hz hk)
  have e1 : ((z : Int) / 2 ^ k) = ((z / 2 ^ k : Nat) : Int) := by rw [Int.natCast_ediv, pow_cast]
  have HE := Lib.hid e1
  clear hzz hp
  by_cases hq : z / 2 ^ k < 24
  · have HV : Hid (codeV n k = codeVal (z / 2 ^ k) (z % 2 ^ k) k) := by rw [hv, if_pos hq]; rfl
    have t3 : decide ((z : Int) / 2 ^ k < 24) = true := by rw [e1]; exact decide_eq_true (by omega)
    clear hv e1 hq
    go_enter Tryz.func107, Tryz.ntmps107
    go_wp2_with (first | (go_at_call 125; refine (HP _).out.mono ?_; rintro e w1 ⟨rfl, rfl⟩) | (go_at_call 126; refine (HF _).out.mono ?_; rintro e w1 ⟨rfl, rfl⟩))
    rw [HV.out, HM.out, HE.out]
    refine bodyPost_ret (v := .tuple #[codeVal (z / 2 ^ k) (z % 2 ^ k) k, .bool true]) (by simp [results, Tryz.results107, go_sem, codeVal]) rfl ?_
    exact ⟨rfl, (Below.refl _ _).alloc (Nat.le_refl _) _⟩
  · have HV : Hid (codeV n k = codeVal 24 z 34) := by rw [hv, if_neg hq]; rfl
    have t3 : decide ((z : Int) / 2 ^ k < 24) = false := by rw [e1]; exact decide_eq_false (by omega)
    clear hv e1 hq
    go_enter Tryz.func107, Tryz.ntmps107
    go_wp2_with (first | (go_at_call 125; refine (HP _).out.mono ?_; rintro e w1 ⟨rfl, rfl⟩) | (go_at_call 126; refine (HF _).out.mono ?_; rintro e w1 ⟨rfl, rfl⟩))
    rw [HV.out]
    refine bodyPost_ret (v := .tuple #[codeVal 24 z 34, .bool true]) (by simp [results, Tryz.results107, go_sem, codeVal]) rfl ?_
    exact ⟨rfl, (Below.refl _ _).alloc (Nat.le_refl _) _⟩
end Go.Proofs.YtefbakhhlonafaaGreat
end

section
namespace Go.Proofs.YtefbakhhlonafaaGreat
open Go.RowKit Go.Proofs Go.Proofs.PipeM Go.Proofs.PipeA

/-- The program's reader and the document's. -/
structure Sim (s : RS) (m : MR) : Prop where
  err : s.err = m.fail
  bits : m.fail = 0 → s.bits = m.bits
  spent : m.fail ≠ 0 → s.bits = []

theorem Sim.give {s : RS} {m : MR} (h : Sim s m) (e : Int) : Sim (s.give e) (m.give e) := by
  unfold RS.give MR.give
  by_cases hf : m.fail = 0
  · have hs : s.err = 0 := h.err.trans hf
    rw [if_pos hf]
    by_cases he : e = 0
    · rw [if_pos (Or.inl he), he]
      exact ⟨hs, fun _ => h.bits hf, fun hc => absurd rfl hc⟩
    · rw [if_neg (by rintro (h1 | h1); exact he h1; exact h1 hs)]
      exact ⟨rfl, fun hc => absurd hc he, fun _ => rfl⟩
  · rw [if_neg hf, if_pos (Or.inr (by rw [h.err]; exact hf))]
    exact h

theorem RS.give_spent {s : RS} (h : s.err ≠ 0) (e : Int) : s.give e = s := by unfold RS.give; rw [if_pos (Or.inr h)]
theorem MR.give_spent {m : MR} (h : m.fail ≠ 0) (e : Int) : m.give e = m := by unfold MR.give; rw [if_neg h]

theorem Sim.take {s : RS} {m : MR} (h : Sim s m) (n : Int) : Sim (s.takeS n) (m.take n).1 ∧ s.takeV n = (m.take n).2 := by
  unfold RS.takeS RS.takeV MR.take
  by_cases hn : n < 0 ∨ 48 < n
  · rw [if_pos hn, if_pos hn, if_neg (by omega)]
    exact ⟨h.give 1, rfl⟩
  · rw [if_neg hn, if_neg hn]
    by_cases hf : m.fail = 0
    · have hb := h.bits hf
      rw [hb]
      by_cases hl : (m.bits.length : Int) < n
      · rw [if_pos hl, if_pos hl, if_neg (by omega)]
        exact ⟨h.give 3, rfl⟩
      · rw [if_neg hl, if_neg hl, if_neg (by simp [hf]), if_pos (by omega)]
        exact ⟨⟨h.err, fun _ => rfl, fun hc => absurd hf hc⟩, rfl⟩
    · have hb := h.spent hf
      have hs : s.err ≠ 0 := by rw [h.err]; exact hf
      rw [hb]
      have e1 : (if (m.bits.length : Int) < n then (m.give 3, 0) else if m.fail ≠ 0 then (m, 0) else (⟨m.bits.drop n.toNat, m.all, m.fail⟩, num (m.bits.take n.toNat))) = (m, 0) := by
        by_cases hl : (m.bits.length : Int) < n
        · rw [if_pos hl, MR.give_spent hf]
        · rw [if_neg hl, if_pos hf]
      rw [e1]
      refine ⟨?_, ?_⟩
      · by_cases hl : ((([] : List Bool).length : Nat) : Int) < n
        · rw [if_pos hl, RS.give_spent hs]; exact h
        · rw [if_neg hl]
          exact ⟨h.err, fun hc => absurd hc hf, fun _ => by simp⟩
      · split
        · simp [num]
        · rfl

theorem zgo_rgo (most all : Int) (l : List Bool) (c : Nat) : Sim (zgo most 0 l c).2 (rgo most all l c).1 ∧ (zgo most 0 l c).1 = (rgo most all l c).2 := by
  induction l generalizing c with
  | nil => exact ⟨⟨rfl, fun hc => by simp [rgo] at hc, fun _ => rfl⟩, rfl⟩
  | cons b r ih =>
    cases b
    · rw [zgo, rgo]
      by_cases h : most ≤ (c : Int)
      · rw [if_pos h, if_pos h]
        exact ⟨⟨rfl, fun hc => by simp at hc, fun _ => rfl⟩, rfl⟩
      · rw [if_neg h, if_neg h]; exact ih (c + 1)
    · exact ⟨⟨rfl, fun _ => rfl, fun hc => absurd rfl hc⟩, rfl⟩

theorem Sim.zeros {s : RS} {m : MR} (h : Sim s m) (most : Int) : Sim (zgo most s.err s.bits 0).2 (m.run most).1 ∧ (zgo most s.err s.bits 0).1 = (m.run most).2 := by
  unfold MR.run
  by_cases hf : m.fail = 0
  · rw [if_neg (by simp [hf]), h.err, hf, h.bits hf]
    exact zgo_rgo most m.all m.bits 0
  · have hs : s.err ≠ 0 := by rw [h.err]; exact hf
    rw [if_pos hf, h.spent hf, zgo]
    refine ⟨?_, rfl⟩
    rw [RS.give_spent (by simpa using hs)]
    exact ⟨h.err, fun hc => absurd hc hf, fun _ => rfl⟩

/-- Rice's Take. -/
def RS.zeros (s : RS) (most : Int) : Nat × RS := zgo most s.err s.bits 0
def RS.riceA (t : RS) (v q k : Nat) : RS × Int := if t.err ≠ 0 then (t, 0) else (t, unfoldN (q * 2 ^ k + v))
def RS.riceB (t : RS) (v k : Nat) : RS × Int :=
  if (if v / 2 ^ k < 24 then t.give 2 else t).err ≠ 0 then ((if v / 2 ^ k < 24 then t.give 2 else t), 0) else ((if v / 2 ^ k < 24 then t.give 2 else t), unfoldN v)
def RS.rice (s : RS) (k : Int) : RS × Int :=
  if k < 0 ∨ 24 < k then (s.give 1, 0)
  else if (s.zeros 24).1 < 24 then RS.riceA ((s.zeros 24).2.takeS k) ((s.zeros 24).2.takeV k) (s.zeros 24).1 k.toNat
  else RS.riceB ((s.zeros 24).2.takeS 34) ((s.zeros 24).2.takeV 34) k.toNat

theorem Sim.rice {s : RS} {m : MR} (h : Sim s m) (k : Int) : Sim (s.rice k).1 (m.rice k).1 ∧ (s.rice k).2 = (m.rice k).2 := by
  unfold RS.rice MR.rice
  by_cases hk : k < 0 ∨ 24 < k
  · rw [if_pos hk, if_pos hk]; exact ⟨h.give 1, rfl⟩
  · rw [if_neg hk, if_neg hk]
    obtain ⟨hz1, hz2⟩ := h.zeros 24
    have e1 : (s.zeros 24).1 = (m.run 24).2 := hz2
    have e2 : Sim (s.zeros 24).2 (m.run 24).1 := hz1
    rw [e1]
    by_cases hq : (m.run 24).2 < 24
    · rw [if_pos hq, if_pos hq]
      obtain ⟨ht1, ht2⟩ := e2.take k
      unfold RS.riceA MR.riceA
      rw [ht2, ht1.err]
      split
      · exact ⟨ht1, rfl⟩
      · exact ⟨ht1, rfl⟩
    · rw [if_neg hq, if_neg hq]
      obtain ⟨ht1, ht2⟩ := e2.take 34
      unfold RS.riceB MR.riceB
      rw [ht2]
      by_cases hd : ((m.run 24).1.take 34).2 / 2 ^ k.toNat < 24
      · have hg := ht1.give 2
        simp only [if_pos hd]
        rw [hg.err]
        split
        · exact ⟨hg, rfl⟩
        · exact ⟨hg, rfl⟩
      · simp only [if_neg hd]
        rw [ht1.err]
        split
        · exact ⟨ht1, rfl⟩
        · exact ⟨ht1, rfl⟩
end Go.Proofs.YtefbakhhlonafaaGreat
end

section
namespace Go.Proofs.YtefbakhhlonafaaGreat
open Go.RowKit Go.Proofs Go.Proofs.PipeM Go.Proofs.PipeA

theorem zgo_rep (most err : Int) (q : Nat) (t : List Bool) (c : Nat) (h : (c : Int) + q ≤ most) : zgo most err (List.replicate q false ++ true :: t) c = (c + q, ⟨t, err⟩) := by
  induction q generalizing c with
  | zero => simp [zgo]
  | succ q ih =>
    rw [List.replicate_succ, List.cons_append, zgo, if_neg (by omega), ih (c + 1) (by omega)]
    congr 1; omega

theorem takeS_app (a t : List Bool) (n : Int) (hn : n = a.length) (h48 : a.length ≤ 48) (err : Int) : RS.takeS ⟨a ++ t, err⟩ n = ⟨t, err⟩ ∧ RS.takeV ⟨a ++ t, err⟩ n = num a := by
  subst hn
  unfold RS.takeS RS.takeV
  rw [if_neg (by omega), if_neg (by simp; omega), if_pos ⟨by omega, by omega, by simp; omega⟩, Int.toNat_natCast]
  simp

/-- A code is taken as it was put. -/
theorem rice_code (z k : Nat) (hz : z < 17179869184) (hk : k ≤ 24) (rest : List Bool) : RS.rice ⟨codeZ z k ++ rest, 0⟩ k = (⟨rest, 0⟩, unfoldN z) := by
  unfold RS.rice
  rw [if_neg (by omega), Int.toNat_natCast]
  unfold codeZ
  by_cases hq : z / 2 ^ k < 24
  · rw [if_pos hq]
    have e : RS.zeros ⟨(List.replicate (z / 2 ^ k) false ++ [true]) ++ low (z % 2 ^ k) k ++ rest, 0⟩ 24 = (z / 2 ^ k, ⟨low (z % 2 ^ k) k ++ rest, 0⟩) := by
      unfold RS.zeros
      have := zgo_rep 24 0 (z / 2 ^ k) (low (z % 2 ^ k) k ++ rest) 0 (by omega)
      simpa using this
    rw [e]
    simp only [if_pos hq]
    obtain ⟨h1, h2⟩ := takeS_app (low (z % 2 ^ k) k) rest k (by rw [low_length]) (by rw [low_length]; omega) 0
    rw [h1, h2, num_low]
    unfold RS.riceA
    simp only [ne_eq, not_true_eq_false, if_false]
    rw [Nat.mod_mod, Nat.mul_comm, Nat.div_add_mod]
  · rw [if_neg hq]
    have e : RS.zeros ⟨(List.replicate 24 false ++ [true]) ++ low z 34 ++ rest, 0⟩ 24 = (24, ⟨low z 34 ++ rest, 0⟩) := by
      unfold RS.zeros
      have := zgo_rep 24 0 24 (low z 34 ++ rest) 0 (by omega)
      simpa using this
    rw [e]
    simp only [Nat.lt_irrefl, if_false]
    obtain ⟨h1, h2⟩ := takeS_app (low z 34) rest 34 (by rw [low_length]; rfl) (by rw [low_length]; omega) 0
    rw [h1, h2, num_low, Nat.mod_eq_of_lt (by simpa using hz)]
    unfold RS.riceB
    simp only [if_neg hq, ne_eq, not_true_eq_false, if_false]

end Go.Proofs.YtefbakhhlonafaaGreat
end

section
namespace Go.Proofs.YtefbakhhlonafaaGreat
open Go.RowKit Go.Proofs Go.Proofs.PipeM Go.Proofs.PipeA

/-- How many bits 0, what comes behind them, and in how many bits. -/
def parts3 (n : Int) (k : Nat) : Nat × Nat × Nat := if foldN n / 2 ^ k < 24 then (foldN n / 2 ^ k, foldN n % 2 ^ k, k) else (24, foldN n, 34)
theorem codeV_parts (n : Int) (k : Nat) : codeV n k = codeVal (parts3 n k).1 (parts3 n k).2.1 (parts3 n k).2.2 := by
  unfold codeV parts3; split <;> rfl
theorem parts3_bits (n : Int) (k : Nat) : codeBits n k = (List.replicate (parts3 n k).1 false ++ [true]) ++ low (parts3 n k).2.1 (parts3 n k).2.2 := by
  unfold codeBits codeZ parts3; split <;> rfl
theorem parts3_lt (n : Int) (k : Nat) (h : InR n) (hk : k ≤ 24) : (parts3 n k).1 ≤ 24 ∧ (parts3 n k).2.1 < 2 ^ (parts3 n k).2.2 ∧ (parts3 n k).2.2 ≤ 34 := by
  unfold parts3
  split
  · exact ⟨by simp; omega, Nat.mod_lt _ (Nat.two_pow_pos k), by simp; omega⟩
  · exact ⟨by simp, foldN_lt h, by simp⟩

set_option maxHeartbeats 800000 in
theorem cCost_yes (n : Int) (k : Nat) (w : World) (h : InR n) (hk : k ≤ 24) :
    Calls Tryz.prog 109 #[.int .i64 n, .int .i64 k] w fun e w' => e = .returned (.int .i64 (costN n k)) ∧ Below w.heap.size w w' := by
  have HC := fun W => Lib.hid (cCode_yes n k W h hk)
  rw [codeV_parts] at HC
  have hl := codeBits_length n k
  rw [parts3_bits] at hl
  simp [low_length] at hl
  obtain ⟨l1, l2, l3⟩ := parts3_lt n k h hk
  obtain ⟨⟨a, b, c⟩, hp⟩ : ∃ p, p = parts3 n k := ⟨_, rfl⟩
  rw [← hp] at HC hl l1 l2 l3
  simp only at hl l1 l2 l3 HC
  have HL := Lib.hid hl
  clear hl hp l2
  simp only [codeVal] at HC
  go_enter Tryz.func109, Tryz.ntmps109
  go_wp2_with fail
  refine (HC _).out.mono ?_
  rintro e w1 ⟨rfl, hb⟩
  have HB := Lib.hid hb
  clear hb
  go_wp2
  go_ret
  exact ⟨by rw [← HL.out]; show Ending.returned (Value.int .i64 ((a : Int) + 1 + (c : Int))) = _; congr 2; omega, HB.out.alloc HB.out.size _⟩

set_option maxHeartbeats 800000 in
theorem cCost (n k : Int) (w : World) :
    Calls Tryz.prog 109 #[.int .i64 n, .int .i64 k] w fun e w' => e = .returned (.int .i64 ((codeOf n k).length : Nat)) ∧ Below w.heap.size w w' := by
  by_cases h : codeOk n k = true
  · have h4 : -8589934592 ≤ n ∧ n ≤ 8589934591 ∧ 0 ≤ k ∧ k ≤ 24 := of_decide_eq_true h
    obtain ⟨m, rfl⟩ := Int.eq_ofNat_of_zero_le h4.2.2.1
    have e : (codeOf n (m : Int)).length = costN n m := by unfold codeOf; rw [if_pos h, Int.toNat_natCast, codeBits_length]
    rw [e]
    exact cCost_yes n m w ⟨h4.1, h4.2.1⟩ (by omega)
  · have h' : codeOk n k = false := by simpa using h
    have e : (codeOf n k).length = 0 := by unfold codeOf; rw [h']; rfl
    rw [e]
    have HC := fun W => Lib.hid (cCode_no n k W h')
    simp only [codeVal] at HC
    clear h h' e
    go_enter Tryz.func109, Tryz.ntmps109
    go_wp2_with fail
    refine (HC _).out.mono ?_
    rintro e w1 ⟨rfl, hb⟩
    have HB := Lib.hid hb
    clear hb
    go_wp2
    go_ret
    exact ⟨rfl, HB.out.alloc HB.out.size _⟩

set_option maxHeartbeats 1600000 in
theorem cPut_yes (b : Nat) (v : Value) (l : List Bool) (zs : List Nat) (n : Int) (k : Nat) (w : World) (h : InR n) (hk : k ≤ 24) (hl : l.length ≤ 90000) (hw : WrIs w b v l zs) :
    Calls Tryz.prog 83 #[.pointer (some ⟨b, 0, none⟩), .int .i64 n, .int .i64 k] w (Puts w b v true (l ++ codeBits n k)) := by
  have HC := fun W => Lib.hid (cCode_yes n k W h hk)
  rw [codeV_parts] at HC
  rw [parts3_bits]
  obtain ⟨l1, l2, l3⟩ := parts3_lt n k h hk
  obtain ⟨⟨a, x, c⟩, hp⟩ : ∃ p, p = parts3 n k := ⟨_, rfl⟩
  rw [← hp] at HC l1 l2 l3 ⊢
  simp only at l1 l2 l3 HC ⊢
  have HX := Lib.hid l2
  have HW := Lib.hid hw
  clear hp l2 hw
  simp only [codeVal] at HC
  obtain ⟨L, hL⟩ : ∃ L, L = l ++ ((List.replicate a false ++ [true]) ++ low x c) := ⟨_, rfl⟩
  rw [← hL]
  have HL := Lib.hid hL
  clear hL
  go_enter Tryz.func83, Tryz.ntmps83
  go_wp2_with fail
  refine (HC _).out.mono ?_
  rintro e w1 ⟨rfl, hb⟩
  have HB := Lib.hid hb
  clear hb HC
  have hkp : Keeps [] w (w1.alloc (.cells #[.int .i64 a, .int .u64 x, .int .i64 c] 136)) := keeps_of_below (HB.out.alloc HB.out.size _) []
  have HW2 : Hid (WrIs (w1.alloc (.cells #[.int .i64 a, .int .u64 x, .int .i64 c] 136)) b v l zs) := HW.out.keeps hkp (by simp) (by simp)
  have HK := Lib.hid hkp
  clear hkp
  go_wp2_with fail
  refine (wZeros_yes b v l zs a _ (by omega) (by omega) HW2.out).mono ?_
  rintro e w2 ⟨rfl, hw2⟩
  have hcell : ∀ i u, (w1.alloc (.cells #[.int .i64 a, .int .u64 x, .int .i64 c] 136)).cell? ⟨w1.heap.size, i, none⟩ = some u → w2.cell? ⟨w1.heap.size, i, none⟩ = some u := by
    intro i u hu
    obtain ⟨v', zs', _, hk2, _⟩ := hw2
    have hlt := HW.out.lt
    have hle := HB.out.size
    have ho := own_block_lt HW.out.own
    rw [hk2.cell (p := ⟨w1.heap.size, i, none⟩) (by simp) (by simp; exact ⟨by omega, fun hg => by have := (ho _ hg).2; omega⟩), hu]
  have c1 := hcell 1 (.int .u64 x) (by simp)
  have c2 := hcell 2 (.int .i64 c) (by simp)
  obtain ⟨v3, zs3, hi3, hk3, ho3⟩ := Wrote.later HK.out hw2
  have H3 := Lib.hid hi3
  have HK3 := Lib.hid hk3
  have HO3 := Lib.hid ho3
  clear hi3 hcell hk3 ho3 hw2
  go_wp2_with fail
  refine (wPut_yes b v3 _ zs3 x c w2 (by omega) HX.out (by simp; omega) H3.out).mono ?_
  rintro e w4 ⟨rfl, hw4⟩
  have HR4 : Hid (Wrote w b v L w4) := by
    rw [HL.out, ← List.append_assoc]
    exact Wrote.next HK3.out HO3.out hw4
  clear hw4
  go_wp2
  go_ret
  exact ⟨rfl, HR4.out⟩

end Go.Proofs.YtefbakhhlonafaaGreat
end
