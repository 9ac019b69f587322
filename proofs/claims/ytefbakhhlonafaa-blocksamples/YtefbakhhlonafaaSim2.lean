import Derived.Test.YtefbakhhlonafaaArgsS

section
namespace Go.Proofs.Ytefbakhhlonafaa
open Go.RowKit Go.Proofs Go.Proofs.PipeM Go.Proofs.PipeA

/-- Rice's Take, of the document's reader. -/
def MR.riceA (t : MR × Nat) (q k : Nat) : MR × Int := if t.1.fail ≠ 0 then (t.1, 0) else (t.1, unfoldN (q * 2 ^ k + t.2))
def MR.riceB (t : MR × Nat) (k : Nat) : MR × Int :=
  if (if t.2 / 2 ^ k < 24 then t.1.give 2 else t.1).fail ≠ 0 then ((if t.2 / 2 ^ k < 24 then t.1.give 2 else t.1), 0) else ((if t.2 / 2 ^ k < 24 then t.1.give 2 else t.1), unfoldN t.2)
def MR.rice (m : MR) (k : Int) : MR × Int :=
  if k < 0 ∨ 24 < k then (m.give 1, 0)
  else if (m.run 24).2 < 24 then MR.riceA ((m.run 24).1.take k) (m.run 24).2 k.toNat
  else MR.riceB ((m.run 24).1.take 34) k.toNat

theorem Box2.set3 {w : World} {b : Nat} {v0 v1 v2 u0 u1 u2 : Value} (h : Box2 w b v0 v1 v2 u0 u1 u2) (x0 x1 x2 : Value) :
    Box2 (((w.setCell ⟨b, 0, none⟩ x0).setCell ⟨b, 1, none⟩ x1).setCell ⟨b, 2, none⟩ x2) b x0 x1 x2 u0 u1 u2 := by
  obtain ⟨q0, q1, q2⟩ := set3_cells h.c0 h.c1 h.c2 x0 x1 x2
  refine ⟨by simpa using h.lt, q0, q1, q2, ?_, ?_, ?_, ?_, ?_, ?_, ?_, ?_, ?_⟩
  all_goals simp [World.cell?_setCell_other, h.d0, h.d1, h.d2, h.f0, h.f1, h.f2, h.g0, h.g1, h.g2]

theorem unfold_odd (z : Nat) (h : z % 2 = 1) (hz : z < 4611686018427387904) : wrap64 (-((z : Int) + 1).tdiv 2) = unfoldN z := by
  unfold unfoldN
  rw [if_pos h, Int.tdiv_eq_ediv_of_nonneg (by omega), IntWalk.wrap64_in _ ⟨by omega, by omega⟩]
  omega

theorem rgo_len (most all : Int) (l : List Bool) (c : Nat) : (rgo most all l c).1.bits.length ≤ l.length := by
  induction l generalizing c with
  | nil => simp [rgo]
  | cons b r ih =>
    cases b
    · rw [rgo]
      split
      · simp
      · have := ih (c + 1); simp; omega
    · simp [rgo]
theorem run_len (m : MR) (most : Int) : (m.run most).1.bits.length ≤ m.bits.length := by
  unfold MR.run; split
  · exact Nat.le_refl _
  · exact rgo_len _ _ _ _
theorem take_len (m : MR) (n : Int) : (m.take n).1.bits.length ≤ m.bits.length := by
  unfold MR.take MR.give
  split
  · split <;> simp
  · split
    · split <;> simp
    · split
      · simp
      · simp
theorem mtake_lt (m : MR) (n : Int) : (m.take n).2 < 281474976710656 := by
  unfold MR.take
  split
  · simp
  · split
    · simp
    · split
      · simp
      · refine Nat.lt_of_lt_of_le (num_lt _) ?_
        have h : (m.bits.take n.toNat).length ≤ 48 := by rw [List.length_take]; omega
        exact Nat.le_trans (Nat.pow_le_pow_right (by decide) h) (by decide)

end Go.Proofs.Ytefbakhhlonafaa
end

section
namespace Go.Proofs.Ytefbakhhlonafaa
open Go.RowKit Go.Proofs Go.Proofs.PipeM Go.Proofs.PipeA

set_option maxHeartbeats 400000 in
theorem cFold (n : Int) (w : World) (h : InR n) :
    Calls Try.prog 104 #[.int .i64 n] w fun e w' => e = .returned (.int .i64 (foldN n)) ∧ Below w.heap.size w w' := by
  obtain ⟨h1, h2⟩ := h
  by_cases hn : n < 0
  · have HF : Hid ((foldN n : Int) = -2 * n - 1) := by show _ = _; unfold foldN; rw [if_pos hn]; omega
    have t1 : decide (0 ≤ n) = false := decide_eq_false (by omega)
    go_enter Try.func104, Try.ntmps104
    go_wp2
    go_ret
    exact ⟨by rw [HF.out]; rfl, Below.refl _ _⟩
  · have HF : Hid ((foldN n : Int) = 2 * n) := by show _ = _; unfold foldN; rw [if_neg hn]; omega
    have t1 : decide (0 ≤ n) = true := decide_eq_true (by omega)
    go_enter Try.func104, Try.ntmps104
    go_wp2
    go_ret
    exact ⟨by rw [HF.out]; rfl, Below.refl _ _⟩

theorem cFold_still (n : Int) (w : World) (h : InR n) :
    Calls Try.prog 104 #[.int .i64 n] w fun e w' => e = .returned (.int .i64 (foldN n)) ∧ w = w' := by
  obtain ⟨h1, h2⟩ := h
  by_cases hn : n < 0
  · have HF : Hid ((foldN n : Int) = -2 * n - 1) := by show _ = _; unfold foldN; rw [if_pos hn]; omega
    have t1 : decide (0 ≤ n) = false := decide_eq_false (by omega)
    go_enter Try.func104, Try.ntmps104
    go_wp2
    go_ret
    exact ⟨by rw [HF.out]; rfl, rfl⟩
  · have HF : Hid ((foldN n : Int) = 2 * n) := by show _ = _; unfold foldN; rw [if_neg hn]; omega
    have t1 : decide (0 ≤ n) = true := decide_eq_true (by omega)
    go_enter Try.func104, Try.ntmps104
    go_wp2
    go_ret
    exact ⟨by rw [HF.out]; rfl, rfl⟩

def parOk (k : Int) : Bool := decide (0 ≤ k ∧ k ≤ 24)
set_option maxHeartbeats 400000 in
theorem cIsP (k : Int) (w : World) : Calls Try.prog 103 #[.int .i64 k] w fun e w' => e = .returned (.bool (parOk k)) ∧ w = w' := by
  by_cases h1 : 0 ≤ k
  · have t1 : decide (0 ≤ k) = true := decide_eq_true h1
    by_cases h2 : k ≤ 24
    · have t2 : decide (k ≤ 24) = true := decide_eq_true h2
      have HP : Hid (parOk k = true) := by show _ = _; unfold parOk; exact decide_eq_true ⟨h1, h2⟩
      go_enter Try.func103, Try.ntmps103
      go_wp2
      go_ret
      exact ⟨by rw [HP.out]; rfl, rfl⟩
    · have t2 : decide (k ≤ 24) = false := decide_eq_false h2
      have HP : Hid (parOk k = false) := by show _ = _; unfold parOk; exact decide_eq_false (by omega)
      go_enter Try.func103, Try.ntmps103
      go_wp2
      go_ret
      exact ⟨by rw [HP.out]; rfl, rfl⟩
  · have t1 : decide (0 ≤ k) = false := decide_eq_false h1
    have HP : Hid (parOk k = false) := by show _ = _; unfold parOk; exact decide_eq_false (by omega)
    go_enter Try.func103, Try.ntmps103
    go_wp2
    go_ret
    exact ⟨by rw [HP.out]; rfl, rfl⟩

def codeVal (zeros rest bits : Nat) : Value := .agg #[.int .i64 zeros, .int .u64 rest, .int .i64 bits]

theorem pow_cast (k : Nat) : ((2 ^ k : Nat) : Int) = (2 : Int) ^ k := by rw [Int.natCast_pow]; rfl

theorem mask_rest (z k : Nat) (hz : z < 17179869184) (hk : k ≤ 24) : IntKind.u64.wrap (bits BinOp.and IntKind.i64 (z : Int) (wrap64 (wrap64 (2 ^ k) - 1))) = ((z % 2 ^ k : Nat) : Int) := by
  obtain ⟨p1, p2⟩ := pow24 k hk
  have e := pow_cast k
  have hw : wrap64 ((2 : Int) ^ k) = 2 ^ k := IntWalk.wrap64_in _ ⟨by omega, by omega⟩
  have hw2 : wrap64 ((2 : Int) ^ k - 1) = 2 ^ k - 1 := IntWalk.wrap64_in _ ⟨by omega, by omega⟩
  rw [hw, hw2, bits_mask .i64 34 (by decide) (fun n h1 h2 => IntWalk.i64_in _ (by omega)) k (by omega) z (by omega) (by omega), ← e]
  have hm : z % 2 ^ k < 2 ^ k := Nat.mod_lt _ p1
  rw [← Int.natCast_emod, wrap_u64]
  omega

set_option maxHeartbeats 400000 in
theorem cCode_no (n k : Int) (w : World) (h : codeOk n k = false) :
    Calls Try.prog 93 #[.int .i64 n, .int .i64 k] w fun e w' => e = .returned (.tuple #[codeVal 0 0 0, .bool false]) ∧ Below w.heap.size w w' := by
  have HP := fun W => Lib.hid (cIsP k W)
  have h4 : ¬ (-8589934592 ≤ n ∧ n ≤ 8589934591 ∧ 0 ≤ k ∧ k ≤ 24) := of_decide_eq_false h
  by_cases a1 : n < -8589934592
  · have t1 : decide (n < -8589934592) = true := decide_eq_true a1
    clear h4
    go_enter Try.func93, Try.ntmps93
    go_wp2
    refine bodyPost_ret (v := .tuple #[codeVal 0 0 0, .bool false]) (by simp [results, Try.results93, go_sem, codeVal]) rfl ?_
    exact ⟨rfl, (Below.refl _ _).alloc (Nat.le_refl _) _⟩
  · have t1 : decide (n < -8589934592) = false := decide_eq_false a1
    by_cases a2 : 8589934592 ≤ n
    · have t2 : decide (8589934592 ≤ n) = true := decide_eq_true a2
      clear h4
      go_enter Try.func93, Try.ntmps93
      go_wp2
      refine bodyPost_ret (v := .tuple #[codeVal 0 0 0, .bool false]) (by simp [results, Try.results93, go_sem, codeVal]) rfl ?_
      exact ⟨rfl, (Below.refl _ _).alloc (Nat.le_refl _) _⟩
    · have t2 : decide (8589934592 ≤ n) = false := decide_eq_false a2
      have hp : parOk k = false := by unfold parOk; exact decide_eq_false (by omega)
      rw [hp] at HP
      clear h4 hp
      go_enter Try.func93, Try.ntmps93
      go_wp2_with (go_at_call 103; refine (HP _).out.mono ?_; rintro e w1 ⟨rfl, rfl⟩)
      refine bodyPost_ret (v := .tuple #[codeVal 0 0 0, .bool false]) (by simp [results, Try.results93, go_sem, codeVal]) rfl ?_
      exact ⟨rfl, (Below.refl _ _).alloc (Nat.le_refl _) _⟩

def codeV (n : Int) (k : Nat) : Value := if foldN n / 2 ^ k < 24 then codeVal (foldN n / 2 ^ k) (foldN n % 2 ^ k) k else codeVal 24 (foldN n) 34

set_option maxHeartbeats 800000 in
theorem cCode_yes (n : Int) (k : Nat) (w : World) (h : InR n) (hk : k ≤ 24) :
    Calls Try.prog 93 #[.int .i64 n, .int .i64 k] w fun e w' => e = .returned (.tuple #[codeV n k, .bool true]) ∧ Below w.heap.size w w' := by
  have HP := fun W => Lib.hid (cIsP k W)
  have hp : parOk k = true := by unfold parOk; exact decide_eq_true (by omega)
  rw [hp] at HP
  have t1 : decide (n < -8589934592) = false := decide_eq_false (by have := h.1; omega)
  have t2 : decide (8589934592 ≤ n) = false := decide_eq_false (by have := h.2; omega)
  have HF := fun W => Lib.hid (cFold_still n W h)
  have hz := foldN_lt h
  have hv : codeV n k = if foldN n / 2 ^ k < 24 then codeVal (foldN n / 2 ^ k) (foldN n % 2 ^ k) k else codeVal 24 (foldN n) 34 := rfl
  obtain ⟨z, hzz⟩ : ∃ z, z = foldN n := ⟨_, rfl⟩
  rw [← hzz] at HF hz hv
  have HM := Lib.hid (mask_rest z k hz hk)
  have e1 : ((z : Int) / 2 ^ k) = ((z / 2 ^ k : Nat) : Int) := by rw [Int.natCast_ediv, pow_cast]
  have HE := Lib.hid e1
  clear hzz hp
  by_cases hq : z / 2 ^ k < 24
  · have HV : Hid (codeV n k = codeVal (z / 2 ^ k) (z % 2 ^ k) k) := by rw [hv, if_pos hq]; rfl
    have t3 : decide ((z : Int) / 2 ^ k < 24) = true := by rw [e1]; exact decide_eq_true (by omega)
    clear hv e1 hq
    go_enter Try.func93, Try.ntmps93
    go_wp2_with (first | (go_at_call 103; refine (HP _).out.mono ?_; rintro e w1 ⟨rfl, rfl⟩) | (go_at_call 104; refine (HF _).out.mono ?_; rintro e w1 ⟨rfl, rfl⟩))
    rw [HV.out, HM.out, HE.out]
    refine bodyPost_ret (v := .tuple #[codeVal (z / 2 ^ k) (z % 2 ^ k) k, .bool true]) (by simp [results, Try.results93, go_sem, codeVal]) rfl ?_
    exact ⟨rfl, (Below.refl _ _).alloc (Nat.le_refl _) _⟩
  · have HV : Hid (codeV n k = codeVal 24 z 34) := by rw [hv, if_neg hq]; rfl
    have t3 : decide ((z : Int) / 2 ^ k < 24) = false := by rw [e1]; exact decide_eq_false (by omega)
    clear hv e1 hq
    go_enter Try.func93, Try.ntmps93
    go_wp2_with (first | (go_at_call 103; refine (HP _).out.mono ?_; rintro e w1 ⟨rfl, rfl⟩) | (go_at_call 104; refine (HF _).out.mono ?_; rintro e w1 ⟨rfl, rfl⟩))
    rw [HV.out]
    refine bodyPost_ret (v := .tuple #[codeVal 24 z 34, .bool true]) (by simp [results, Try.results93, go_sem, codeVal]) rfl ?_
    exact ⟨rfl, (Below.refl _ _).alloc (Nat.le_refl _) _⟩
end Go.Proofs.Ytefbakhhlonafaa
end

section
namespace Go.Proofs.Ytefbakhhlonafaa
open Go.RowKit Go.Proofs Go.Proofs.PipeM Go.Proofs.PipeA

/-- The program's reader and the document's. -/
structure Sim (s : RS) (m : MR) : Prop where
  err : s.err = m.fail
  bits : m.fail = 0 → s.bits = m.bits
  spent : m.fail ≠ 0 → s.bits = []

theorem Sim.give {s : RS} {m : MR} (h : Sim s m) (e : Int) : Sim (s.give e) (m.give e) := by
  unfold RS.give MR.give
  by_cases hf : m.fail = 0
  · have hs : s.err = 0 := h.err.trans hf
    rw [if_pos hf]
    by_cases he : e = 0
    · rw [if_pos (Or.inl he), he]
      exact ⟨hs, fun _ => h.bits hf, fun hc => absurd rfl hc⟩
    · rw [if_neg (by rintro (h1 | h1); exact he h1; exact h1 hs)]
      exact ⟨rfl, fun hc => absurd hc he, fun _ => rfl⟩
  · rw [if_neg hf, if_pos (Or.inr (by rw [h.err]; exact hf))]
    exact h

theorem RS.give_spent {s : RS} (h : s.err ≠ 0) (e : Int) : s.give e = s := by unfold RS.give; rw [if_pos (Or.inr h)]
theorem MR.give_spent {m : MR} (h : m.fail ≠ 0) (e : Int) : m.give e = m := by unfold MR.give; rw [if_neg h]

theorem Sim.take {s : RS} {m : MR} (h : Sim s m) (n : Int) : Sim (s.takeS n) (m.take n).1 ∧ s.takeV n = (m.take n).2 := by
  unfold RS.takeS RS.takeV MR.take
  by_cases hn : n < 0 ∨ 48 < n
  · rw [if_pos hn, if_pos hn, if_neg (by omega)]
    exact ⟨h.give 1, rfl⟩
  · rw [if_neg hn, if_neg hn]
    by_cases hf : m.fail = 0
    · have hb := h.bits hf
      rw [hb]
      by_cases hl : (m.bits.length : Int) < n
      · rw [if_pos hl, if_pos hl, if_neg (by omega)]
        exact ⟨h.give 3, rfl⟩
      · rw [if_neg hl, if_neg hl, if_neg (by simp [hf]), if_pos (by omega)]
        exact ⟨⟨h.err, fun _ => rfl, fun hc => absurd hf hc⟩, rfl⟩
    · have hb := h.spent hf
      have hs : s.err ≠ 0 := by rw [h.err]; exact hf
      rw [hb]
      have e1 : (if (m.bits.length : Int) < n then (m.give 3, 0) else if m.fail ≠ 0 then (m, 0) else (⟨m.bits.drop n.toNat, m.all, m.fail⟩, num (m.bits.take n.toNat))) = (m, 0) := by
        by_cases hl : (m.bits.length : Int) < n
        · rw [if_pos hl, MR.give_spent hf]
        · rw [if_neg hl, if_pos hf]
      rw [e1]
      refine ⟨?_, ?_⟩
      · by_cases hl : ((([] : List Bool).length : Nat) : Int) < n
        · rw [if_pos hl, RS.give_spent hs]; exact h
        · rw [if_neg hl]
          exact ⟨h.err, fun hc => absurd hc hf, fun _ => by simp⟩
      · split
        · simp [num]
        · rfl

theorem zgo_rgo (most all : Int) (l : List Bool) (c : Nat) : Sim (zgo most 0 l c).2 (rgo most all l c).1 ∧ (zgo most 0 l c).1 = (rgo most all l c).2 := by
  induction l generalizing c with
  | nil => exact ⟨⟨rfl, fun hc => by simp [rgo] at hc, fun _ => rfl⟩, rfl⟩
  | cons b r ih =>
    cases b
    · rw [zgo, rgo]
      by_cases h : most ≤ (c : Int)
      · rw [if_pos h, if_pos h]
        exact ⟨⟨rfl, fun hc => by simp at hc, fun _ => rfl⟩, rfl⟩
      · rw [if_neg h, if_neg h]; exact ih (c + 1)
    · exact ⟨⟨rfl, fun _ => rfl, fun hc => absurd rfl hc⟩, rfl⟩

theorem Sim.zeros {s : RS} {m : MR} (h : Sim s m) (most : Int) : Sim (zgo most s.err s.bits 0).2 (m.run most).1 ∧ (zgo most s.err s.bits 0).1 = (m.run most).2 := by
  unfold MR.run
  by_cases hf : m.fail = 0
  · rw [if_neg (by simp [hf]), h.err, hf, h.bits hf]
    exact zgo_rgo most m.all m.bits 0
  · have hs : s.err ≠ 0 := by rw [h.err]; exact hf
    rw [if_pos hf, h.spent hf, zgo]
    refine ⟨?_, rfl⟩
    rw [RS.give_spent (by simpa using hs)]
    exact ⟨h.err, fun hc => absurd hc hf, fun _ => rfl⟩

/-- Rice's Take. -/
def RS.zeros (s : RS) (most : Int) : Nat × RS := zgo most s.err s.bits 0
def RS.riceA (t : RS) (v q k : Nat) : RS × Int := if t.err ≠ 0 then (t, 0) else (t, unfoldN (q * 2 ^ k + v))
def RS.riceB (t : RS) (v k : Nat) : RS × Int :=
  if (if v / 2 ^ k < 24 then t.give 2 else t).err ≠ 0 then ((if v / 2 ^ k < 24 then t.give 2 else t), 0) else ((if v / 2 ^ k < 24 then t.give 2 else t), unfoldN v)
def RS.rice (s : RS) (k : Int) : RS × Int :=
  if k < 0 ∨ 24 < k then (s.give 1, 0)
  else if (s.zeros 24).1 < 24 then RS.riceA ((s.zeros 24).2.takeS k) ((s.zeros 24).2.takeV k) (s.zeros 24).1 k.toNat
  else RS.riceB ((s.zeros 24).2.takeS 34) ((s.zeros 24).2.takeV 34) k.toNat

theorem Sim.rice {s : RS} {m : MR} (h : Sim s m) (k : Int) : Sim (s.rice k).1 (m.rice k).1 ∧ (s.rice k).2 = (m.rice k).2 := by
  unfold RS.rice MR.rice
  by_cases hk : k < 0 ∨ 24 < k
  · rw [if_pos hk, if_pos hk]; exact ⟨h.give 1, rfl⟩
  · rw [if_neg hk, if_neg hk]
    obtain ⟨hz1, hz2⟩ := h.zeros 24
    have e1 : (s.zeros 24).1 = (m.run 24).2 := hz2
    have e2 : Sim (s.zeros 24).2 (m.run 24).1 := hz1
    rw [e1]
    by_cases hq : (m.run 24).2 < 24
    · rw [if_pos hq, if_pos hq]
      obtain ⟨ht1, ht2⟩ := e2.take k
      unfold RS.riceA MR.riceA
      rw [ht2, ht1.err]
      split
      · exact ⟨ht1, rfl⟩
      · exact ⟨ht1, rfl⟩
    · rw [if_neg hq, if_neg hq]
      obtain ⟨ht1, ht2⟩ := e2.take 34
      unfold RS.riceB MR.riceB
      rw [ht2]
      by_cases hd : ((m.run 24).1.take 34).2 / 2 ^ k.toNat < 24
      · have hg := ht1.give 2
        simp only [if_pos hd]
        rw [hg.err]
        split
        · exact ⟨hg, rfl⟩
        · exact ⟨hg, rfl⟩
      · simp only [if_neg hd]
        rw [ht1.err]
        split
        · exact ⟨ht1, rfl⟩
        · exact ⟨ht1, rfl⟩
end Go.Proofs.Ytefbakhhlonafaa
end

section
namespace Go.Proofs.Ytefbakhhlonafaa
open Go.RowKit Go.Proofs Go.Proofs.PipeM Go.Proofs.PipeA

theorem zgo_rep (most err : Int) (q : Nat) (t : List Bool) (c : Nat) (h : (c : Int) + q ≤ most) : zgo most err (List.replicate q false ++ true :: t) c = (c + q, ⟨t, err⟩) := by
  induction q generalizing c with
  | zero => simp [zgo]
  | succ q ih =>
    rw [List.replicate_succ, List.cons_append, zgo, if_neg (by omega), ih (c + 1) (by omega)]
    congr 1; omega

theorem takeS_app (a t : List Bool) (n : Int) (hn : n = a.length) (h48 : a.length ≤ 48) (err : Int) : RS.takeS ⟨a ++ t, err⟩ n = ⟨t, err⟩ ∧ RS.takeV ⟨a ++ t, err⟩ n = num a := by
  subst hn
  unfold RS.takeS RS.takeV
  rw [if_neg (by omega), if_neg (by simp; omega), if_pos ⟨by omega, by omega, by simp; omega⟩, Int.toNat_natCast]
  simp

/-- A code is taken as it was put. -/
theorem rice_code (z k : Nat) (hz : z < 17179869184) (hk : k ≤ 24) (rest : List Bool) : RS.rice ⟨codeZ z k ++ rest, 0⟩ k = (⟨rest, 0⟩, unfoldN z) := by
  unfold RS.rice
  rw [if_neg (by omega), Int.toNat_natCast]
  unfold codeZ
  by_cases hq : z / 2 ^ k < 24
  · rw [if_pos hq]
    have e : RS.zeros ⟨(List.replicate (z / 2 ^ k) false ++ [true]) ++ low (z % 2 ^ k) k ++ rest, 0⟩ 24 = (z / 2 ^ k, ⟨low (z % 2 ^ k) k ++ rest, 0⟩) := by
      unfold RS.zeros
      have := zgo_rep 24 0 (z / 2 ^ k) (low (z % 2 ^ k) k ++ rest) 0 (by omega)
      simpa using this
    rw [e]
    simp only [if_pos hq]
    obtain ⟨h1, h2⟩ := takeS_app (low (z % 2 ^ k) k) rest k (by rw [low_length]) (by rw [low_length]; omega) 0
    rw [h1, h2, num_low]
    unfold RS.riceA
    simp only [ne_eq, not_true_eq_false, if_false]
    rw [Nat.mod_mod, Nat.mul_comm, Nat.div_add_mod]
  · rw [if_neg hq]
    have e : RS.zeros ⟨(List.replicate 24 false ++ [true]) ++ low z 34 ++ rest, 0⟩ 24 = (24, ⟨low z 34 ++ rest, 0⟩) := by
      unfold RS.zeros
      have := zgo_rep 24 0 24 (low z 34 ++ rest) 0 (by omega)
      simpa using this
    rw [e]
    simp only [Nat.lt_irrefl, if_false]
    obtain ⟨h1, h2⟩ := takeS_app (low z 34) rest 34 (by rw [low_length]; rfl) (by rw [low_length]; omega) 0
    rw [h1, h2, num_low, Nat.mod_eq_of_lt (by simpa using hz)]
    unfold RS.riceB
    simp only [if_neg hq, ne_eq, not_true_eq_false, if_false]

theorem zgo_inv (most : Int) (l : List Bool) (c : Nat) (h : (zgo most 0 l c).2.err = 0) :
    ∃ q, (zgo most 0 l c).1 = c + q ∧ l = List.replicate q false ++ true :: (zgo most 0 l c).2.bits ∧ (q = 0 ∨ (c : Int) + q ≤ most) := by
  induction l generalizing c with
  | nil => simp [zgo, RS.give] at h
  | cons b r ih =>
    cases b
    · rw [zgo] at h ⊢
      by_cases hm : most ≤ (c : Int)
      · rw [if_pos hm] at h; simp [RS.give] at h
      · rw [if_neg hm] at h ⊢
        obtain ⟨q, h1, h2, h3⟩ := ih (c + 1) h
        refine ⟨q + 1, by omega, ?_, Or.inr ?_⟩
        · rw [List.replicate_succ, List.cons_append, ← h2]
        · rcases h3 with h3 | h3 <;> omega
    · exact ⟨0, by simp [zgo], by simp [zgo], Or.inl rfl⟩

theorem zgo_spent (most err : Int) (c : Nat) (h : err ≠ 0) : (zgo most err [] c).2.err ≠ 0 := by
  rw [zgo, RS.give_spent (by simpa using h)]; exact h

theorem give_err (s : RS) (e : Int) (he : e ≠ 0) : (s.give e).err ≠ 0 := by
  unfold RS.give
  split
  · rename_i h; rcases h with h | h
    · exact absurd h he
    · exact h
  · exact he

theorem takeS_inv (s : RS) (n : Int) (h : (s.takeS n).err = 0) : s.err = 0 ∧ 0 ≤ n ∧ n ≤ 48 ∧ ∃ a, s.bits = a ++ (s.takeS n).bits ∧ (a.length : Int) = n ∧ s.takeV n = num a := by
  unfold RS.takeS RS.takeV at *
  by_cases hn : n < 0 ∨ 48 < n
  · rw [if_pos hn] at h; exact absurd h (give_err s 1 (by decide))
  · rw [if_neg hn] at h ⊢
    by_cases hl : (s.bits.length : Int) < n
    · rw [if_pos hl] at h; exact absurd h (give_err s 3 (by decide))
    · rw [if_neg hl] at h ⊢
      rw [if_pos (by omega)]
      refine ⟨h, by omega, by omega, s.bits.take n.toNat, ?_, ?_, rfl⟩
      · simp
      · rw [List.length_take]; omega

theorem low_num' (a : List Bool) (n : Nat) (h : a.length = n) : low (num a) n = a := by subst h; exact low_num a

/-- Whatever is taken has just the bits that it is put as. -/
theorem rice_taken (s : RS) (k : Nat) (hk : k ≤ 24) (hs : s.err = 0) (h : (s.rice k).1.err = 0) :
    ∃ z, z < 17179869184 ∧ (s.rice k).2 = unfoldN z ∧ s.bits = codeZ z k ++ (s.rice k).1.bits := by
  unfold RS.rice at *
  rw [if_neg (by omega), Int.toNat_natCast] at h ⊢
  have hpk := Nat.two_pow_pos k
  by_cases hq : (s.zeros 24).1 < 24
  · rw [if_pos hq] at h ⊢
    unfold RS.riceA at h ⊢
    by_cases he : ((s.zeros 24).2.takeS k).err ≠ 0
    · rw [if_pos he] at h; exact absurd h he
    · rw [if_neg he] at h ⊢
      obtain ⟨e1, _, _, a, e2, e3, e4⟩ := takeS_inv _ _ h
      have hz : (zgo 24 0 s.bits 0).2.err = 0 := by unfold RS.zeros at e1; rw [hs] at e1; exact e1
      obtain ⟨q, z1, z2, z3⟩ := zgo_inv 24 s.bits 0 hz
      have zq : (s.zeros 24).1 = q := by unfold RS.zeros; rw [hs, z1]; omega
      have zb : (s.zeros 24).2.bits = (zgo 24 0 s.bits 0).2.bits := by unfold RS.zeros; rw [hs]
      have ha : a.length = k := by omega
      have hna := num_lt a
      rw [ha] at hna
      rw [zq] at hq ⊢
      rw [e4]
      have hdiv : (q * 2 ^ k + num a) / 2 ^ k = q := by rw [Nat.mul_comm, Nat.mul_add_div hpk, Nat.div_eq_of_lt hna]; omega
      have hmod : (q * 2 ^ k + num a) % 2 ^ k = num a := by rw [Nat.mul_comm, Nat.mul_add_mod, Nat.mod_eq_of_lt hna]
      refine ⟨q * 2 ^ k + num a, ?_, rfl, ?_⟩
      · have h24 : 2 ^ k ≤ 16777216 := Nat.le_trans (Nat.pow_le_pow_right (by decide) hk) (by decide)
        have : q * 2 ^ k ≤ 23 * 16777216 := Nat.mul_le_mul (by omega) h24
        omega
      · unfold codeZ
        rw [hdiv, hmod, if_pos hq, low_num' a k ha]
        simp only
        rw [z2, ← zb, e2]
        simp
  · rw [if_neg hq] at h ⊢
    unfold RS.riceB at h ⊢
    by_cases hd : (s.zeros 24).2.takeV 34 / 2 ^ k < 24
    · simp only [if_pos hd] at h
      rw [if_pos (give_err _ 2 (by decide))] at h
      exact absurd h (give_err _ 2 (by decide))
    · simp only [if_neg hd] at h ⊢
      by_cases he : ((s.zeros 24).2.takeS 34).err ≠ 0
      · rw [if_pos he] at h; exact absurd h he
      · rw [if_neg he] at h ⊢
        obtain ⟨e1, _, _, a, e2, e3, e4⟩ := takeS_inv _ _ h
        have hz : (zgo 24 0 s.bits 0).2.err = 0 := by unfold RS.zeros at e1; rw [hs] at e1; exact e1
        obtain ⟨q, z1, z2, z3⟩ := zgo_inv 24 s.bits 0 hz
        have zq : (s.zeros 24).1 = q := by unfold RS.zeros; rw [hs, z1]; omega
        have zb : (s.zeros 24).2.bits = (zgo 24 0 s.bits 0).2.bits := by unfold RS.zeros; rw [hs]
        have hq24 : q = 24 := by rw [zq] at hq; omega
        have ha : a.length = 34 := by omega
        have hna := num_lt a
        rw [ha] at hna
        rw [e4] at hd ⊢
        refine ⟨num a, by simpa using hna, rfl, ?_⟩
        unfold codeZ
        rw [if_neg hd, low_num' a 34 ha]
        simp only
        rw [z2, ← zb, e2, hq24]
        simp
end Go.Proofs.Ytefbakhhlonafaa
end
