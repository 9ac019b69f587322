import Derived.Test.YtefbakhhlonafaaGreatRef2b
import Derived.Test.YtefbakhhlonafaaGreatRef3a

section
namespace Go.Proofs.YtefbakhhlonafaaGreat
open Go.RowKit Go.Proofs Go.Proofs.PipeM Go.Proofs.PipeA

theorem cFold_still (n : Int) (w : World) (h : InR n) :
    Calls Tryz.prog 126 #[.int .i64 n] w fun e w' => e = .returned (.int .i64 (foldN n)) ∧ w = w' := by
  obtain ⟨h1, h2⟩ := h
  by_cases hn : n < 0
  · have HF : Hid ((foldN n : Int) = -2 * n - 1) := by show _ = _; unfold foldN; rw [if_pos hn]; omega
    have t1 : decide (0 ≤ n) = false := decide_eq_false (by omega)
    go_enter Tryz.func126, Tryz.ntmps126
    go_wp2
    go_ret
    exact ⟨by rw [HF.out]; rfl, rfl⟩
  · have HF : Hid ((foldN n : Int) = 2 * n) := by show _ = _; unfold foldN; rw [if_neg hn]; omega
    have t1 : decide (0 ≤ n) = true := decide_eq_true (by omega)
    go_enter Tryz.func126, Tryz.ntmps126
    go_wp2
    go_ret
    exact ⟨by rw [HF.out]; rfl, rfl⟩

set_option maxHeartbeats 400000 in
theorem cUnfold_still (z : Nat) (w : World) (h : z < 17179869184) :
    Calls Tryz.prog 128 #[.int .i64 z] w fun e w' => e = .returned (.int .i64 (unfoldN z)) ∧ w = w' := by
  by_cases hz : z % 2 = 1
  · have HU : Hid (wrap64 (-((z : Int) + 1).tdiv 2) = unfoldN z) := unfold_odd z hz (by omega)
    have t1 : ((z : Int) % 2 == 0) = false := by rw [show (z : Int) % 2 = 1 by omega]; rfl
    clear hz
    go_enter Tryz.func128, Tryz.ntmps128
    go_wp2
    go_ret
    exact ⟨by rw [← HU.out]; rfl, rfl⟩
  · have HU : Hid (unfoldN z = (z : Int) / 2) := by
      show _ = _; unfold unfoldN; rw [if_neg hz]; omega
    have t1 : ((z : Int) % 2 == 0) = true := by rw [show (z : Int) % 2 = 0 by omega]; rfl
    clear hz
    go_enter Tryz.func128, Tryz.ntmps128
    go_wp2
    go_ret
    exact ⟨by rw [HU.out]; rfl, rfl⟩

def parOk (k : Int) : Bool := decide (0 ≤ k ∧ k ≤ 24)
set_option maxHeartbeats 400000 in
theorem cIsP (k : Int) (w : World) : Calls Tryz.prog 125 #[.int .i64 k] w fun e w' => e = .returned (.bool (parOk k)) ∧ w = w' := by
  by_cases h1 : 0 ≤ k
  · have t1 : decide (0 ≤ k) = true := decide_eq_true h1
    by_cases h2 : k ≤ 24
    · have t2 : decide (k ≤ 24) = true := decide_eq_true h2
      have HP : Hid (parOk k = true) := by show _ = _; unfold parOk; exact decide_eq_true ⟨h1, h2⟩
      go_enter Tryz.func125, Tryz.ntmps125
      go_wp2
      go_ret
      exact ⟨by rw [HP.out]; rfl, rfl⟩
    · have t2 : decide (k ≤ 24) = false := decide_eq_false h2
      have HP : Hid (parOk k = false) := by show _ = _; unfold parOk; exact decide_eq_false (by omega)
      go_enter Tryz.func125, Tryz.ntmps125
      go_wp2
      go_ret
      exact ⟨by rw [HP.out]; rfl, rfl⟩
  · have t1 : decide (0 ≤ k) = false := decide_eq_false h1
    have HP : Hid (parOk k = false) := by show _ = _; unfold parOk; exact decide_eq_false (by omega)
    go_enter Tryz.func125, Tryz.ntmps125
    go_wp2
    go_ret
    exact ⟨by rw [HP.out]; rfl, rfl⟩

def codeVal (zeros rest bits : Nat) : Value := .agg #[.int .i64 zeros, .int .u64 rest, .int .i64 bits]

theorem pow_cast (k : Nat) : ((2 ^ k : Nat) : Int) = (2 : Int) ^ k := by rw [Int.natCast_pow]; rfl

theorem mask_rest (z k : Nat) (hz : z < 17179869184) (hk : k ≤ 24) : IntKind.u64.wrap (bits BinOp.and IntKind.i64 (z : Int) (wrap64 (wrap64 (2 ^ k) - 1))) = ((z % 2 ^ k : Nat) : Int) := by
  obtain ⟨p1, p2⟩ := pow24 k hk
  have e := pow_cast k
  have hw : wrap64 ((2 : Int) ^ k) = 2 ^ k := IntWalk.wrap64_in _ ⟨by omega, by omega⟩
  have hw2 : wrap64 ((2 : Int) ^ k - 1) = 2 ^ k - 1 := IntWalk.wrap64_in _ ⟨by omega, by omega⟩
  rw [hw, hw2, bits_mask .i64 34 (by decide) (fun n h1 h2 => IntWalk.i64_in _ (by omega)) k (by omega) z (by omega) (by omega), ← e]
  have hm : z % 2 ^ k < 2 ^ k := Nat.mod_lt _ p1
  rw [← Int.natCast_emod, wrap_u64]
  omega

set_option maxHeartbeats 400000 in
theorem cCode_no (n k : Int) (w : World) (h : codeOk n k = false) :
    Calls Tryz.prog 107 #[.int .i64 n, .int .i64 k] w fun e w' => e = .returned (.tuple #[codeVal 0 0 0, .bool false]) ∧ Below w.heap.size w w' := by
  have HP := fun W => Lib.hid (cIsP k W)
  have h4 : ¬ (-8589934592 ≤ n ∧ n ≤ 8589934591 ∧ 0 ≤ k ∧ k ≤ 24) := of_decide_eq_false h
  by_cases a1 : n < -8589934592
  · have t1 : decide (n < -8589934592) = true := decide_eq_true a1
    clear h4
    go_enter Tryz.func107, Tryz.ntmps107
    go_wp2
    refine bodyPost_ret (v := .tuple #[codeVal 0 0 0, .bool false]) (by simp [results, Tryz.results107, go_sem, codeVal]) rfl ?_
    exact ⟨rfl, (Below.refl _ _).alloc (Nat.le_refl _) _⟩
  · have t1 : decide (n < -8589934592) = false := decide_eq_false a1
    by_cases a2 : 8589934592 ≤ n
    · have t2 : decide (8589934592 ≤ n) = true := decide_eq_true a2
      clear h4
      go_enter Tryz.func107, Tryz.ntmps107
      go_wp2
      refine bodyPost_ret (v := .tuple #[codeVal 0 0 0, .bool false]) (by simp [results, Tryz.results107, go_sem, codeVal]) rfl ?_
      exact ⟨rfl, (Below.refl _ _).alloc (Nat.le_refl _) _⟩
    · have t2 : decide (8589934592 ≤ n) = false := decide_eq_false a2
      have hp : parOk k = false := by unfold parOk; exact decide_eq_false (by omega)
      rw [hp] at HP
      clear h4 hp
      go_enter Tryz.func107, Tryz.ntmps107
      go_wp2_with (go_at_call 125; refine (HP _).out.mono ?_; rintro e w1 ⟨rfl, rfl⟩)
      refine bodyPost_ret (v := .tuple #[codeVal 0 0 0, .bool false]) (by simp [results, Tryz.results107, go_sem, codeVal]) rfl ?_
      exact ⟨rfl, (Below.refl _ _).alloc (Nat.le_refl _) _⟩

def codeV (n : Int) (k : Nat) : Value := if foldN n / 2 ^ k < 24 then codeVal (foldN n / 2 ^ k) (foldN n % 2 ^ k) k else codeVal 24 (foldN n) 34

set_option maxHeartbeats 800000 in
theorem cCode_yes (n : Int) (k : Nat) (w : World) (h : InR n) (hk : k ≤ 24) :
    Calls Tryz.prog 107 #[.int .i64 n, .int .i64 k] w fun e w' => e = .returned (.tuple #[codeV n k, .bool true]) ∧ Below w.heap.size w w' := by
  have HP := fun W => Lib.hid (cIsP k W)
  have hp : parOk k = true := by unfold parOk; exact decide_eq_true (by omega)
  rw [hp] at HP
  have t1 : decide (n < -8589934592) = false := decide_eq_false (by have := h.1; omega)
  have t2 : decide (8589934592 ≤ n) = false := decide_eq_false (by have := h.2; omega)
  have HF := fun W => Lib.hid (cFold_still n W h)
  have hz := foldN_lt h
  have hv : codeV n k = if foldN n / 2 ^ k < 24 then codeVal (foldN n / 2 ^ k) (foldN n % 2 ^ k) k else codeVal 24 (foldN n) 34 := rfl
  obtain ⟨z, hzz⟩ : ∃ z, z = foldN n := ⟨_, rfl⟩
  rw [← hzz] at HF hz hv
  have HM := Lib.hid (mask_rest z k hz hk)
  have e1 : ((z : Int) / 2 ^ k) = ((z / 2 ^ k : Nat) : Int) := by rw [Int.natCast_ediv, pow_cast]
  have HE := Lib.hid e1
  clear hzz hp
  by_cases hq : z / 2 ^ k < 24
  · have HV : Hid (codeV n k = codeVal (z / 2 ^ k) (z % 2 ^ k) k) := by rw [hv, if_pos hq]; rfl
    have t3 : decide ((z : Int) / 2 ^ k < 24) = true := by rw [e1]; exact decide_eq_true (by omega)
    clear hv e1 hq
    go_enter Tryz.func107, Tryz.ntmps107
    go_wp2_with (first | (go_at_call 125; refine (HP _).out.mono ?_; rintro e w1 ⟨rfl, rfl⟩) | (go_at_call 126; refine (HF _).out.mono ?_; rintro e w1 ⟨rfl, rfl⟩))
    rw [HV.out, HM.out, HE.out]
    refine bodyPost_ret (v := .tuple #[codeVal (z / 2 ^ k) (z % 2 ^ k) k, .bool true]) (by simp [results, Tryz.results107, go_sem, codeVal]) rfl ?_
    exact ⟨rfl, (Below.refl _ _).alloc (Nat.le_refl _) _⟩
  · have HV : Hid (codeV n k = codeVal 24 z 34) := by rw [hv, if_neg hq]; rfl
    have t3 : decide ((z : Int) / 2 ^ k < 24) = false := by rw [e1]; exact decide_eq_false (by omega)
    clear hv e1 hq
    go_enter Tryz.func107, Tryz.ntmps107
    go_wp2_with (first | (go_at_call 125; refine (HP _).out.mono ?_; rintro e w1 ⟨rfl, rfl⟩) | (go_at_call 126; refine (HF _).out.mono ?_; rintro e w1 ⟨rfl, rfl⟩))
    rw [HV.out]
    refine bodyPost_ret (v := .tuple #[codeVal 24 z 34, .bool true]) (by simp [results, Tryz.results107, go_sem, codeVal]) rfl ?_
    exact ⟨rfl, (Below.refl _ _).alloc (Nat.le_refl _) _⟩
end Go.Proofs.YtefbakhhlonafaaGreat
end

section
namespace Go.Proofs.YtefbakhhlonafaaGreat
open Go.RowKit Go.Proofs Go.Proofs.PipeM Go.Proofs.PipeA

/-- The program's reader and the document's. -/
structure Sim (s : RS) (m : MR) : Prop where
  err : s.err = m.fail
  bits : m.fail = 0 → s.bits = m.bits
  spent : m.fail ≠ 0 → s.bits = []

theorem Sim.give {s : RS} {m : MR} (h : Sim s m) (e : Int) : Sim (s.give e) (m.give e) := by
  unfold RS.give MR.give
  by_cases hf : m.fail = 0
  · have hs : s.err = 0 := h.err.trans hf
    rw [if_pos hf]
    by_cases he : e = 0
    · rw [if_pos (Or.inl he), he]
      exact ⟨hs, fun _ => h.bits hf, fun hc => absurd rfl hc⟩
    · rw [if_neg (by rintro (h1 | h1); exact he h1; exact h1 hs)]
      exact ⟨rfl, fun hc => absurd hc he, fun _ => rfl⟩
  · rw [if_neg hf, if_pos (Or.inr (by rw [h.err]; exact hf))]
    exact h

theorem RS.give_spent {s : RS} (h : s.err ≠ 0) (e : Int) : s.give e = s := by unfold RS.give; rw [if_pos (Or.inr h)]
theorem MR.give_spent {m : MR} (h : m.fail ≠ 0) (e : Int) : m.give e = m := by unfold MR.give; rw [if_neg h]

theorem Sim.take {s : RS} {m : MR} (h : Sim s m) (n : Int) : Sim (s.takeS n) (m.take n).1 ∧ s.takeV n = (m.take n).2 := by
  unfold RS.takeS RS.takeV MR.take
  by_cases hn : n < 0 ∨ 48 < n
  · rw [if_pos hn, if_pos hn, if_neg (by omega)]
    exact ⟨h.give 1, rfl⟩
  · rw [if_neg hn, if_neg hn]
    by_cases hf : m.fail = 0
    · have hb := h.bits hf
      rw [hb]
      by_cases hl : (m.bits.length : Int) < n
      · rw [if_pos hl, if_pos hl, if_neg (by omega)]
        exact ⟨h.give 3, rfl⟩
      · rw [if_neg hl, if_neg hl, if_neg (by simp [hf]), if_pos (by omega)]
        exact ⟨⟨h.err, fun _ => rfl, fun hc => absurd hf hc⟩, rfl⟩
    · have hb := h.spent hf
      have hs : s.err ≠ 0 := by rw [h.err]; exact hf
      rw [hb]
      have e1 : (if (m.bits.length : Int) < n then (m.give 3, 0) else if m.fail ≠ 0 then (m, 0) else (⟨m.bits.drop n.toNat, m.all, m.fail⟩, num (m.bits.take n.toNat))) = (m, 0) := by
        by_cases hl : (m.bits.length : Int) < n
        · rw [if_pos hl, MR.give_spent hf]
        · rw [if_neg hl, if_pos hf]
      rw [e1]
      refine ⟨?_, ?_⟩
      · by_cases hl : ((([] : List Bool).length : Nat) : Int) < n
        · rw [if_pos hl, RS.give_spent hs]; exact h
        · rw [if_neg hl]
          exact ⟨h.err, fun hc => absurd hc hf, fun _ => by simp⟩
      · split
        · simp [num]
        · rfl

theorem zgo_rgo (most all : Int) (l : List Bool) (c : Nat) : Sim (zgo most 0 l c).2 (rgo most all l c).1 ∧ (zgo most 0 l c).1 = (rgo most all l c).2 := by
  induction l generalizing c with
  | nil => exact ⟨⟨rfl, fun hc => by simp [rgo] at hc, fun _ => rfl⟩, rfl⟩
  | cons b r ih =>
    cases b
    · rw [zgo, rgo]
      by_cases h : most ≤ (c : Int)
      · rw [if_pos h, if_pos h]
        exact ⟨⟨rfl, fun hc => by simp at hc, fun _ => rfl⟩, rfl⟩
      · rw [if_neg h, if_neg h]; exact ih (c + 1)
    · exact ⟨⟨rfl, fun _ => rfl, fun hc => absurd rfl hc⟩, rfl⟩

theorem Sim.zeros {s : RS} {m : MR} (h : Sim s m) (most : Int) : Sim (zgo most s.err s.bits 0).2 (m.run most).1 ∧ (zgo most s.err s.bits 0).1 = (m.run most).2 := by
  unfold MR.run
  by_cases hf : m.fail = 0
  · rw [if_neg (by simp [hf]), h.err, hf, h.bits hf]
    exact zgo_rgo most m.all m.bits 0
  · have hs : s.err ≠ 0 := by rw [h.err]; exact hf
    rw [if_pos hf, h.spent hf, zgo]
    refine ⟨?_, rfl⟩
    rw [RS.give_spent (by simpa using hs)]
    exact ⟨h.err, fun hc => absurd hc hf, fun _ => rfl⟩

/-- Rice's Take. -/
def RS.zeros (s : RS) (most : Int) : Nat × RS := zgo most s.err s.bits 0
def RS.riceA (t : RS) (v q k : Nat) : RS × Int := if t.err ≠ 0 then (t, 0) else (t, unfoldN (q * 2 ^ k + v))
def RS.riceB (t : RS) (v k : Nat) : RS × Int :=
  if (if v / 2 ^ k < 24 then t.give 2 else t).err ≠ 0 then ((if v / 2 ^ k < 24 then t.give 2 else t), 0) else ((if v / 2 ^ k < 24 then t.give 2 else t), unfoldN v)
def RS.rice (s : RS) (k : Int) : RS × Int :=
  if k < 0 ∨ 24 < k then (s.give 1, 0)
  else if (s.zeros 24).1 < 24 then RS.riceA ((s.zeros 24).2.takeS k) ((s.zeros 24).2.takeV k) (s.zeros 24).1 k.toNat
  else RS.riceB ((s.zeros 24).2.takeS 34) ((s.zeros 24).2.takeV 34) k.toNat

theorem Sim.rice {s : RS} {m : MR} (h : Sim s m) (k : Int) : Sim (s.rice k).1 (m.rice k).1 ∧ (s.rice k).2 = (m.rice k).2 := by
  unfold RS.rice MR.rice
  by_cases hk : k < 0 ∨ 24 < k
  · rw [if_pos hk, if_pos hk]; exact ⟨h.give 1, rfl⟩
  · rw [if_neg hk, if_neg hk]
    obtain ⟨hz1, hz2⟩ := h.zeros 24
    have e1 : (s.zeros 24).1 = (m.run 24).2 := hz2
    have e2 : Sim (s.zeros 24).2 (m.run 24).1 := hz1
    rw [e1]
    by_cases hq : (m.run 24).2 < 24
    · rw [if_pos hq, if_pos hq]
      obtain ⟨ht1, ht2⟩ := e2.take k
      unfold RS.riceA MR.riceA
      rw [ht2, ht1.err]
      split
      · exact ⟨ht1, rfl⟩
      · exact ⟨ht1, rfl⟩
    · rw [if_neg hq, if_neg hq]
      obtain ⟨ht1, ht2⟩ := e2.take 34
      unfold RS.riceB MR.riceB
      rw [ht2]
      by_cases hd : ((m.run 24).1.take 34).2 / 2 ^ k.toNat < 24
      · have hg := ht1.give 2
        simp only [if_pos hd]
        rw [hg.err]
        split
        · exact ⟨hg, rfl⟩
        · exact ⟨hg, rfl⟩
      · simp only [if_neg hd]
        rw [ht1.err]
        split
        · exact ⟨ht1, rfl⟩
        · exact ⟨ht1, rfl⟩
end Go.Proofs.YtefbakhhlonafaaGreat
end

section
namespace Go.Proofs.YtefbakhhlonafaaGreat
open Go.RowKit Go.Proofs Go.Proofs.PipeM Go.Proofs.PipeA

theorem zgo_inv (most : Int) (l : List Bool) (c : Nat) (h : (zgo most 0 l c).2.err = 0) :
    ∃ q, (zgo most 0 l c).1 = c + q ∧ l = List.replicate q false ++ true :: (zgo most 0 l c).2.bits ∧ (q = 0 ∨ (c : Int) + q ≤ most) := by
  induction l generalizing c with
  | nil => simp [zgo, RS.give] at h
  | cons b r ih =>
    cases b
    · rw [zgo] at h ⊢
      by_cases hm : most ≤ (c : Int)
      · rw [if_pos hm] at h; simp [RS.give] at h
      · rw [if_neg hm] at h ⊢
        obtain ⟨q, h1, h2, h3⟩ := ih (c + 1) h
        refine ⟨q + 1, by omega, ?_, Or.inr ?_⟩
        · rw [List.replicate_succ, List.cons_append, ← h2]
        · rcases h3 with h3 | h3 <;> omega
    · exact ⟨0, by simp [zgo], by simp [zgo], Or.inl rfl⟩

theorem give_err (s : RS) (e : Int) (he : e ≠ 0) : (s.give e).err ≠ 0 := by
  unfold RS.give
  split
  · rename_i h; rcases h with h | h
    · exact absurd h he
    · exact h
  · exact he

theorem takeS_inv (s : RS) (n : Int) (h : (s.takeS n).err = 0) : s.err = 0 ∧ 0 ≤ n ∧ n ≤ 48 ∧ ∃ a, s.bits = a ++ (s.takeS n).bits ∧ (a.length : Int) = n ∧ s.takeV n = num a := by
  unfold RS.takeS RS.takeV at *
  by_cases hn : n < 0 ∨ 48 < n
  · rw [if_pos hn] at h; exact absurd h (give_err s 1 (by decide))
  · rw [if_neg hn] at h ⊢
    by_cases hl : (s.bits.length : Int) < n
    · rw [if_pos hl] at h; exact absurd h (give_err s 3 (by decide))
    · rw [if_neg hl] at h ⊢
      rw [if_pos (by omega)]
      refine ⟨h, by omega, by omega, s.bits.take n.toNat, ?_, ?_, rfl⟩
      · simp
      · rw [List.length_take]; omega

theorem low_num' (a : List Bool) (n : Nat) (h : a.length = n) : low (num a) n = a := by subst h; exact low_num a

/-- Whatever is taken has just the bits that it is put as. -/
theorem rice_taken (s : RS) (k : Nat) (hk : k ≤ 24) (hs : s.err = 0) (h : (s.rice k).1.err = 0) :
    ∃ z, z < 17179869184 ∧ (s.rice k).2 = unfoldN z ∧ s.bits = codeZ z k ++ (s.rice k).1.bits := by
  unfold RS.rice at *
  rw [if_neg (by omega), Int.toNat_natCast] at h ⊢
  have hpk := Nat.two_pow_pos k
  by_cases hq : (s.zeros 24).1 < 24
  · rw [if_pos hq] at h ⊢
    unfold RS.riceA at h ⊢
    by_cases he : ((s.zeros 24).2.takeS k).err ≠ 0
    · rw [if_pos he] at h; exact absurd h he
    · rw [if_neg he] at h ⊢
      obtain ⟨e1, _, _, a, e2, e3, e4⟩ := takeS_inv _ _ h
      have hz : (zgo 24 0 s.bits 0).2.err = 0 := by unfold RS.zeros at e1; rw [hs] at e1; exact e1
      obtain ⟨q, z1, z2, z3⟩ := zgo_inv 24 s.bits 0 hz
      have zq : (s.zeros 24).1 = q := by unfold RS.zeros; rw [hs, z1]; omega
      have zb : (s.zeros 24).2.bits = (zgo 24 0 s.bits 0).2.bits := by unfold RS.zeros; rw [hs]
      have ha : a.length = k := by omega
      have hna := num_lt a
      rw [ha] at hna
      rw [zq] at hq ⊢
      rw [e4]
      have hdiv : (q * 2 ^ k + num a) / 2 ^ k = q := by rw [Nat.mul_comm, Nat.mul_add_div hpk, Nat.div_eq_of_lt hna]; omega
      have hmod : (q * 2 ^ k + num a) % 2 ^ k = num a := by rw [Nat.mul_comm, Nat.mul_add_mod, Nat.mod_eq_of_lt hna]
      refine ⟨q * 2 ^ k + num a, ?_, rfl, ?_⟩
      · have h24 : 2 ^ k ≤ 16777216 := Nat.le_trans (Nat.pow_le_pow_right (by decide) hk) (by decide)
        have : q * 2 ^ k ≤ 23 * 16777216 := Nat.mul_le_mul (by omega) h24
        omega
      · unfold codeZ
        rw [hdiv, hmod, if_pos hq, low_num' a k ha]
        simp only
        rw [z2, ← zb, e2]
        simp
  · rw [if_neg hq] at h ⊢
    unfold RS.riceB at h ⊢
    by_cases hd : (s.zeros 24).2.takeV 34 / 2 ^ k < 24
    · simp only [if_pos hd] at h
      rw [if_pos (give_err _ 2 (by decide))] at h
      exact absurd h (give_err _ 2 (by decide))
    · simp only [if_neg hd] at h ⊢
      by_cases he : ((s.zeros 24).2.takeS 34).err ≠ 0
      · rw [if_pos he] at h; exact absurd h he
      · rw [if_neg he] at h ⊢
        obtain ⟨e1, _, _, a, e2, e3, e4⟩ := takeS_inv _ _ h
        have hz : (zgo 24 0 s.bits 0).2.err = 0 := by unfold RS.zeros at e1; rw [hs] at e1; exact e1
        obtain ⟨q, z1, z2, z3⟩ := zgo_inv 24 s.bits 0 hz
        have zq : (s.zeros 24).1 = q := by unfold RS.zeros; rw [hs, z1]; omega
        have zb : (s.zeros 24).2.bits = (zgo 24 0 s.bits 0).2.bits := by unfold RS.zeros; rw [hs]
        have hq24 : q = 24 := by rw [zq] at hq; omega
        have ha : a.length = 34 := by omega
        have hna := num_lt a
        rw [ha] at hna
        rw [e4] at hd ⊢
        refine ⟨num a, by simpa using hna, rfl, ?_⟩
        unfold codeZ
        rw [if_neg hd, low_num' a 34 ha]
        simp only
        rw [z2, ← zb, e2, hq24]
        simp
end Go.Proofs.YtefbakhhlonafaaGreat
end

section
namespace Go.Proofs.YtefbakhhlonafaaGreat
open Go.RowKit Go.Proofs Go.Proofs.PipeM Go.Proofs.PipeA

/-- How many bits 0, what comes behind them, and in how many bits. -/
def parts3 (n : Int) (k : Nat) : Nat × Nat × Nat := if foldN n / 2 ^ k < 24 then (foldN n / 2 ^ k, foldN n % 2 ^ k, k) else (24, foldN n, 34)
theorem codeV_parts (n : Int) (k : Nat) : codeV n k = codeVal (parts3 n k).1 (parts3 n k).2.1 (parts3 n k).2.2 := by
  unfold codeV parts3; split <;> rfl
theorem parts3_bits (n : Int) (k : Nat) : codeBits n k = (List.replicate (parts3 n k).1 false ++ [true]) ++ low (parts3 n k).2.1 (parts3 n k).2.2 := by
  unfold codeBits codeZ parts3; split <;> rfl
theorem parts3_lt (n : Int) (k : Nat) (h : InR n) (hk : k ≤ 24) : (parts3 n k).1 ≤ 24 ∧ (parts3 n k).2.1 < 2 ^ (parts3 n k).2.2 ∧ (parts3 n k).2.2 ≤ 34 := by
  unfold parts3
  split
  · exact ⟨by simp; omega, Nat.mod_lt _ (Nat.two_pow_pos k), by simp; omega⟩
  · exact ⟨by simp, foldN_lt h, by simp⟩

set_option maxHeartbeats 800000 in
theorem cCost_yes (n : Int) (k : Nat) (w : World) (h : InR n) (hk : k ≤ 24) :
    Calls Tryz.prog 109 #[.int .i64 n, .int .i64 k] w fun e w' => e = .returned (.int .i64 (costN n k)) ∧ Below w.heap.size w w' := by
  have HC := fun W => Lib.hid (cCode_yes n k W h hk)
  rw [codeV_parts] at HC
  have hl := codeBits_length n k
  rw [parts3_bits] at hl
  simp [low_length] at hl
  obtain ⟨l1, l2, l3⟩ := parts3_lt n k h hk
  obtain ⟨⟨a, b, c⟩, hp⟩ : ∃ p, p = parts3 n k := ⟨_, rfl⟩
  rw [← hp] at HC hl l1 l2 l3
  simp only at hl l1 l2 l3 HC
  have HL := Lib.hid hl
  clear hl hp l2
  simp only [codeVal] at HC
  go_enter Tryz.func109, Tryz.ntmps109
  go_wp2_with fail
  refine (HC _).out.mono ?_
  rintro e w1 ⟨rfl, hb⟩
  have HB := Lib.hid hb
  clear hb
  go_wp2
  go_ret
  exact ⟨by rw [← HL.out]; show Ending.returned (Value.int .i64 ((a : Int) + 1 + (c : Int))) = _; congr 2; omega, HB.out.alloc HB.out.size _⟩

set_option maxHeartbeats 800000 in
theorem cCost (n k : Int) (w : World) :
    Calls Tryz.prog 109 #[.int .i64 n, .int .i64 k] w fun e w' => e = .returned (.int .i64 ((codeOf n k).length : Nat)) ∧ Below w.heap.size w w' := by
  by_cases h : codeOk n k = true
  · have h4 : -8589934592 ≤ n ∧ n ≤ 8589934591 ∧ 0 ≤ k ∧ k ≤ 24 := of_decide_eq_true h
    obtain ⟨m, rfl⟩ := Int.eq_ofNat_of_zero_le h4.2.2.1
    have e : (codeOf n (m : Int)).length = costN n m := by unfold codeOf; rw [if_pos h, Int.toNat_natCast, codeBits_length]
    rw [e]
    exact cCost_yes n m w ⟨h4.1, h4.2.1⟩ (by omega)
  · have h' : codeOk n k = false := by simpa using h
    have e : (codeOf n k).length = 0 := by unfold codeOf; rw [h']; rfl
    rw [e]
    have HC := fun W => Lib.hid (cCode_no n k W h')
    simp only [codeVal] at HC
    clear h h' e
    go_enter Tryz.func109, Tryz.ntmps109
    go_wp2_with fail
    refine (HC _).out.mono ?_
    rintro e w1 ⟨rfl, hb⟩
    have HB := Lib.hid hb
    clear hb
    go_wp2
    go_ret
    exact ⟨rfl, HB.out.alloc HB.out.size _⟩

end Go.Proofs.YtefbakhhlonafaaGreat
end

section
namespace Go.Proofs.YtefbakhhlonafaaGreat
open Go.RowKit Go.Proofs Go.Proofs.PipeM Go.Proofs.PipeA

/-- The folded number that is taken; where the reader fails it may be any. -/
def RS.foldT (s : RS) (k : Nat) : RS :=
  if (s.zeros 24).1 < 24 then (s.zeros 24).2.takeS k
  else if ((s.zeros 24).2.takeV 34) / 2 ^ k < 24 then ((s.zeros 24).2.takeS 34).give 2 else (s.zeros 24).2.takeS 34
def RS.foldV (s : RS) (k : Nat) : Nat :=
  if (s.zeros 24).1 < 24 then (s.zeros 24).1 * 2 ^ k + (s.zeros 24).2.takeV k else (s.zeros 24).2.takeV 34

theorem takeV_ltn (s : RS) (n : Nat) (hn : n ≤ 48) : s.takeV n < 2 ^ n := by
  unfold RS.takeV
  split
  · refine Nat.lt_of_lt_of_le (num_lt _) (Nat.pow_le_pow_right (by decide) ?_)
    rw [List.length_take]; omega
  · exact Nat.two_pow_pos n

theorem or_shift (q v k : Nat) (hq : q < 24) (hk : k ≤ 24) (hv : v < 2 ^ k) : bits BinOp.or IntKind.i64 (IntKind.i64.wrap ((q : Int) * 2 ^ k)) (IntKind.i64.wrap (v : Int)) = ((q * 2 ^ k + v : Nat) : Int) := by
  obtain ⟨p1, p2⟩ := pow24 k hk
  have e := pow_cast k
  have hm : q * 2 ^ k ≤ 24 * 16777216 := Nat.mul_le_mul (by omega) p2
  have e2 : (q : Int) * 2 ^ k = ((q * 2 ^ k : Nat) : Int) := by rw [Int.natCast_mul, e]
  have hw : IntKind.i64.wrap ((q : Int) * 2 ^ k) = ((q * 2 ^ k : Nat) : Int) := by rw [e2]; exact IntWalk.i64_in _ (by omega)
  have hw2 : IntKind.i64.wrap (v : Int) = (v : Int) := IntWalk.i64_in _ (by omega)
  rw [hw, hw2, bits_join .i64 34 (by decide) (fun n h1 h2 => IntWalk.i64_in _ (by omega)) k _ _ (by omega) ?_ (by omega) (by omega) (by omega) (by omega)]
  · omega
  · rw [← e, ← Int.natCast_emod, Nat.mul_mod_left]; rfl

set_option maxHeartbeats 1600000 in
theorem cFolded (b : Nat) (ao : Option Addr) (s : RS) (k : Nat) (w : World) (hk : k ≤ 24) (h : RdA w b ao s) :
    Calls Tryz.prog 127 #[.pointer (some ⟨b, 0, none⟩), .int .i64 k] w fun r w' => r = .returned (.int .i64 (s.foldV k)) ∧ Reads w b ao (s.foldT k) w' := by
  have HZ := Lib.hid (aZeros b ao s 24 w h)
  have hT : s.foldT k = if (s.zeros 24).1 < 24 then (s.zeros 24).2.takeS k else if ((s.zeros 24).2.takeV 34) / 2 ^ k < 24 then ((s.zeros 24).2.takeS 34).give 2 else (s.zeros 24).2.takeS 34 := rfl
  have hV : s.foldV k = if (s.zeros 24).1 < 24 then (s.zeros 24).1 * 2 ^ k + (s.zeros 24).2.takeV k else (s.zeros 24).2.takeV 34 := rfl
  obtain ⟨⟨q, s1⟩, hz⟩ : ∃ t, t = s.zeros 24 := ⟨_, rfl⟩
  rw [← hz] at hT hV
  have hz' : (q, s1) = zgo 24 s.err s.bits 0 := hz
  rw [← hz'] at HZ
  simp only at hT hV HZ
  clear hz hz' h
  have hv34 : s1.takeV 34 < 17179869184 := takeV_ltn s1 34 (by omega)
  have hvk := takeV_ltn s1 k (by omega)
  by_cases hq : q < 24
  · rw [if_pos hq] at hT hV
    have HT := Lib.hid hT
    have HV := Lib.hid hV
    have HO := Lib.hid (or_shift q (s1.takeV k) k hq hk hvk)
    have t1 : decide ((q : Int) < 24) = true := decide_eq_true (by omega)
    obtain ⟨v, hv⟩ : ∃ v, v = s1.takeV k := ⟨_, rfl⟩
    rw [← hv] at HO HV
    have HVV := Lib.hid hv
    clear hT hV hvk hv34 hv hq
    go_enter Tryz.func127, Tryz.ntmps127
    go_wp2_with fail
    refine HZ.out.mono ?_
    rintro e w1 ⟨rfl, hr1⟩
    have HR1 := Lib.hid hr1
    clear hr1 HZ
    have HTK := Lib.hid (aTake b ao s1 k w1.drew (HR1.out.1.keeps (keeps_drew w1) (by simp) (by simp)))
    have HRD : Hid (Reads w b ao s1 w1.drew) := ⟨HR1.out.1.keeps (keeps_drew w1) (by simp) (by simp), HR1.out.2.trans (keeps_drew_b w1 _)⟩
    rw [← HVV.out] at HTK
    go_wp2_with fail
    go_region_with (go_at_call 49; refine HTK.out.mono ?_; rintro e w2 ⟨rfl, hr2⟩)
    all_goals
      rw [HO.out]
      go_wp2
      go_ret
      exact ⟨by rw [HV.out]; rfl, by rw [HT.out]; exact HRD.out.next hr2⟩
  · rw [if_neg hq] at hT hV
    have HV := Lib.hid hV
    have t1 : decide ((q : Int) < 24) = false := decide_eq_false (by omega)
    obtain ⟨v, hv⟩ : ∃ v, v = s1.takeV 34 := ⟨_, rfl⟩
    rw [← hv] at hT HV hv34
    have HVV := Lib.hid hv
    have e1 : ((v : Int) / 2 ^ k) = ((v / 2 ^ k : Nat) : Int) := by rw [Int.natCast_ediv, pow_cast]
    have hw : IntKind.i64.wrap (v : Int) = (v : Int) := IntWalk.i64_in _ (by omega)
    by_cases hs : v / 2 ^ k < 24
    · rw [if_pos hs] at hT
      have HT := Lib.hid hT
      have t2 : decide ((v : Int) / 2 ^ k < 24) = true := by rw [e1]; exact decide_eq_true (by omega)
      clear hT hV hvk hv hq e1 hs
      go_enter Tryz.func127, Tryz.ntmps127
      go_wp2_with fail
      refine HZ.out.mono ?_
      rintro e w1 ⟨rfl, hr1⟩
      have HR1 := Lib.hid hr1
      clear hr1 HZ
      have HTK := Lib.hid (aTake b ao s1 34 w1 HR1.out.1)
      rw [← HVV.out] at HTK
      go_wp2_with fail
      refine HTK.out.mono ?_
      rintro e w2 ⟨rfl, hr2⟩
      have HR2 := Lib.hid (HR1.out.next hr2)
      clear hr2
      go_wp2_with fail
      refine (aGive b ao _ 2 w2 HR2.out.1).mono ?_
      rintro e w3 ⟨rfl, hr3⟩
      go_wp2
      go_ret
      exact ⟨by rw [HV.out]; rfl, by rw [HT.out]; exact HR2.out.next hr3⟩
    · rw [if_neg hs] at hT
      have HT := Lib.hid hT
      have t2 : decide ((v : Int) / 2 ^ k < 24) = false := by rw [e1]; exact decide_eq_false (by omega)
      clear hT hV hvk hv hq e1 hs
      go_enter Tryz.func127, Tryz.ntmps127
      go_wp2_with fail
      refine HZ.out.mono ?_
      rintro e w1 ⟨rfl, hr1⟩
      have HR1 := Lib.hid hr1
      clear hr1 HZ
      have HTK := Lib.hid (aTake b ao s1 34 w1 HR1.out.1)
      rw [← HVV.out] at HTK
      go_wp2_with fail
      refine HTK.out.mono ?_
      rintro e w2 ⟨rfl, hr2⟩
      have HR2 := Lib.hid (HR1.out.next hr2)
      clear hr2
      go_wp2
      go_ret
      exact ⟨by rw [HV.out]; rfl, by rw [HT.out]; exact HR2.out⟩

theorem rice_fold (s : RS) (k : Nat) (hk : k ≤ 24) : s.rice k = if (s.foldT k).err ≠ 0 then (s.foldT k, 0) else (s.foldT k, unfoldN (s.foldV k)) := by
  unfold RS.rice RS.foldT RS.foldV RS.riceA RS.riceB
  rw [if_neg (by omega), Int.toNat_natCast]
  by_cases hq : (s.zeros 24).1 < 24
  · rw [if_pos hq, if_pos hq, if_pos hq]
  · rw [if_neg hq, if_neg hq, if_neg hq]

theorem foldV_lt (s : RS) (k : Nat) (hk : k ≤ 24) : s.foldV k < 17179869184 := by
  unfold RS.foldV
  split
  · next h =>
    have h1 := takeV_ltn (s.zeros 24).2 k (by omega)
    obtain ⟨p1, p2⟩ := pow24 k hk
    have hm : (s.zeros 24).1 * 2 ^ k ≤ 24 * 16777216 := Nat.mul_le_mul (by omega) p2
    omega
  · exact takeV_ltn _ 34 (by omega)

set_option maxHeartbeats 1600000 in
theorem cTake (b : Nat) (ao : Option Addr) (s : RS) (k : Int) (w : World) (h : RdA w b ao s) :
    Calls Tryz.prog 112 #[.pointer (some ⟨b, 0, none⟩), .int .i64 k] w fun r w' => r = .returned (.int .i64 (s.rice k).2) ∧ Reads w b ao (s.rice k).1 w' := by
  have HP := fun W => Lib.hid (cIsP k W)
  by_cases hk : k < 0 ∨ 24 < k
  · have hp : parOk k = false := by unfold parOk; exact decide_eq_false (by omega)
    have hr : s.rice k = (s.give 1, 0) := by unfold RS.rice; rw [if_pos hk]
    rw [hp] at HP
    rw [hr]
    have HG := Lib.hid (aGive b ao s 1 w h)
    clear hp hr hk h
    go_enter Tryz.func112, Tryz.ntmps112
    go_wp2_with (first | (go_at_call 125; refine (HP _).out.mono ?_; rintro e w1 ⟨rfl, rfl⟩) | (go_at_call 46; refine HG.out.mono ?_; rintro e w2 ⟨rfl, hr2⟩))
    go_ret
    exact ⟨rfl, hr2⟩
  · have hp : parOk k = true := by unfold parOk; exact decide_eq_true (by omega)
    rw [hp] at HP
    obtain ⟨m, rfl⟩ := Int.eq_ofNat_of_zero_le (show 0 ≤ k by omega)
    have hm : m ≤ 24 := by omega
    have hr := rice_fold s m hm
    have hlt := foldV_lt s m hm
    have HF := Lib.hid (cFolded b ao s m w hm h)
    obtain ⟨t, ht⟩ : ∃ t, t = s.foldT m := ⟨_, rfl⟩
    obtain ⟨z, hz⟩ : ∃ z, z = s.foldV m := ⟨_, rfl⟩
    rw [← ht, ← hz] at hr HF
    rw [← hz] at hlt
    rw [show s.rice ((m : Nat) : Int) = if t.err ≠ 0 then (t, 0) else (t, unfoldN z) from hr]
    have HU := fun W => Lib.hid (cUnfold_still z W hlt)
    clear hr ht hz hp hk h
    by_cases he : t.err ≠ 0
    · rw [if_pos he]
      have t1 : (t.err != 0) = true := by simpa using he
      clear he
      obtain ⟨bs, er⟩ := t
      simp only at t1
      go_enter Tryz.func112, Tryz.ntmps112
      go_wp2_with (first | (go_at_call 125; refine (HP _).out.mono ?_; rintro e w1 ⟨rfl, rfl⟩) | (go_at_call 127; refine HF.out.mono ?_; rintro e w2 ⟨rfl, hr2⟩; have HR2 := Lib.hid hr2; clear hr2) | (go_at_call 22; refine (aFail b ao _ _ HR2.out.1).mono ?_; rintro e w3 ⟨rfl, rfl⟩))
      go_ret
      exact ⟨rfl, HR2.out⟩
    · rw [if_neg he]
      have t1 : (t.err != 0) = false := by simpa using he
      clear he
      obtain ⟨bs, er⟩ := t
      simp only at t1
      go_enter Tryz.func112, Tryz.ntmps112
      go_wp2_with (first | (go_at_call 125; refine (HP _).out.mono ?_; rintro e w1 ⟨rfl, rfl⟩) | (go_at_call 127; refine HF.out.mono ?_; rintro e w2 ⟨rfl, hr2⟩; have HR2 := Lib.hid hr2; clear hr2) | (go_at_call 22; refine (aFail b ao _ _ HR2.out.1).mono ?_; rintro e w3 ⟨rfl, rfl⟩) | (go_at_call 128; refine (HU _).out.mono ?_; rintro e w4 ⟨rfl, rfl⟩))
      go_ret
      exact ⟨rfl, HR2.out⟩

set_option maxHeartbeats 400000 in
theorem cTotal (ao : Option Addr) (cap : Nat) (l : List Int) (k : Nat) (w : World) (hl : l.length ≤ 100000) (hi : IntsAt w ao l) (hr : ∀ n ∈ l, InR n) (hk : k ≤ 24) :
    Calls Tryz.prog 84 #[.slice ao l.length cap, .int .i64 k] w fun e w' => e = .returned (.int .i64 (totalN l k)) ∧ Below w.heap.size w w' := by
  have HI := Lib.hid hi
  have HR := Lib.hid hr
  clear hi hr
  go_enter Tryz.func84, Tryz.ntmps84
  go_wp2
  go_loopg [5, 7, 10] l.length (fun gk s q i wr => ∃ c : Nat, c ≤ l.length ∧ gk + c = l.length ∧ i = .int .i64 c ∧ s = .int .i64 (totalN (l.take c) k) ∧ Hid (Below w.heap.size w wr))
  case atStart => exact ⟨0, Nat.zero_le _, by omega, rfl, rfl, Below.refl _ _⟩
  case round =>
    obtain ⟨c, hc, hgk, rfl, rfl, HB⟩ := hrel
    have HGK := Lib.hid hgk
    clear hgk
    have htl := totalN_le (l.take c) k hk
    rw [List.length_take] at htl
    obtain ⟨x, hx⟩ : ∃ x, x = totalN (l.take c) k := ⟨_, rfl⟩
    rw [← hx] at htl ⊢
    have HX := Lib.hid hx
    clear hx
    by_cases hlt : c < l.length
    · obtain ⟨g, off, rfl, hg, hcell⟩ := (HI.out.below HB.out) c hlt
      have hcl := costN_le l[c] k hk
      have hsn : totalN (l.take (c + 1)) k = totalN (l.take c) k + costN l[c] k := by rw [List.take_succ_eq_append_getElem hlt, totalN_snoc]
      have HL := fun W => Lib.hid (cCost_yes l[c] k W (HR.out _ (List.getElem_mem hlt)) hk)
      obtain ⟨n, hn⟩ : ∃ n, n = l[c] := ⟨_, rfl⟩
      obtain ⟨y, hy⟩ : ∃ y, y = costN n k := ⟨_, rfl⟩
      rw [← hn] at hcell
      rw [← hn, ← hy] at hcl HL hsn
      have HSN := Lib.hid hsn
      clear hsn hn hy
      go_wp2_with (go_at_call 109; refine (HL _).out.mono ?_; rintro e w1 ⟨rfl, hb1⟩; have HB1 := Lib.hid (HB.out.trans (hb1.mono HB.out.size)); clear hb1)
      go_roundg (gk - 1)
      case rel => exact ⟨c + 1, by omega, by have := HGK.out; omega, by go_num, by rw [HSN.out, ← HX.out]; go_num, HB1⟩
      case measure => have := HGK.out; omega
    · obtain rfl : c = l.length := by omega
      go_wp2
      go_ret
      exact ⟨by rw [show totalN l k = x by rw [HX.out, List.take_length]]; rfl, HB.out⟩
end Go.Proofs.YtefbakhhlonafaaGreat
end
