import Derived.Test.YtefbakhhlonafaaGxLagC5
import Derived.Test.YtefbakhhlonafaaBlkB
import Derived.Test.YtefbakhhlonafaaRef3b
import Derived.Test.YtefbakhhlonafaaGxInts
import Derived.Test.YtefbakhhlonafaaLatM

section
namespace Go.Proofs.Ytefbakhhlonafaa.Gx
open Go.RowKit Go.Proofs Go.Proofs.PipeA Go.Proofs.LagM
set_option maxRecDepth 100000

end Go.Proofs.Ytefbakhhlonafaa.Gx
end

section
namespace Go.Proofs.Ytefbakhhlonafaa
open Go.RowKit Go.Proofs Go.Proofs.PipeM Go.Proofs.PipeA Go.Proofs.BlkM
open Go.Proofs.LatM (goodL)
open Go.Proofs.LagM (goodT)
set_option maxRecDepth 100000

/-- A block as a value. -/
def blkV (b : Blk) (ia ra da : Option Addr) (ic rc dc : Nat) : Value :=
  .agg #[.int .i64 b.kind, .int .i64 b.value, .int .i64 b.shift, .slice ia b.index.length ic, .int .i64 b.lag, .int .i64 b.gain, .int .i64 b.part, .slice ra b.rice.length rc, .slice da b.data.length dc]
/-- A block that came in. -/
structure BlkIn (w : World) (b : Blk) (ia ra da : Option Addr) (ic rc dc : Nat) : Prop where
  i : IntsAt w ia b.index
  r : IntsAt w ra b.rice
  d : IntsAt w da b.data
  il : b.index.length ≤ 1000000
  rl : b.rice.length ≤ 1000000
  dl : b.data.length ≤ 1000000
  ic : b.index.length ≤ ic
  rc : b.rice.length ≤ rc
  dc : b.data.length ≤ dc
theorem BlkIn.below {w w' : World} {b : Blk} {ia ra da : Option Addr} {ic rc dc : Nat} (h : BlkIn w b ia ra da ic rc dc) (hb : Below w.heap.size w w') : BlkIn w' b ia ra da ic rc dc :=
  ⟨h.i.below hb, h.r.below hb, h.d.below hb, h.il, h.rl, h.dl, h.ic, h.rc, h.dc⟩

set_option maxHeartbeats 800000 in
theorem rParts (b : Blk) (ia ra da : Option Addr) (ic rc dc : Nat) (w : World) :
    Calls Try.prog 32 #[blkV b ia ra da ic rc dc] w fun e w' => e = .returned (.agg #[.int .i64 b.part, .slice ra b.rice.length rc]) ∧ Below w.heap.size w w' := by
  have HB := fun o1 o2 => Lib.hid (below2 w o1 o2)
  obtain ⟨kind, value, shift, index, lag, gain, part, rice, data⟩ := b
  unfold blkV
  dsimp only
  generalize index.length = il
  generalize rice.length = rl
  generalize data.length = dl
  go_enter Try.func32, Try.ntmps32
  go_wp2
  refine bodyPost_ret (v := .agg #[.int .i64 part, .slice ra rl rc]) (by simp [results, Try.results32, go_sem]) rfl ?_
  exact ⟨rfl, (HB _ _).out⟩

end Go.Proofs.Ytefbakhhlonafaa
end

section
namespace Go.Proofs.Ytefbakhhlonafaa
open Go.RowKit Go.Proofs Go.Proofs.PipeM Go.Proofs.PipeA

/-- Rice's Take, of the document's reader. -/
def MR.riceA (t : MR × Nat) (q k : Nat) : MR × Int := if t.1.fail ≠ 0 then (t.1, 0) else (t.1, unfoldN (q * 2 ^ k + t.2))
def MR.riceB (t : MR × Nat) (k : Nat) : MR × Int :=
  if (if t.2 / 2 ^ k < 24 then t.1.give 2 else t.1).fail ≠ 0 then ((if t.2 / 2 ^ k < 24 then t.1.give 2 else t.1), 0) else ((if t.2 / 2 ^ k < 24 then t.1.give 2 else t.1), unfoldN t.2)
def MR.rice (m : MR) (k : Int) : MR × Int :=
  if k < 0 ∨ 24 < k then (m.give 1, 0)
  else if (m.run 24).2 < 24 then MR.riceA ((m.run 24).1.take k) (m.run 24).2 k.toNat
  else MR.riceB ((m.run 24).1.take 34) k.toNat

end Go.Proofs.Ytefbakhhlonafaa
end

section
namespace Go.Proofs.Ytefbakhhlonafaa
open Go.RowKit Go.Proofs Go.Proofs.PipeM Go.Proofs.PipeA

theorem cFold_still (n : Int) (w : World) (h : InR n) :
    Calls Try.prog 104 #[.int .i64 n] w fun e w' => e = .returned (.int .i64 (foldN n)) ∧ w = w' := by
  obtain ⟨h1, h2⟩ := h
  by_cases hn : n < 0
  · have HF : Hid ((foldN n : Int) = -2 * n - 1) := by show _ = _; unfold foldN; rw [if_pos hn]; omega
    have t1 : decide (0 ≤ n) = false := decide_eq_false (by omega)
    go_enter Try.func104, Try.ntmps104
    go_wp2
    go_ret
    exact ⟨by rw [HF.out]; rfl, rfl⟩
  · have HF : Hid ((foldN n : Int) = 2 * n) := by show _ = _; unfold foldN; rw [if_neg hn]; omega
    have t1 : decide (0 ≤ n) = true := decide_eq_true (by omega)
    go_enter Try.func104, Try.ntmps104
    go_wp2
    go_ret
    exact ⟨by rw [HF.out]; rfl, rfl⟩

def parOk (k : Int) : Bool := decide (0 ≤ k ∧ k ≤ 24)
set_option maxHeartbeats 400000 in
theorem cIsP (k : Int) (w : World) : Calls Try.prog 103 #[.int .i64 k] w fun e w' => e = .returned (.bool (parOk k)) ∧ w = w' := by
  by_cases h1 : 0 ≤ k
  · have t1 : decide (0 ≤ k) = true := decide_eq_true h1
    by_cases h2 : k ≤ 24
    · have t2 : decide (k ≤ 24) = true := decide_eq_true h2
      have HP : Hid (parOk k = true) := by show _ = _; unfold parOk; exact decide_eq_true ⟨h1, h2⟩
      go_enter Try.func103, Try.ntmps103
      go_wp2
      go_ret
      exact ⟨by rw [HP.out]; rfl, rfl⟩
    · have t2 : decide (k ≤ 24) = false := decide_eq_false h2
      have HP : Hid (parOk k = false) := by show _ = _; unfold parOk; exact decide_eq_false (by omega)
      go_enter Try.func103, Try.ntmps103
      go_wp2
      go_ret
      exact ⟨by rw [HP.out]; rfl, rfl⟩
  · have t1 : decide (0 ≤ k) = false := decide_eq_false h1
    have HP : Hid (parOk k = false) := by show _ = _; unfold parOk; exact decide_eq_false (by omega)
    go_enter Try.func103, Try.ntmps103
    go_wp2
    go_ret
    exact ⟨by rw [HP.out]; rfl, rfl⟩

def codeVal (zeros rest bits : Nat) : Value := .agg #[.int .i64 zeros, .int .u64 rest, .int .i64 bits]

theorem pow_cast (k : Nat) : ((2 ^ k : Nat) : Int) = (2 : Int) ^ k := by rw [Int.natCast_pow]; rfl

theorem mask_rest (z k : Nat) (hz : z < 17179869184) (hk : k ≤ 24) : IntKind.u64.wrap (bits BinOp.and IntKind.i64 (z : Int) (wrap64 (wrap64 (2 ^ k) - 1))) = ((z % 2 ^ k : Nat) : Int) := by
  obtain ⟨p1, p2⟩ := pow24 k hk
  have e := pow_cast k
  have hw : wrap64 ((2 : Int) ^ k) = 2 ^ k := IntWalk.wrap64_in _ ⟨by omega, by omega⟩
  have hw2 : wrap64 ((2 : Int) ^ k - 1) = 2 ^ k - 1 := IntWalk.wrap64_in _ ⟨by omega, by omega⟩
  rw [hw, hw2, bits_mask .i64 34 (by decide) (fun n h1 h2 => IntWalk.i64_in _ (by omega)) k (by omega) z (by omega) (by omega), ← e]
  have hm : z % 2 ^ k < 2 ^ k := Nat.mod_lt _ p1
  rw [← Int.natCast_emod, wrap_u64]
  omega

set_option maxHeartbeats 400000 in
theorem cCode_no (n k : Int) (w : World) (h : codeOk n k = false) :
    Calls Try.prog 93 #[.int .i64 n, .int .i64 k] w fun e w' => e = .returned (.tuple #[codeVal 0 0 0, .bool false]) ∧ Below w.heap.size w w' := by
  have HP := fun W => Lib.hid (cIsP k W)
  have h4 : ¬ (-8589934592 ≤ n ∧ n ≤ 8589934591 ∧ 0 ≤ k ∧ k ≤ 24) := of_decide_eq_false h
  by_cases a1 : n < -8589934592
  · have t1 : decide (n < -8589934592) = true := decide_eq_true a1
    clear h4
    go_enter Try.func93, Try.ntmps93
    go_wp2
    refine bodyPost_ret (v := .tuple #[codeVal 0 0 0, .bool false]) (by simp [results, Try.results93, go_sem, codeVal]) rfl ?_
    exact ⟨rfl, (Below.refl _ _).alloc (Nat.le_refl _) _⟩
  · have t1 : decide (n < -8589934592) = false := decide_eq_false a1
    by_cases a2 : 8589934592 ≤ n
    · have t2 : decide (8589934592 ≤ n) = true := decide_eq_true a2
      clear h4
      go_enter Try.func93, Try.ntmps93
      go_wp2
      refine bodyPost_ret (v := .tuple #[codeVal 0 0 0, .bool false]) (by simp [results, Try.results93, go_sem, codeVal]) rfl ?_
      exact ⟨rfl, (Below.refl _ _).alloc (Nat.le_refl _) _⟩
    · have t2 : decide (8589934592 ≤ n) = false := decide_eq_false a2
      have hp : parOk k = false := by unfold parOk; exact decide_eq_false (by omega)
      rw [hp] at HP
      clear h4 hp
      go_enter Try.func93, Try.ntmps93
      go_wp2_with (go_at_call 103; refine (HP _).out.mono ?_; rintro e w1 ⟨rfl, rfl⟩)
      refine bodyPost_ret (v := .tuple #[codeVal 0 0 0, .bool false]) (by simp [results, Try.results93, go_sem, codeVal]) rfl ?_
      exact ⟨rfl, (Below.refl _ _).alloc (Nat.le_refl _) _⟩

def codeV (n : Int) (k : Nat) : Value := if foldN n / 2 ^ k < 24 then codeVal (foldN n / 2 ^ k) (foldN n % 2 ^ k) k else codeVal 24 (foldN n) 34

set_option maxHeartbeats 800000 in
theorem cCode_yes (n : Int) (k : Nat) (w : World) (h : InR n) (hk : k ≤ 24) :
    Calls Try.prog 93 #[.int .i64 n, .int .i64 k] w fun e w' => e = .returned (.tuple #[codeV n k, .bool true]) ∧ Below w.heap.size w w' := by
  have HP := fun W => Lib.hid (cIsP k W)
  have hp : parOk k = true := by unfold parOk; exact decide_eq_true (by omega)
  rw [hp] at HP
  have t1 : decide (n < -8589934592) = false := decide_eq_false (by have := h.1; omega)
  have t2 : decide (8589934592 ≤ n) = false := decide_eq_false (by have := h.2; omega)
  have HF := fun W => Lib.hid (cFold_still n W h)
  have hz := foldN_lt h
  have hv : codeV n k = if foldN n / 2 ^ k < 24 then codeVal (foldN n / 2 ^ k) (foldN n % 2 ^ k) k else codeVal 24 (foldN n) 34 := rfl
  obtain ⟨z, hzz⟩ : ∃ z, z = foldN n := ⟨_, rfl⟩
  rw [← hzz] at HF hz hv
  have HM := Lib.hid (mask_rest z k hz hk)
  have e1 : ((z : Int) / 2 ^ k) = ((z / 2 ^ k : Nat) : Int) := by rw [Int.natCast_ediv, pow_cast]
  have HE := Lib.hid e1
  clear hzz hp
  by_cases hq : z / 2 ^ k < 24
  · have HV : Hid (codeV n k = codeVal (z / 2 ^ k) (z % 2 ^ k) k) := by rw [hv, if_pos hq]; rfl
    have t3 : decide ((z : Int) / 2 ^ k < 24) = true := by rw [e1]; exact decide_eq_true (by omega)
    clear hv e1 hq
    go_enter Try.func93, Try.ntmps93
    go_wp2_with (first | (go_at_call 103; refine (HP _).out.mono ?_; rintro e w1 ⟨rfl, rfl⟩) | (go_at_call 104; refine (HF _).out.mono ?_; rintro e w1 ⟨rfl, rfl⟩))
    rw [HV.out, HM.out, HE.out]
    refine bodyPost_ret (v := .tuple #[codeVal (z / 2 ^ k) (z % 2 ^ k) k, .bool true]) (by simp [results, Try.results93, go_sem, codeVal]) rfl ?_
    exact ⟨rfl, (Below.refl _ _).alloc (Nat.le_refl _) _⟩
  · have HV : Hid (codeV n k = codeVal 24 z 34) := by rw [hv, if_neg hq]; rfl
    have t3 : decide ((z : Int) / 2 ^ k < 24) = false := by rw [e1]; exact decide_eq_false (by omega)
    clear hv e1 hq
    go_enter Try.func93, Try.ntmps93
    go_wp2_with (first | (go_at_call 103; refine (HP _).out.mono ?_; rintro e w1 ⟨rfl, rfl⟩) | (go_at_call 104; refine (HF _).out.mono ?_; rintro e w1 ⟨rfl, rfl⟩))
    rw [HV.out]
    refine bodyPost_ret (v := .tuple #[codeVal 24 z 34, .bool true]) (by simp [results, Try.results93, go_sem, codeVal]) rfl ?_
    exact ⟨rfl, (Below.refl _ _).alloc (Nat.le_refl _) _⟩
end Go.Proofs.Ytefbakhhlonafaa
end
