import Derived.Test.YtnfpkjnllkkngaaGreatDoorGxLagC5
import Derived.Test.YtnfpkjnllkkngaaGreatDoorBlkB
import Derived.Test.YtnfpkjnllkkngaaGreatDoorRef3b
import Derived.Test.YtnfpkjnllkkngaaGreatDoorFxLatC1
import Derived.Test.YtnfpkjnllkkngaaGreatDoorLatM

section
namespace Go.Proofs.YtnfpkjnllkkngaaGreatDoor.Gx
open Go.RowKit Go.Proofs Go.Proofs.PipeA Go.Proofs.LagM
set_option maxRecDepth 100000

set_option maxHeartbeats 800000 in
theorem rGood (a g : Int) (w : World) : Calls Tryz.prog 25 #[.int .i64 a, .int .i64 g] w fun e w' => e = .returned (.bool (goodT a g)) ∧ w = w' := by
  rcases goodT_cases a g with ⟨h1, h2, h3⟩ | ⟨h0, h1, h3⟩ | ⟨h0, h1, h2, h3⟩ | ⟨h0, h1, h2, h4, h3⟩ | ⟨h0, h1, h2, h4, h5, h3⟩ | ⟨h0, h1, h2, h4, h5, h3⟩
  · subst h1 h2
    rw [h3]
    clear h3
    go_enter Tryz.func25, Tryz.ntmps25
    go_wp2
    go_ret
    exact ⟨rfl, rfl⟩
  all_goals
    rw [h3]
    clear h3
    by_cases e1 : a = 0
    · first
      | (exfalso; omega)
      | (subst e1
         have t1 : (g == (0 : Int)) = false := by rw [beq_eq_false_iff_ne]; omega
         clear h0
         go_enter Tryz.func25, Tryz.ntmps25
         go_wp2
         go_ret
         exact ⟨rfl, rfl⟩)
    · have t1 : (a == (0 : Int)) = false := by rw [beq_eq_false_iff_ne]; exact e1
      clear h0 e1
      go_enter Tryz.func25, Tryz.ntmps25
      go_wp2
      go_ret
      first
      | exact ⟨rfl, rfl⟩
      | exact ⟨by rw [decide_eq_false (by omega)]; rfl, rfl⟩
      | exact ⟨by rw [decide_eq_true (by omega)]; rfl, rfl⟩

/-- A sixteenth, down. -/
theorem down_cases (n : Int) : (Int.tmod n 16 < 0 ∧ Int.tdiv n 16 - 1 = n / 16) ∨ (0 ≤ Int.tmod n 16 ∧ Int.tdiv n 16 = n / 16) := by
  by_cases h : 0 ≤ n
  · rw [Int.tdiv_eq_ediv_of_nonneg h, Int.tmod_eq_emod_of_nonneg h]
    omega
  · obtain ⟨m, rfl⟩ : ∃ m, n = -m := ⟨-n, by omega⟩
    rw [Int.neg_tdiv, Int.neg_tmod, Int.tdiv_eq_ediv_of_nonneg (by omega), Int.tmod_eq_emod_of_nonneg (by omega)]
    omega

set_option maxHeartbeats 800000 in
theorem rDown (n : Int) (w : World) (hn : -100000000000000 ≤ n ∧ n ≤ 100000000000000) : Calls Tryz.prog 52 #[.int .i64 n] w fun e w' => e = .returned (.int .i64 (n / 16)) ∧ w = w' := by
  have hd := down_cases n
  have HD := Lib.hid hd
  clear hd
  go_enter Tryz.func52, Tryz.ntmps52
  go_wp2
  · rename_i h
    go_ret
    refine ⟨?_, rfl⟩
    show Ending.returned (Value.int .i64 (wrap64 (n.tdiv 16 - 1))) = _
    have := HD.out
    rw [IntWalk.wrap64_in _ (by omega), show n.tdiv 16 - 1 = n / 16 by omega]
  · rename_i h
    go_ret
    refine ⟨?_, rfl⟩
    show Ending.returned (Value.int .i64 (n.tdiv 16)) = _
    have := HD.out
    rw [show n.tdiv 16 = n / 16 by omega]

theorem inB_cases2 (n : Int) : (decide (1099511627776 < n) = true ∧ inB n = false) ∨ (decide (1099511627776 < n) = false ∧ decide (n < -1099511627776) = true ∧ inB n = false) ∨ (decide (1099511627776 < n) = false ∧ decide (n < -1099511627776) = false ∧ inB n = true) := by
  unfold inB
  by_cases h1 : 1099511627776 < n
  · exact .inl ⟨decide_eq_true h1, decide_eq_false (by omega)⟩
  · by_cases h2 : n < -1099511627776
    · exact .inr (.inl ⟨decide_eq_false h1, decide_eq_true h2, decide_eq_false (by omega)⟩)
    · exact .inr (.inr ⟨decide_eq_false h1, decide_eq_false h2, decide_eq_true (by omega)⟩)

set_option maxHeartbeats 1600000 in
theorem rWrong (a g : Int) (ao : Option Addr) (cap : Nat) (l : List Int) (w : World) (hl : l.length ≤ 9223372036854775807) (hi : IntsAt w ao l) :
    Calls Tryz.prog 28 #[.int .i64 a, .int .i64 g, .slice ao l.length cap] w fun e w' => e = .returned (.int .i64 (codeT a g l)) ∧ w = w' := by
  have HI := Lib.hid hi
  have HG := Lib.hid (rGood a g w)
  clear hi
  cases hg : goodT a g with
  | false =>
    have HF := Lib.hid (codeT_good (l := l) hg)
    rw [hg] at HG
    clear hg
    go_enter Tryz.func28, Tryz.ntmps28
    go_wp2_with fail
    refine HG.out.mono ?_
    rintro e w1 ⟨rfl, rfl⟩
    go_wp2
    go_ret
    exact ⟨by rw [HF.out]; rfl, rfl⟩
  | true =>
    have HGD := Lib.hid hg
    rw [hg] at HG
    clear hg
    go_enter Tryz.func28, Tryz.ntmps28
    go_wp2_with fail
    refine HG.out.mono ?_
    rintro e w1 ⟨rfl, rfl⟩
    go_wp2
    go_loopg [7, 14] l.length (fun gk q i wr => ∃ c : Nat, c ≤ l.length ∧ gk + c = l.length ∧ i = .int .i64 c ∧ Hid ((l.take c).all inB = true) ∧ w = wr)
    case atStart => exact ⟨0, Nat.zero_le _, by omega, rfl, by simp [Hid], rfl⟩
    case round =>
      obtain ⟨c, hc, hgk, rfl, HT, rfl⟩ := hrel
      have HGK := Lib.hid hgk
      clear hgk
      by_cases hlt : c < l.length
      · obtain ⟨b, off, rfl, hb, hcell⟩ := HI.out c hlt
        have HNX : Hid (inB l[c] = true → (l.take (c + 1)).all inB = true) := fun h => by rw [List.take_succ_eq_append_getElem hlt, List.all_append, HT.out]; simp [h]
        have HMem : Hid (inB l[c] = false → codeT a g l = 9) := fun h => codeT_all HGD.out (by
          cases ha : l.all inB with
          | false => rfl
          | true => rw [List.all_eq_true.1 ha _ (List.getElem_mem hlt)] at h; cases h)
        generalize l[c] = x at hcell HNX HMem
        clear hb
        rcases inB_cases2 x with ⟨t1, t2⟩ | ⟨t1, t2, t3⟩ | ⟨t1, t2, t3⟩
        · have HF := Lib.hid (HMem.out t2)
          clear t2 HNX HMem
          go_wp2
          go_ret
          exact ⟨by rw [HF.out]; rfl, rfl⟩
        · have HF := Lib.hid (HMem.out t3)
          clear t3 HNX HMem
          go_wp2
          go_ret
          exact ⟨by rw [HF.out]; rfl, rfl⟩
        · have HN2 := Lib.hid (HNX.out t3)
          clear t3 HNX HMem
          go_wp2
          go_roundg (gk - 1)
          case rel => exact ⟨c + 1, by omega, by have := HGK.out; omega, by go_num, HN2, rfl⟩
          case measure => have := HGK.out; omega
      · obtain rfl : c = l.length := by omega
        have HA : Hid (codeT a g l = 0) := codeT_of HGD.out (by have := HT.out; rwa [List.take_length] at this)
        go_wp2
        go_ret
        exact ⟨by rw [HA.out]; rfl, rfl⟩
end Go.Proofs.YtnfpkjnllkkngaaGreatDoor.Gx
end

section
namespace Go.Proofs.YtnfpkjnllkkngaaGreatDoor
open Go.RowKit Go.Proofs Go.Proofs.PipeM Go.Proofs.PipeA Go.Proofs.BlkM
open Go.Proofs.LatM (goodL)
open Go.Proofs.LagM (goodT)
set_option maxRecDepth 100000

/-- A block as a value. -/
def blkV (b : Blk) (ia ra da : Option Addr) (ic rc dc : Nat) : Value :=
  .agg #[.int .i64 b.kind, .int .i64 b.value, .int .i64 b.shift, .slice ia b.index.length ic, .int .i64 b.lag, .int .i64 b.gain, .int .i64 b.part, .slice ra b.rice.length rc, .slice da b.data.length dc]
/-- A block that came in. -/
structure BlkIn (w : World) (b : Blk) (ia ra da : Option Addr) (ic rc dc : Nat) : Prop where
  i : IntsAt w ia b.index
  r : IntsAt w ra b.rice
  d : IntsAt w da b.data
  il : b.index.length ≤ 1000000
  rl : b.rice.length ≤ 1000000
  dl : b.data.length ≤ 1000000
  ic : b.index.length ≤ ic
  rc : b.rice.length ≤ rc
  dc : b.data.length ≤ dc
theorem BlkIn.below {w w' : World} {b : Blk} {ia ra da : Option Addr} {ic rc dc : Nat} (h : BlkIn w b ia ra da ic rc dc) (hb : Below w.heap.size w w') : BlkIn w' b ia ra da ic rc dc :=
  ⟨h.i.below hb, h.r.below hb, h.d.below hb, h.il, h.rl, h.dl, h.ic, h.rc, h.dc⟩

end Go.Proofs.YtnfpkjnllkkngaaGreatDoor
end

section
namespace Go.Proofs.YtnfpkjnllkkngaaGreatDoor
open Go.RowKit Go.Proofs Go.Proofs.PipeM Go.Proofs.PipeA

/-- Rice's Take, of the document's reader. -/
def MR.riceA (t : MR × Nat) (q k : Nat) : MR × Int := if t.1.fail ≠ 0 then (t.1, 0) else (t.1, unfoldN (q * 2 ^ k + t.2))
def MR.riceB (t : MR × Nat) (k : Nat) : MR × Int :=
  if (if t.2 / 2 ^ k < 24 then t.1.give 2 else t.1).fail ≠ 0 then ((if t.2 / 2 ^ k < 24 then t.1.give 2 else t.1), 0) else ((if t.2 / 2 ^ k < 24 then t.1.give 2 else t.1), unfoldN t.2)
def MR.rice (m : MR) (k : Int) : MR × Int :=
  if k < 0 ∨ 24 < k then (m.give 1, 0)
  else if (m.run 24).2 < 24 then MR.riceA ((m.run 24).1.take k) (m.run 24).2 k.toNat
  else MR.riceB ((m.run 24).1.take 34) k.toNat

end Go.Proofs.YtnfpkjnllkkngaaGreatDoor
end

section
namespace Go.Proofs.YtnfpkjnllkkngaaGreatDoor
open Go.RowKit Go.Proofs Go.Proofs.PipeM Go.Proofs.PipeA

theorem cFold_still (n : Int) (w : World) (h : InR n) :
    Calls Tryz.prog 118 #[.int .i64 n] w fun e w' => e = .returned (.int .i64 (foldN n)) ∧ w = w' := by
  obtain ⟨h1, h2⟩ := h
  by_cases hn : n < 0
  · have HF : Hid ((foldN n : Int) = -2 * n - 1) := by show _ = _; unfold foldN; rw [if_pos hn]; omega
    have t1 : decide (0 ≤ n) = false := decide_eq_false (by omega)
    go_enter Tryz.func118, Tryz.ntmps118
    go_wp2
    go_ret
    exact ⟨by rw [HF.out]; rfl, rfl⟩
  · have HF : Hid ((foldN n : Int) = 2 * n) := by show _ = _; unfold foldN; rw [if_neg hn]; omega
    have t1 : decide (0 ≤ n) = true := decide_eq_true (by omega)
    go_enter Tryz.func118, Tryz.ntmps118
    go_wp2
    go_ret
    exact ⟨by rw [HF.out]; rfl, rfl⟩

def parOk (k : Int) : Bool := decide (0 ≤ k ∧ k ≤ 24)
set_option maxHeartbeats 400000 in
theorem cIsP (k : Int) (w : World) : Calls Tryz.prog 117 #[.int .i64 k] w fun e w' => e = .returned (.bool (parOk k)) ∧ w = w' := by
  by_cases h1 : 0 ≤ k
  · have t1 : decide (0 ≤ k) = true := decide_eq_true h1
    by_cases h2 : k ≤ 24
    · have t2 : decide (k ≤ 24) = true := decide_eq_true h2
      have HP : Hid (parOk k = true) := by show _ = _; unfold parOk; exact decide_eq_true ⟨h1, h2⟩
      go_enter Tryz.func117, Tryz.ntmps117
      go_wp2
      go_ret
      exact ⟨by rw [HP.out]; rfl, rfl⟩
    · have t2 : decide (k ≤ 24) = false := decide_eq_false h2
      have HP : Hid (parOk k = false) := by show _ = _; unfold parOk; exact decide_eq_false (by omega)
      go_enter Tryz.func117, Tryz.ntmps117
      go_wp2
      go_ret
      exact ⟨by rw [HP.out]; rfl, rfl⟩
  · have t1 : decide (0 ≤ k) = false := decide_eq_false h1
    have HP : Hid (parOk k = false) := by show _ = _; unfold parOk; exact decide_eq_false (by omega)
    go_enter Tryz.func117, Tryz.ntmps117
    go_wp2
    go_ret
    exact ⟨by rw [HP.out]; rfl, rfl⟩

def codeVal (zeros rest bits : Nat) : Value := .agg #[.int .i64 zeros, .int .u64 rest, .int .i64 bits]

theorem pow_cast (k : Nat) : ((2 ^ k : Nat) : Int) = (2 : Int) ^ k := by rw [Int.natCast_pow]; rfl

theorem mask_rest (z k : Nat) (hz : z < 17179869184) (hk : k ≤ 24) : IntKind.u64.wrap (bits BinOp.and IntKind.i64 (z : Int) (wrap64 (wrap64 (2 ^ k) - 1))) = ((z % 2 ^ k : Nat) : Int) := by
  obtain ⟨p1, p2⟩ := pow24 k hk
  have e := pow_cast k
  have hw : wrap64 ((2 : Int) ^ k) = 2 ^ k := IntWalk.wrap64_in _ ⟨by omega, by omega⟩
  have hw2 : wrap64 ((2 : Int) ^ k - 1) = 2 ^ k - 1 := IntWalk.wrap64_in _ ⟨by omega, by omega⟩
  rw [hw, hw2, bits_mask .i64 34 (by decide) (fun n h1 h2 => IntWalk.i64_in _ (by omega)) k (by omega) z (by omega) (by omega), ← e]
  have hm : z % 2 ^ k < 2 ^ k := Nat.mod_lt _ p1
  rw [← Int.natCast_emod, wrap_u64]
  omega

set_option maxHeartbeats 400000 in
theorem cCode_no (n k : Int) (w : World) (h : codeOk n k = false) :
    Calls Tryz.prog 105 #[.int .i64 n, .int .i64 k] w fun e w' => e = .returned (.tuple #[codeVal 0 0 0, .bool false]) ∧ Below w.heap.size w w' := by
  have HP := fun W => Lib.hid (cIsP k W)
  have h4 : ¬ (-8589934592 ≤ n ∧ n ≤ 8589934591 ∧ 0 ≤ k ∧ k ≤ 24) := of_decide_eq_false h
  by_cases a1 : n < -8589934592
  · have t1 : decide (n < -8589934592) = true := decide_eq_true a1
    clear h4
    go_enter Tryz.func105, Tryz.ntmps105
    go_wp2
    refine bodyPost_ret (v := .tuple #[codeVal 0 0 0, .bool false]) (by simp [results, Tryz.results105, go_sem, codeVal]) rfl ?_
    exact ⟨rfl, (Below.refl _ _).alloc (Nat.le_refl _) _⟩
  · have t1 : decide (n < -8589934592) = false := decide_eq_false a1
    by_cases a2 : 8589934592 ≤ n
    · have t2 : decide (8589934592 ≤ n) = true := decide_eq_true a2
      clear h4
      go_enter Tryz.func105, Tryz.ntmps105
      go_wp2
      refine bodyPost_ret (v := .tuple #[codeVal 0 0 0, .bool false]) (by simp [results, Tryz.results105, go_sem, codeVal]) rfl ?_
      exact ⟨rfl, (Below.refl _ _).alloc (Nat.le_refl _) _⟩
    · have t2 : decide (8589934592 ≤ n) = false := decide_eq_false a2
      have hp : parOk k = false := by unfold parOk; exact decide_eq_false (by omega)
      rw [hp] at HP
      clear h4 hp
      go_enter Tryz.func105, Tryz.ntmps105
      go_wp2_with (go_at_call 117; refine (HP _).out.mono ?_; rintro e w1 ⟨rfl, rfl⟩)
      refine bodyPost_ret (v := .tuple #[codeVal 0 0 0, .bool false]) (by simp [results, Tryz.results105, go_sem, codeVal]) rfl ?_
      exact ⟨rfl, (Below.refl _ _).alloc (Nat.le_refl _) _⟩

def codeV (n : Int) (k : Nat) : Value := if foldN n / 2 ^ k < 24 then codeVal (foldN n / 2 ^ k) (foldN n % 2 ^ k) k else codeVal 24 (foldN n) 34

set_option maxHeartbeats 800000 in
theorem cCode_yes (n : Int) (k : Nat) (w : World) (h : InR n) (hk : k ≤ 24) :
    Calls Tryz.prog 105 #[.int .i64 n, .int .i64 k] w fun e w' => e = .returned (.tuple #[codeV n k, .bool true]) ∧ Below w.heap.size w w' := by
  have HP := fun W => Lib.hid (cIsP k W)
  have hp : parOk k = true := by unfold parOk; exact decide_eq_true (by omega)
  rw [hp] at HP
  have t1 : decide (n < -8589934592) = false := decide_eq_false (by have := h.1; omega)
  have t2 : decide (8589934592 ≤ n) = false := decide_eq_false (by have := h.2; omega)
  have HF := fun W => Lib.hid (cFold_still n W h)
  have hz := foldN_lt h
  have hv : codeV n k = if foldN n / 2 ^ k < 24 then codeVal (foldN n / 2 ^ k) (foldN n % 2 ^ k) k else codeVal 24 (foldN n) 34 := rfl
  obtain ⟨z, hzz⟩ : ∃ z, z = foldN n := ⟨_, rfl⟩
  rw [← hzz] at HF hz hv
  have HM := Lib.hid (mask_rest z k hz hk)
  have e1 : ((z : Int) / 2 ^ k) = ((z / 2 ^ k : Nat) : Int) := by rw [Int.natCast_ediv, pow_cast]
  have HE := Lib.hid e1
  clear hzz hp
  by_cases hq : z / 2 ^ k < 24
  · have HV : Hid (codeV n k = codeVal (z / 2 ^ k) (z % 2 ^ k) k) := by rw [hv, if_pos hq]; rfl
    have t3 : decide ((z : Int) / 2 ^ k < 24) = true := by rw [e1]; exact decide_eq_true (by omega)
    clear hv e1 hq
    go_enter Tryz.func105, Tryz.ntmps105
    go_wp2_with (first | (go_at_call 117; refine (HP _).out.mono ?_; rintro e w1 ⟨rfl, rfl⟩) | (go_at_call 118; refine (HF _).out.mono ?_; rintro e w1 ⟨rfl, rfl⟩))
    rw [HV.out, HM.out, HE.out]
    refine bodyPost_ret (v := .tuple #[codeVal (z / 2 ^ k) (z % 2 ^ k) k, .bool true]) (by simp [results, Tryz.results105, go_sem, codeVal]) rfl ?_
    exact ⟨rfl, (Below.refl _ _).alloc (Nat.le_refl _) _⟩
  · have HV : Hid (codeV n k = codeVal 24 z 34) := by rw [hv, if_neg hq]; rfl
    have t3 : decide ((z : Int) / 2 ^ k < 24) = false := by rw [e1]; exact decide_eq_false (by omega)
    clear hv e1 hq
    go_enter Tryz.func105, Tryz.ntmps105
    go_wp2_with (first | (go_at_call 117; refine (HP _).out.mono ?_; rintro e w1 ⟨rfl, rfl⟩) | (go_at_call 118; refine (HF _).out.mono ?_; rintro e w1 ⟨rfl, rfl⟩))
    rw [HV.out]
    refine bodyPost_ret (v := .tuple #[codeVal 24 z 34, .bool true]) (by simp [results, Tryz.results105, go_sem, codeVal]) rfl ?_
    exact ⟨rfl, (Below.refl _ _).alloc (Nat.le_refl _) _⟩
end Go.Proofs.YtnfpkjnllkkngaaGreatDoor
end
