import Derived.Test.YtefbakhhlonafaaGreatBlkH8
import Derived.Test.YtefbakhhlonafaaGreatBlkI1
import Derived.Test.YtefbakhhlonafaaGreatBlkI2
import Derived.Test.YtefbakhhlonafaaGreatBlkI3
import Derived.Test.YtefbakhhlonafaaGreatBlkI4
import Derived.Test.YtefbakhhlonafaaGreatBlkI5
import Derived.Test.YtefbakhhlonafaaGreatBlkI6
import Derived.Test.YtefbakhhlonafaaGreatBlkI7
import Derived.Test.YtefbakhhlonafaaGreatBlkI8
import Derived.Test.YtefbakhhlonafaaGreatBlkI9
import Derived.Test.YtefbakhhlonafaaGreatBlkH6
import Derived.Test.YtefbakhhlonafaaGreatSlideT4
import Derived.Test.YtefbakhhlonafaaGreatReader5
import Derived.Test.YtefbakhhlonafaaGreatBlkC2
import Derived.Test.YtefbakhhlonafaaGreatBlkC6
import Derived.Test.YtefbakhhlonafaaGreatBlkC4

section
namespace Go.Proofs.YtefbakhhlonafaaGreat
open Go.RowKit Go.Proofs Go.Proofs.PipeM Go.Proofs.PipeA Go.Proofs.BlkM
set_option maxRecDepth 100000

/-- Take, of the document. -/
theorem rTake10 (m : MR) (n d : Int) (w : World) (hb : m.bits.length ≤ 1000000000) : Calls Tryz.prog 20 #[m.val, .int .i64 n, .int .i64 d] w (BTakeIs (m.block n d) w) := by
  cases hs : sizeN n && depthB d with
  | false => exact rTake_size m n d w hs
  | true =>
    rw [Bool.and_eq_true] at hs
    obtain ⟨k, rfl, hn1, hn⟩ := sizeN_of hs.1
    obtain ⟨mm, rfl, hm1, hm2⟩ := depthB_of hs.2
    have h4 := (MR.take_val m).1
    by_cases h0 : (m.take 2).2 = 0
    · exact rTake_0 m k mm w hb hn1 hn hm1 hm2 h0
    by_cases h1 : (m.take 2).2 = 1
    · exact rTake_1 m k mm w hb hn1 hn hm1 hm2 h1
    by_cases h3 : (m.take 2).2 = 3
    · exact rTake_3 m k mm w hb hn1 hn hm1 hm2 h3
    have h2 : (m.take 2).2 = 2 := by omega
    by_cases h16 : 16 < (((m.take 2).1.take 5).1.take 5).2
    · by_cases hf1 : (((MR.ints 7 ((((m.take 2).1.take 5).1.take 5).2) (if 16 < (((m.take 2).1.take 5).1.take 5).2 then (((m.take 2).1.take 5).1.take 5).1.give 2 else (((m.take 2).1.take 5).1.take 5).1)).1).take 1).2 = 1
      rotate_left
      · exact rTake_2on m k mm w hb hn1 hn hm1 hm2 h2 h16 hf1
      by_cases hL : ((((MR.ints 7 ((((m.take 2).1.take 5).1.take 5).2) (if 16 < (((m.take 2).1.take 5).1.take 5).2 then (((m.take 2).1.take 5).1.take 5).1.give 2 else (((m.take 2).1.take 5).1.take 5).1)).1).take 1).1.take 8).2 = 0
      · exact rTake_2ol m k mm w hb hn1 hn hm1 hm2 h2 h16 hf1 (fun r5 r6 r7 la ga a b c => by rw [a] at hL; dsimp only at hL; rw [b] at hL; exact hL)
      by_cases hG : (((((MR.ints 7 ((((m.take 2).1.take 5).1.take 5).2) (if 16 < (((m.take 2).1.take 5).1.take 5).2 then (((m.take 2).1.take 5).1.take 5).1.give 2 else (((m.take 2).1.take 5).1.take 5).1)).1).take 1).1.take 8).1.take 4).2 = 0
      · exact rTake_2og m k mm w hb hn1 hn hm1 hm2 h2 h16 hf1 (fun r5 r6 r7 la ga a b c => by rw [a] at hL hG; dsimp only at hL hG; rw [b] at hL hG; dsimp only at hL hG; rw [c] at hG; exact ⟨hL, hG⟩)
      · exact rTake_2oy m k mm w hb hn1 hn hm1 hm2 h2 h16 hf1 (fun r5 r6 r7 la ga a b c => by rw [a] at hL hG; dsimp only at hL hG; rw [b] at hL hG; dsimp only at hL hG; rw [c] at hG; exact ⟨hL, hG⟩)
    · by_cases hf1 : (((MR.ints 7 ((((m.take 2).1.take 5).1.take 5).2) (if 16 < (((m.take 2).1.take 5).1.take 5).2 then (((m.take 2).1.take 5).1.take 5).1.give 2 else (((m.take 2).1.take 5).1.take 5).1)).1).take 1).2 = 1
      rotate_left
      · exact rTake_2n m k mm w hb hn1 hn hm1 hm2 h2 h16 hf1
      by_cases hL : ((((MR.ints 7 ((((m.take 2).1.take 5).1.take 5).2) (if 16 < (((m.take 2).1.take 5).1.take 5).2 then (((m.take 2).1.take 5).1.take 5).1.give 2 else (((m.take 2).1.take 5).1.take 5).1)).1).take 1).1.take 8).2 = 0
      · exact rTake_2l m k mm w hb hn1 hn hm1 hm2 h2 h16 hf1 (fun r5 r6 r7 la ga a b c => by rw [a] at hL; dsimp only at hL; rw [b] at hL; exact hL)
      by_cases hG : (((((MR.ints 7 ((((m.take 2).1.take 5).1.take 5).2) (if 16 < (((m.take 2).1.take 5).1.take 5).2 then (((m.take 2).1.take 5).1.take 5).1.give 2 else (((m.take 2).1.take 5).1.take 5).1)).1).take 1).1.take 8).1.take 4).2 = 0
      · exact rTake_2g m k mm w hb hn1 hn hm1 hm2 h2 h16 hf1 (fun r5 r6 r7 la ga a b c => by rw [a] at hL hG; dsimp only at hL hG; rw [b] at hL hG; dsimp only at hL hG; rw [c] at hG; exact ⟨hL, hG⟩)
      · exact rTake_2y m k mm w hb hn1 hn hm1 hm2 h2 h16 hf1 (fun r5 r6 r7 la ga a b c => by rw [a] at hL hG; dsimp only at hL hG; rw [b] at hL hG; dsimp only at hL hG; rw [c] at hG; exact ⟨hL, hG⟩)
end Go.Proofs.YtefbakhhlonafaaGreat
end

section
namespace Go.Proofs.YtefbakhhlonafaaGreat
open Go.RowKit Go.Proofs Go.Proofs.PipeM Go.Proofs.PipeA Go.Proofs.BlkM Go.Proofs.BlkB
set_option maxRecDepth 100000

/-- Numbers in two's complement that come next, to the program. -/
def RS.adv (d : Nat) (s : RS) : Nat → RS
  | 0 => s
  | c + 1 => (s.adv d c).signedS d
def RS.intsS (d n : Nat) (s : RS) : RS × List Int := (s.adv d n, (List.range n).map fun j => (s.adv d j).signedV d)
theorem intsS_length (d n : Nat) (s : RS) : (s.intsS d n).2.length = n := by unfold RS.intsS; simp
theorem adv_shift (d : Nat) (s : RS) : ∀ c, s.adv d (c + 1) = (s.signedS d).adv d c
  | 0 => rfl
  | c + 1 => by rw [RS.adv, adv_shift d s c]; rfl
theorem intsS_succ (d n : Nat) (s : RS) : s.intsS d (n + 1) = (((s.signedS d).intsS d n).1, s.signedV d :: ((s.signedS d).intsS d n).2) := by
  unfold RS.intsS
  rw [adv_shift, List.range_succ_eq_map, List.map_cons, List.map_map]
  congr 2
  refine List.map_congr_left fun j _ => ?_
  show (s.adv d (j + 1)).signedV d = _
  rw [adv_shift]
theorem signed_take {s : RS} {d : Nat} (h1 : 1 ≤ d) (h2 : d ≤ 48) : s.signedS d = s.takeS d ∧ s.signedV d = sgn (s.takeV d) d := by
  unfold RS.signedS RS.signedV
  rw [if_neg (by omega), if_neg (by omega)]
  exact ⟨rfl, rfl⟩
theorem Sim.spentInts {s : RS} {m : MR} (h : Sim s m) (hf : m.fail ≠ 0) {d : Nat} (h1 : 1 ≤ d) (h2 : d ≤ 48) : ∀ n, Sim (s.intsS d n).1 m := by
  intro n
  induction n generalizing s with
  | zero => exact h
  | succ n ih =>
    rw [intsS_succ]
    have h3 := (h.take d).1
    rw [MR.take_spent hf, ← (signed_take h1 h2).1] at h3
    exact ih h3
theorem Sim.intV {s : RS} {m : MR} (h : Sim s m) {d : Nat} (h1 : 1 ≤ d) (h2 : d ≤ 48) (hf : (m.take d).1.fail = 0) : s.signedV d = m.intV d := by
  rw [(signed_take h1 h2).2, (h.take d).2]
  unfold sgn MR.intV
  by_cases hp : 2 ^ (d - 1) ≤ (m.take d).2
  · rw [if_pos hp, if_pos ⟨hf, hp⟩]; simp
  · rw [if_neg hp, if_neg (fun x => hp x.2)]
theorem Sim.ints {s : RS} {m : MR} (h : Sim s m) {d : Nat} (h1 : 1 ≤ d) (h2 : d ≤ 48) : ∀ n, Sim (s.intsS d n).1 (MR.ints d n m).1 ∧ ((MR.ints d n m).1.fail = 0 → (s.intsS d n).2 = (MR.ints d n m).2) := by
  intro n
  induction n generalizing s m with
  | zero => exact ⟨h, fun _ => rfl⟩
  | succ n ih =>
    by_cases hf : m.fail = 0
    · have h3 := (h.take d).1
      rw [← (signed_take h1 h2).1] at h3
      obtain ⟨h4, h5⟩ := ih h3
      rw [MR.ints_succ hf, intsS_succ]
      refine ⟨h4, fun e => ?_⟩
      have hz : (m.take d).1.fail = 0 := by
        by_cases hz : (m.take d).1.fail = 0
        · exact hz
        · rw [MR.ints_fail hz] at e
          exact absurd e hz
      rw [h5 e, h.intV h1 h2 hz]
    · rw [MR.ints_fail hf]
      exact ⟨h.spentInts hf h1 h2 (n + 1), fun e => absurd e hf⟩

/-- A Normal's indices, and its term, that come. -/
def RS.idx (s : RS) : RS × List Int := if 16 < s.takeV 5 then ((s.takeS 5).give 2, []) else (s.takeS 5).intsS 7 (s.takeV 5)
def RS.term (s : RS) : RS × Nat × Nat :=
  if s.takeV 1 = 0 then (s.takeS 1, 0, 0)
  else (if (s.takeS 1).takeV 8 = 0 ∨ ((s.takeS 1).takeS 8).takeV 4 = 0 then (((s.takeS 1).takeS 8).takeS 4).give 2 else ((s.takeS 1).takeS 8).takeS 4, (s.takeS 1).takeV 8, ((s.takeS 1).takeS 8).takeV 4)
def RS.normB (s : RS) (n : Nat) : RS × Blk :=
  let x := (s.takeS 5).idx
  let t := x.1.term
  let l := t.1.slide n
  (l.1, ⟨2, 0, (s.takeV 5 : Nat), x.2, (t.2.1 : Nat), (t.2.2 : Nat), (l.2.2.1 : Nat), l.2.2.2, l.2.1⟩)
def RS.kindB (s : RS) (n d : Nat) : RS × Blk :=
  if s.takeV 2 = 1 then ((s.takeS 2).signedS d, ⟨1, (s.takeS 2).signedV d, 0, [], 0, 0, 0, [], []⟩)
  else if s.takeV 2 = 2 then (s.takeS 2).normB n
  else if s.takeV 2 = 3 then (((s.takeS 2).intsS d n).1, ⟨3, 0, 0, [], 0, 0, 0, [], ((s.takeS 2).intsS d n).2⟩)
  else (s.takeS 2, Blk.none)
def RS.block (s : RS) (n d : Int) : RS × Blk × List Int :=
  if !(sizeN n && depthB d) then (s.give 1, Blk.none, [])
  else if ((s.kindB n.toNat d.toNat).1.give (codeB (s.kindB n.toNat d.toNat).2 n d)).err ≠ 0 then ((s.kindB n.toNat d.toNat).1.give (codeB (s.kindB n.toNat d.toNat).2 n d), Blk.none, [])
  else ((s.kindB n.toNat d.toNat).1.give (codeB (s.kindB n.toNat d.toNat).2 n d), (s.kindB n.toNat d.toNat).2, outB (s.kindB n.toNat d.toNat).2 n.toNat)

theorem MR.give_still {m : MR} {e : Int} (h : (m.give e).fail = 0) : m.fail = 0 := by
  by_cases hf : m.fail = 0
  · exact hf
  · rw [MR.give_spent hf] at h; exact h
theorem MR.take_still {m : MR} {n : Int} (h : (m.take n).1.fail = 0) : m.fail = 0 := by
  by_cases hf : m.fail = 0
  · exact hf
  · rw [MR.take_spent hf] at h; exact h
theorem MR.ints_still {d n : Nat} {m : MR} (h : (MR.ints d n m).1.fail = 0) : m.fail = 0 := by
  by_cases hf : m.fail = 0
  · exact hf
  · rw [MR.ints_fail hf] at h; exact h
theorem MR.slide_still {m : MR} {n : Int} (h : (m.slide n).1.fail = 0) : m.fail = 0 := by
  by_cases hf : m.fail = 0
  · exact hf
  · exfalso
    unfold MR.slide at h
    split at h
    · rw [MR.give_spent hf] at h; exact hf h
    · rw [MR.take_spent hf] at h
      unfold MR.slideB at h
      have hb : ∀ sz c (k : MR), k.fail ≠ 0 → MR.body sz c k = (k, [], []) := fun sz c k hk => by
        cases c with
        | zero => rfl
        | succ c => rw [MR.body, if_pos hk]
      have hm : (m.form n.toNat 0) = m := by unfold MR.form; rw [MR.give_spent hf]; split <;> rfl
      simp only [hm] at h
      rw [hb _ _ _ hf] at h
      split at h <;> exact hf h

theorem Sim.idx {s : RS} {m : MR} (h : Sim s m) : Sim s.idx.1 (MR.ints 7 (m.take 5).2 (if 16 < (m.take 5).2 then (m.take 5).1.give 2 else (m.take 5).1)).1 ∧ ((MR.ints 7 (m.take 5).2 (if 16 < (m.take 5).2 then (m.take 5).1.give 2 else (m.take 5).1)).1.fail = 0 → s.idx.2 = (MR.ints 7 (m.take 5).2 (if 16 < (m.take 5).2 then (m.take 5).1.give 2 else (m.take 5).1)).2) := by
  obtain ⟨h1, h2⟩ := h.take 5
  unfold RS.idx
  rw [h2]
  by_cases h16 : 16 < (m.take 5).2
  · simp only [if_pos h16]
    have hg := h1.give 2
    have hne : ((m.take 5).1.give 2).fail ≠ 0 := by
      by_cases hf : (m.take 5).1.fail = 0
      · unfold MR.give; rw [if_pos hf]; simp
      · rw [MR.give_spent hf]; exact hf
    rw [MR.ints_fail hne]
    exact ⟨hg, fun e => absurd e hne⟩
  · simp only [if_neg h16]
    exact h1.ints (by omega) (by omega) _
theorem Sim.term {s : RS} {m : MR} (h : Sim s m) : Sim s.term.1 m.term.1 ∧ s.term.2 = m.term.2 := by
  obtain ⟨h1, h2⟩ := h.take 1
  obtain ⟨h3, h4⟩ := h1.take 8
  obtain ⟨h5, h6⟩ := h3.take 4
  unfold RS.term MR.term
  rw [h2, h4, h6]
  have hlt : (m.take 1).2 < 2 ^ 1 := take_lt m 1
  by_cases h0 : (m.take 1).2 = 0
  · rw [if_pos h0]
    simp only [h0]
    exact ⟨h1, rfl⟩
  · rw [if_neg h0]
    have e1 : (m.take 1).2 = 1 := by omega
    simp only [e1, if_true]
    by_cases hz : ((m.take 1).1.take 8).2 = 0 ∨ (((m.take 1).1.take 8).1.take 4).2 = 0
    · rw [if_pos hz, if_pos hz]
      exact ⟨h5.give 2, by first | rfl | trivial⟩
    · rw [if_neg hz, if_neg hz]
      exact ⟨h5, by first | rfl | trivial⟩
theorem MR.term_still {m : MR} (h : m.term.1.fail = 0) : m.fail = 0 := by
  unfold MR.term at h
  dsimp only at h
  split at h
  · dsimp only at h
    split at h
    · exact MR.take_still (MR.take_still (MR.take_still (MR.give_still h)))
    · exact MR.take_still (MR.take_still (MR.take_still h))
  · exact MR.take_still h
theorem Sim.normB {s : RS} {m : MR} (h : Sim s m) (n : Nat) : Sim (s.normB n).1 (m.normB n).1 ∧ ((m.normB n).1.fail = 0 → (s.normB n).2 = (m.normB n).2) := by
  obtain ⟨h1, h2⟩ := h.take 5
  obtain ⟨h3, h4⟩ := h1.idx
  obtain ⟨h5, h6⟩ := h3.term
  obtain ⟨h7, h8⟩ := h5.slide n
  refine ⟨h7, fun e => ?_⟩
  have e1 : (m.head.1.term.1.slide n).1.fail = 0 := e
  have e2 := MR.term_still (MR.slide_still e1)
  have h9 := h4 e2
  unfold RS.normB MR.normB
  dsimp only
  rw [h8, h6, h9, h2]
  rfl
theorem Sim.kindB {s : RS} {m : MR} (h : Sim s m) (n d : Nat) (h1 : 1 ≤ d) (h2 : d ≤ 48) : Sim (s.kindB n d).1 (m.kindB n d).1 ∧ ((m.kindB n d).1.fail = 0 → (s.kindB n d).2 = (m.kindB n d).2) := by
  obtain ⟨h3, h4⟩ := h.take 2
  unfold RS.kindB MR.kindB
  rw [h4]
  dsimp only
  have hlt : (m.take 2).2 < 2 ^ 2 := take_lt m 2
  by_cases k1 : (m.take 2).2 = 1
  · rw [if_pos k1, if_pos k1]
    have h5 := (h3.take d).1
    rw [← (signed_take h1 h2).1] at h5
    exact ⟨h5, fun e => by dsimp only; rw [h3.intV h1 h2 e]⟩
  · rw [if_neg k1, if_neg k1]
    by_cases k3 : (m.take 2).2 = 3
    · rw [if_neg (by omega), if_pos k3, if_pos k3]
      obtain ⟨h5, h6⟩ := h3.ints h1 h2 n
      exact ⟨h5, fun e => by dsimp only; rw [h6 e]⟩
    · by_cases k2 : (m.take 2).2 = 2
      · rw [if_pos k2, if_neg k3, if_pos k2]
        exact h3.normB n
      · rw [if_neg k2, if_neg k3, if_neg k3, if_neg k2]
        refine ⟨h3, fun _ => ?_⟩
        have k0 : (m.take 2).2 = 0 := by omega
        rw [k0]
        rfl
/-- **The program's Take, and the document's.** -/
theorem Sim.block {s : RS} {m : MR} (h : Sim s m) (n d : Int) : Sim (s.block n d).1 (m.block n d).1 ∧ (s.block n d).2 = (m.block n d).2 := by
  unfold RS.block MR.block
  cases hs : (sizeN n && depthB d) with
  | false => exact ⟨h.give 1, rfl⟩
  | true =>
    simp only [Bool.not_true, Bool.false_eq_true, if_false]
    rw [Bool.and_eq_true] at hs
    obtain ⟨dd, rfl, hd1, hd2⟩ := depthB_of hs.2
    rw [show ((dd : Int)).toNat = dd from rfl]
    obtain ⟨h1, h2⟩ := h.kindB n.toNat dd (by omega) (by omega)
    generalize s.kindB n.toNat dd = p at *
    generalize m.kindB n.toNat dd = q at *
    obtain ⟨p1, p2⟩ := p
    obtain ⟨q1, q2⟩ := q
    dsimp only at *
    by_cases hf : q1.fail = 0
    · have e := h2 hf
      subst e
      have hg := h1.give (codeB p2 n dd)
      have hge : (q1.give (codeB p2 n dd)).fail = codeB p2 n dd := by unfold MR.give; rw [if_pos hf]
      rw [if_neg (show ¬ (q1.fail ≠ 0) from fun x => x hf)]
      by_cases hc : codeB p2 n dd = 0
      · rw [if_neg (show ¬ ((p1.give (codeB p2 n dd)).err ≠ 0) from fun x => x (by rw [hg.err, hge, hc])), if_neg (show ¬ (codeB p2 n dd ≠ 0) from fun x => x hc)]
        refine ⟨?_, rfl⟩
        rw [hc] at hg ⊢
        have : q1.give 0 = q1 := by
          obtain ⟨b, a, f⟩ := q1
          unfold MR.give
          dsimp only at hf ⊢
          rw [if_pos hf, hf]
        rw [this] at hg
        exact hg
      · rw [if_pos (show (p1.give (codeB p2 n dd)).err ≠ 0 by rw [hg.err, hge]; exact hc), if_pos (show codeB p2 n dd ≠ 0 from hc)]
        exact ⟨hg, rfl⟩
    · have hp : p1.err ≠ 0 := by rw [h1.err]; exact hf
      rw [RS.give_spent hp, if_pos hp, if_pos (show q1.fail ≠ 0 from hf)]
      exact ⟨h1, rfl⟩
end Go.Proofs.YtefbakhhlonafaaGreat
end

section
namespace Go.Proofs.YtefbakhhlonafaaGreat
open Go.RowKit Go.Proofs Go.Proofs.PipeM Go.Proofs.PipeA Go.Proofs.BlkM Go.Proofs.BlkB
set_option maxRecDepth 100000

/-- Numbers that came, in memory that is new. -/
def EachIs (w : World) (b : Nat) (ao : Option Addr) (r : RS × List Int) (e : Ending) (w' : World) : Prop :=
  ∃ la lc, e = .returned (.slice la r.2.length lc) ∧ RdA w' b ao r.1 ∧ IntsAt w' la r.2 ∧ FreshOf w la ∧ r.2.length ≤ lc ∧ Keeps [b] w w'

set_option maxHeartbeats 3200000 in
theorem cTakeEach (b : Nat) (ao : Option Addr) (s : RS) (n d : Nat) (w : World) (hn : n ≤ 1024) (h : RdA w b ao s) (ha : ∀ g off, ao = some ⟨g, off, none⟩ → g < w.heap.size) :
    Calls Tryz.prog 73 #[.pointer (some ⟨b, 0, none⟩), .int .i64 n, .int .i64 d] w (EachIs w b ao (s.intsS d n)) := by
  obtain ⟨cs, hcs, hmk⟩ := makeInts n (by omega)
  have hb := h.lt
  have hbx := box_below w (.cells cs 3)
  have hn1 := World.alloc_heap_new w (.cells cs 3)
  have hlt1 := (Array.getElem?_eq_some_iff.1 hn1).1
  have hf : ∀ j, j < n → ((s.intsS d n).2).getD j 0 = (s.adv d j).signedV d := fun j hj => by
    unfold RS.intsS
    rw [List.getD, List.getElem?_map, List.getElem?_range hj]; rfl
  have HK0 : Hid (Gx.KeysAt (w.alloc (.cells cs 3)) w.heap.size n (Gx.fillF (fun j => (s.intsS d n).2.getD j 0) (List.replicate n 0) 0)) := by
    intro j hj
    refine ⟨?_, frozen_of_heap hn1 _⟩
    rw [cell_of_heap hn1, hcs j hj]
    unfold Gx.fillF
    rw [if_neg (Nat.not_lt_zero _), LagM.getD_lt (by simpa using hj), List.getElem_replicate]
  have HR0 : Hid (RdA (w.alloc (.cells cs 3)) b ao (s.adv d 0)) := h.keeps (keeps_of_below hbx []) (by simp) (by simp)
  have HSG := fun W s' (h' : RdA W b ao s') => Lib.hid (aSigned b ao s' (d : Int) W h')
  have HA := Lib.hid ha
  have HF := Lib.hid hf
  have hlen := intsS_length d n s
  have HX : Hid (∀ wr, Below w.heap.size w (w.alloc (.cells cs 3)) → Keeps [b, w.heap.size] (w.alloc (.cells cs 3)) wr → Keeps [b] w wr) := fun wr h1 h2 => (keeps_of_below h1 [b]).trans_new h2 (by intro x hx; simp at hx; rcases hx with rfl | rfl; exact .inl (by simp); exact .inr (Nat.le_refl _))
  have HBX := Lib.hid hbx
  obtain ⟨w1, hw1⟩ : ∃ w1, w1 = w.alloc (.cells cs 3) := ⟨_, rfl⟩
  rw [← hw1] at HK0 HR0 HX HBX hlt1
  have HW1 := Lib.hid hw1
  have HE : Hid (s.intsS d n = (s.adv d n, (s.intsS d n).2)) := rfl
  generalize hL : (s.intsS d n).2 = L at *
  have HLN := Lib.hid hlen
  rw [HE.out]
  clear hcs hn1 h ha hf hlen hbx hw1 HE hL
  go_enter Tryz.func73, Tryz.ntmps73
  go_wp2
  rw [← HW1.out]
  go_loopg [8, 13] n (fun gk q i wr => ∃ c : Nat, c ≤ n ∧ gk + c = n ∧ i = .int .i64 c ∧ Hid (RdA wr b ao (s.adv d c)) ∧ Hid (Gx.KeysAt wr w.heap.size n (Gx.fillF (fun j => L.getD j 0) (List.replicate n 0) c)) ∧ Hid (Keeps [b, w.heap.size] w1 wr))
  case atStart => exact ⟨0, Nat.zero_le _, by omega, rfl, HR0, HK0, Keeps.refl _ _⟩
  case round =>
    obtain ⟨c, hc, hgk, rfl, HRC, HKC, HWC⟩ := hrel
    have HGK := Lib.hid hgk
    clear hgk HK0 HR0
    have hHwr : w.heap.size < wr.heap.size := Nat.lt_of_lt_of_le hlt1 HWC.out.size
    by_cases hlt : c < n
    · have HCA := HSG wr (s.adv d c) HRC.out
      obtain ⟨z, hz⟩ : ∃ z, z = (s.adv d c).signedV d := ⟨_, rfl⟩
      have HZ : Hid (L.getD c 0 = z) := (HF.out c hlt).trans hz.symm
      rw [← hz] at HCA
      clear hz
      go_wp2_with fail
      refine HCA.out.mono ?_
      rintro e w2 ⟨rfl, hr2, hk2⟩
      have HR2 : Hid (RdA w2 b ao (s.adv d (c + 1))) := hr2
      have hbn : b ≠ w.heap.size := by omega
      have HK2 : Hid (Gx.KeysAt w2 w.heap.size n (Gx.fillF (fun j => L.getD j 0) (List.replicate n 0) c)) := fun j hj => ⟨(hk2.cell (p := ⟨w.heap.size, j, none⟩) hHwr (by simp; omega)).trans (HKC.out j hj).1, (hk2.frozen (p := ⟨w.heap.size, j, none⟩) hHwr (by simp; omega)).trans (HKC.out j hj).2⟩
      have HW2 : Hid (Keeps [b, w.heap.size] w1 w2) := HWC.out.trans (hk2.mono (by simp))
      have hsz2 : w.heap.size < w2.heap.size := Nat.lt_of_lt_of_le hHwr hk2.size
      obtain ⟨c0, f0⟩ := Gx.fill_at HK2.out hlt 0 (by rw [if_neg (Nat.lt_irrefl _), LagM.getD_lt (by simpa using hlt), List.getElem_replicate])
      have HK6 : Hid (Gx.KeysAt (w2.setCell ⟨w.heap.size, c, none⟩ (.int .i64 z)) w.heap.size n (Gx.fillF (fun j => L.getD j 0) (List.replicate n 0) (c + 1))) := by have := Gx.fill_set HK2.out hlt; rw [HZ.out] at this; exact this
      have HW6 : Hid (Keeps [b, w.heap.size] w1 (w2.setCell ⟨w.heap.size, c, none⟩ (.int .i64 z))) := HW2.out.trans ((keeps_setCell_b _ _ _ _).mono (by simp))
      have HR6 : Hid (RdA (w2.setCell ⟨w.heap.size, c, none⟩ (.int .i64 z)) b ao (s.adv d (c + 1))) := HR2.out.keeps (keeps_setCell_b _ _ _ _) (by simp; omega) (fun g off e => by have := HA.out g off e; simp; omega)
      clear hr2 hk2
      go_wp2
      go_roundg (gk - 1)
      case rel => exact ⟨c + 1, by omega, by have := HGK.out; omega, by go_num, HR6, HK6, HW6⟩
      case measure => have := HGK.out; omega
    · obtain rfl : c = n := by omega
      have HI : Hid (IntsAt wr (some ⟨w.heap.size, 0, none⟩) L) := by
        have := Gx.fill_end (l := List.replicate c 0) (m := L) (by rw [List.length_replicate]; exact HKC.out) (by rw [List.length_replicate]; exact Nat.le_refl _) (by rw [List.length_replicate]; exact HLN.out) (fun j hj => by rw [LagM.getD_lt hj]) hHwr
        exact this
      have HKW := Lib.hid (HX.out wr HBX.out HWC.out)
      go_wp2
      go_ret
      exact ⟨some ⟨w.heap.size, 0, none⟩, c, by rw [HLN.out]; rfl, HRC.out, HI.out, fun g off e => by cases e; exact Nat.le_refl _, by rw [HLN.out]; exact Nat.le_refl _, HKW.out⟩

theorem takeV_lt2 (s : RS) (n : Nat) : s.takeV n < 2 ^ n := by
  unfold RS.takeV
  split
  · have := num_lt (s.bits.take (n : Int).toNat)
    refine Nat.lt_of_lt_of_le this (Nat.pow_le_pow_right (by decide) ?_)
    rw [List.length_take]
    omega
  · exact Nat.two_pow_pos n

set_option maxHeartbeats 1600000 in
theorem cTakeIndex (b : Nat) (ao : Option Addr) (s : RS) (w : World) (h : RdA w b ao s) (ha : ∀ g off, ao = some ⟨g, off, none⟩ → g < w.heap.size) :
    Calls Tryz.prog 88 #[.pointer (some ⟨b, 0, none⟩)] w (EachIs w b ao s.idx) := by
  have HT := Lib.hid (aTake b ao s 5 w h)
  have hlt : s.takeV 5 < 2 ^ 5 := takeV_lt2 s 5
  have HE : Hid (s.idx = if 16 < s.takeV 5 then ((s.takeS 5).give 2, []) else (s.takeS 5).intsS 7 (s.takeV 5)) := rfl
  have HEA : Hid (∀ W (n : Nat), n ≤ 1024 → RdA W b ao (s.takeS 5) → (∀ g off, ao = some ⟨g, off, none⟩ → g < W.heap.size) → Calls Tryz.prog 73 #[.pointer (some ⟨b, 0, none⟩), .int .i64 (n : Int), .int .i64 7] W (EachIs W b ao ((s.takeS 5).intsS 7 n))) := fun W n hn hr hg => cTakeEach b ao (s.takeS 5) n 7 W hn hr hg
  have HGV := fun W (hr : RdA W b ao (s.takeS 5)) => Lib.hid (aGive b ao (s.takeS 5) 2 W hr)
  have HA := Lib.hid ha
  generalize s.takeV 5 = v at *
  generalize s.idx = R at *
  clear h ha
  have hv : IntKind.i64.wrap (v : Int) = (v : Int) := IntWalk.i64_in _ (by omega)
  by_cases h16 : 16 < v
  · have hR : R = ((s.takeS 5).give 2, []) := by rw [HE.out, if_pos h16]
    subst hR
    have t1 : decide (16 < (v : Int)) = true := decide_eq_true (by omega)
    clear HE hlt h16
    go_enter Tryz.func88, Tryz.ntmps88
    go_wp2_with fail
    refine HT.out.mono ?_
    rintro e w1 ⟨rfl, hr1, hk1⟩
    have HG1 := HGV w1 hr1
    have HK1 := Lib.hid hk1
    clear hr1 hk1
    go_wp2_with fail
    refine HG1.out.mono ?_
    rintro e w2 ⟨rfl, hr2, hk2⟩
    have HR2 := Lib.hid hr2
    have HK2 := Lib.hid (HK1.out.trans hk2)
    clear hr2 hk2
    go_wp2
    refine bodyPost_ret (v := .slice none 0 0) (by simp [results, Tryz.results88, go_sem]) rfl ?_
    exact ⟨none, 0, rfl, HR2.out, (fun j hj => by simp at hj), fresh_none w, Nat.le_refl _, HK2.out⟩
  · have hR : R = (s.takeS 5).intsS 7 v := by rw [HE.out, if_neg h16]
    subst hR
    have t1 : decide (16 < (v : Int)) = false := decide_eq_false (by omega)
    have HL := Lib.hid (intsS_length 7 v (s.takeS 5))
    clear HE hlt
    go_enter Tryz.func88, Tryz.ntmps88
    go_wp2_with fail
    refine HT.out.mono ?_
    rintro e w1 ⟨rfl, hr1, hk1⟩
    have HE1 := Lib.hid (HEA.out w1 v (by omega) hr1 (fun g off e => Nat.lt_of_lt_of_le (HA.out g off e) hk1.size))
    have HK1 := Lib.hid hk1
    clear hr1 hk1 h16
    go_wp2_with fail
    refine HE1.out.mono ?_
    rintro e w2 ⟨la, lc, he, hr2, hi2, hf2, hc2, hk2⟩
    rw [HL.out] at he
    subst he
    have HR2 := Lib.hid hr2
    have HI2 := Lib.hid hi2
    have HF2 : Hid (FreshOf w la) := fun g off e => Nat.le_trans HK1.out.size (hf2 g off e)
    have HC2 := Lib.hid hc2
    have HK2 := Lib.hid (HK1.out.trans hk2)
    clear hr2 hi2 hf2 hc2 hk2
    go_wp2
    refine bodyPost_ret (v := .slice la v lc) (by simp [results, Tryz.results88, go_sem]) rfl ?_
    exact ⟨la, lc, by rw [HL.out], HR2.out, HI2.out, HF2.out, HC2.out, HK2.out⟩
end Go.Proofs.YtefbakhhlonafaaGreat
end
