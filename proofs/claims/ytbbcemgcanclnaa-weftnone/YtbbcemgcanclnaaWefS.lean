import Derived.Test.YtbbcemgcanclnaaWefT1
import Derived.Test.YtbbcemgcanclnaaReader5
namespace Go.Proofs.Ytbbcemgcanclnaa
open Go.RowKit Go.Proofs Go.Proofs.PipeM Go.Proofs.PipeA Go.Proofs.WefM
set_option maxRecDepth 100000

/-- The program's reader and the document's. -/
structure Sim (s : RS) (m : MR) : Prop where
  err : s.err = m.fail
  bits : m.fail = 0 → s.bits = m.bits
  spent : m.fail ≠ 0 → s.bits = []

theorem Sim.give {s : RS} {m : MR} (h : Sim s m) (e : Int) : Sim (s.give e) (m.give e) := by
  unfold RS.give MR.give
  by_cases hf : m.fail = 0
  · have hs : s.err = 0 := h.err.trans hf
    rw [if_pos hf]
    by_cases he : e = 0
    · rw [if_pos (Or.inl he), he]
      exact ⟨hs, fun _ => h.bits hf, fun hc => absurd rfl hc⟩
    · rw [if_neg (by rintro (h1 | h1); exact he h1; exact h1 hs)]
      exact ⟨rfl, fun hc => absurd hc he, fun _ => rfl⟩
  · rw [if_neg hf, if_pos (Or.inr (by rw [h.err]; exact hf))]
    exact h

theorem RS.give_spent {s : RS} (h : s.err ≠ 0) (e : Int) : s.give e = s := by unfold RS.give; rw [if_pos (Or.inr h)]
theorem MR.give_spent {m : MR} (h : m.fail ≠ 0) (e : Int) : m.give e = m := by unfold MR.give; rw [if_neg h]

theorem Sim.take {s : RS} {m : MR} (h : Sim s m) (n : Int) : Sim (s.takeS n) (m.take n).1 ∧ s.takeV n = (m.take n).2 := by
  unfold RS.takeS RS.takeV MR.take
  by_cases hn : n < 0 ∨ 48 < n
  · rw [if_pos hn, if_pos hn, if_neg (by omega)]
    exact ⟨h.give 1, rfl⟩
  · rw [if_neg hn, if_neg hn]
    by_cases hf : m.fail = 0
    · have hb := h.bits hf
      rw [hb]
      by_cases hl : (m.bits.length : Int) < n
      · rw [if_pos hl, if_pos hl, if_neg (by omega)]
        exact ⟨h.give 3, rfl⟩
      · rw [if_neg hl, if_neg hl, if_neg (by simp [hf]), if_pos (by omega)]
        exact ⟨⟨h.err, fun _ => rfl, fun hc => absurd hf hc⟩, rfl⟩
    · have hb := h.spent hf
      have hs : s.err ≠ 0 := by rw [h.err]; exact hf
      rw [hb]
      have e1 : (if (m.bits.length : Int) < n then (m.give 3, 0) else if m.fail ≠ 0 then (m, 0) else (⟨m.bits.drop n.toNat, m.all, m.fail⟩, num (m.bits.take n.toNat))) = (m, 0) := by
        by_cases hl : (m.bits.length : Int) < n
        · rw [if_pos hl, MR.give_spent hf]
        · rw [if_neg hl, if_pos hf]
      rw [e1]
      refine ⟨?_, ?_⟩
      · by_cases hl : ((([] : List Bool).length : Nat) : Int) < n
        · rw [if_pos hl, RS.give_spent hs]; exact h
        · rw [if_neg hl]
          exact ⟨h.err, fun hc => absurd hc hf, fun _ => by simp⟩
      · split
        · simp [num]
        · rfl

theorem MR.take_none {m : MR} {n : Int} (h : (m.take n).1.fail ≠ 0) : (m.take n).2 = 0 := by
  unfold MR.take at h ⊢
  split
  · rfl
  · rename_i h1
    rw [if_neg h1] at h
    split
    · rfl
    · rename_i h2
      rw [if_neg h2] at h
      split
      · rfl
      · rename_i h3
        rw [if_neg h3] at h
        exact absurd h h3
theorem Sim.signed5 {s : RS} {m : MR} (h : Sim s m) : Sim (s.signedS 5) (m.take 5).1 ∧ s.signedV 5 = m.intV 5 := by
  obtain ⟨h1, h2⟩ := h.take 5
  unfold RS.signedS RS.signedV
  rw [if_neg (by decide), if_neg (by decide)]
  refine ⟨h1, ?_⟩
  rw [h2]
  unfold sgn MR.intV
  show (if 2 ^ (5 - 1) ≤ (m.take (5 : Int)).2 then (((m.take (5 : Int)).2 : Nat) : Int) - 2 ^ 5 else (((m.take (5 : Int)).2 : Nat) : Int)) = if (m.take ((5 : Nat) : Int)).1.fail = 0 ∧ 2 ^ (5 - 1) ≤ (m.take ((5 : Nat) : Int)).2 then (((m.take ((5 : Nat) : Int)).2 : Nat) : Int) - ((2 ^ 5 : Nat) : Int) else (((m.take ((5 : Nat) : Int)).2 : Nat) : Int)
  rw [show ((5 : Nat) : Int) = 5 from rfl]
  by_cases hf : (m.take 5).1.fail = 0
  · by_cases hv : 2 ^ (5 - 1) ≤ (m.take 5).2
    · rw [if_pos hv, if_pos ⟨hf, hv⟩]; rfl
    · rw [if_neg hv, if_neg (fun h => hv h.2)]
  · have h0 := MR.take_none hf
    rw [h0, if_neg (by decide), if_neg (fun h => hf h.1)]
/-- The reader behind so many gains; the weave that comes. -/
def RS.gains (s : RS) : Nat → RS
  | 0 => s
  | n + 1 => (s.gains n).signedS 5
def weaveEndS (s5 : RS) (x : Wv) (ch : Int) : RS × Wv :=
  if s5.err = 0 then (if goodW x ch = false then (s5.give 2, ⟨false, 0, 0, 0, 0⟩) else (s5, x)) else (s5, ⟨false, 0, 0, 0, 0⟩)
def RS.weave (s : RS) (ch : Int) : RS × Wv :=
  if s.takeV 1 = 0 then (s.takeS 1, ⟨false, 0, 0, 0, 0⟩)
  else weaveEndS (((s.takeS 1).takeS 3).gains 3) ⟨true, (s.takeS 1).takeV 3, (((s.takeS 1).takeS 3).gains 0).signedV 5, (((s.takeS 1).takeS 3).gains 1).signedV 5, (((s.takeS 1).takeS 3).gains 2).signedV 5⟩ ch
theorem Sim.gains {s : RS} {m : MR} (h : Sim s m) (n : Nat) : Sim (s.gains n) (m.gains n) := by
  induction n with
  | zero => exact h
  | succ n ih => exact ih.signed5.1
theorem Sim.ends {s : RS} {m : MR} (h : Sim s m) (x : Wv) (ch : Int) : Sim (weaveEndS s x ch).1 (weaveEnd m x ch).1 ∧ (weaveEndS s x ch).2 = (weaveEnd m x ch).2 := by
  unfold weaveEndS weaveEnd
  rw [h.err]
  by_cases hf : m.fail = 0
  · rw [if_pos hf, if_pos hf]
    by_cases hg : goodW x ch = false
    · rw [if_pos hg, if_pos hg]; exact ⟨h.give 2, rfl⟩
    · rw [if_neg hg, if_neg hg]; exact ⟨h, rfl⟩
  · rw [if_neg hf, if_neg hf]; exact ⟨h, rfl⟩
theorem Sim.weave {s : RS} {m : MR} (h : Sim s m) (ch : Int) : Sim (s.weave ch).1 (m.weave ch).1 ∧ (s.weave ch).2 = (m.weave ch).2 := by
  obtain ⟨h1, e1⟩ := h.take 1
  obtain ⟨h2, e2⟩ := h1.take 3
  unfold RS.weave MR.weave
  rw [e1]
  by_cases hv : (m.take 1).2 = 0
  · rw [if_pos hv, if_pos hv]; exact ⟨h1, rfl⟩
  · rw [if_neg hv, if_neg hv, e2, (h2.gains 0).signed5.2, (h2.gains 1).signed5.2, (h2.gains 2).signed5.2]
    exact (h2.gains 3).ends _ ch
theorem Sim.start (l : List Bool) (all : Int) : Sim ⟨l, 0⟩ ⟨l, all, 0⟩ := ⟨rfl, fun _ => rfl, fun h => absurd rfl h⟩
end Go.Proofs.Ytbbcemgcanclnaa
