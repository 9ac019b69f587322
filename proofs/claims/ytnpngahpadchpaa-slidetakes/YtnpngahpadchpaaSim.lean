import Derived.Test.YtnpngahpadchpaaRef2b
namespace Go.Proofs.Ytnpngahpadchpaa
open Go.RowKit Go.Proofs Go.Proofs.PipeM Go.Proofs.PipeA

/-- The program's reader and the document's. -/
structure Sim (s : RS) (m : MR) : Prop where
  err : s.err = m.fail
  bits : m.fail = 0 → s.bits = m.bits
  spent : m.fail ≠ 0 → s.bits = []

theorem Sim.give {s : RS} {m : MR} (h : Sim s m) (e : Int) : Sim (s.give e) (m.give e) := by
  unfold RS.give MR.give
  by_cases hf : m.fail = 0
  · have hs : s.err = 0 := h.err.trans hf
    rw [if_pos hf]
    by_cases he : e = 0
    · rw [if_pos (Or.inl he), he]
      exact ⟨hs, fun _ => h.bits hf, fun hc => absurd rfl hc⟩
    · rw [if_neg (by rintro (h1 | h1); exact he h1; exact h1 hs)]
      exact ⟨rfl, fun hc => absurd hc he, fun _ => rfl⟩
  · rw [if_neg hf, if_pos (Or.inr (by rw [h.err]; exact hf))]
    exact h

theorem RS.give_spent {s : RS} (h : s.err ≠ 0) (e : Int) : s.give e = s := by unfold RS.give; rw [if_pos (Or.inr h)]
theorem MR.give_spent {m : MR} (h : m.fail ≠ 0) (e : Int) : m.give e = m := by unfold MR.give; rw [if_neg h]

theorem Sim.take {s : RS} {m : MR} (h : Sim s m) (n : Int) : Sim (s.takeS n) (m.take n).1 ∧ s.takeV n = (m.take n).2 := by
  unfold RS.takeS RS.takeV MR.take
  by_cases hn : n < 0 ∨ 48 < n
  · rw [if_pos hn, if_pos hn, if_neg (by omega)]
    exact ⟨h.give 1, rfl⟩
  · rw [if_neg hn, if_neg hn]
    by_cases hf : m.fail = 0
    · have hb := h.bits hf
      rw [hb]
      by_cases hl : (m.bits.length : Int) < n
      · rw [if_pos hl, if_pos hl, if_neg (by omega)]
        exact ⟨h.give 3, rfl⟩
      · rw [if_neg hl, if_neg hl, if_neg (by simp [hf]), if_pos (by omega)]
        exact ⟨⟨h.err, fun _ => rfl, fun hc => absurd hf hc⟩, rfl⟩
    · have hb := h.spent hf
      have hs : s.err ≠ 0 := by rw [h.err]; exact hf
      rw [hb]
      have e1 : (if (m.bits.length : Int) < n then (m.give 3, 0) else if m.fail ≠ 0 then (m, 0) else (⟨m.bits.drop n.toNat, m.all, m.fail⟩, num (m.bits.take n.toNat))) = (m, 0) := by
        by_cases hl : (m.bits.length : Int) < n
        · rw [if_pos hl, MR.give_spent hf]
        · rw [if_neg hl, if_pos hf]
      rw [e1]
      refine ⟨?_, ?_⟩
      · by_cases hl : ((([] : List Bool).length : Nat) : Int) < n
        · rw [if_pos hl, RS.give_spent hs]; exact h
        · rw [if_neg hl]
          exact ⟨h.err, fun hc => absurd hc hf, fun _ => by simp⟩
      · split
        · simp [num]
        · rfl

theorem zgo_rgo (most all : Int) (l : List Bool) (c : Nat) : Sim (zgo most 0 l c).2 (rgo most all l c).1 ∧ (zgo most 0 l c).1 = (rgo most all l c).2 := by
  induction l generalizing c with
  | nil => exact ⟨⟨rfl, fun hc => by simp [rgo] at hc, fun _ => rfl⟩, rfl⟩
  | cons b r ih =>
    cases b
    · rw [zgo, rgo]
      by_cases h : most ≤ (c : Int)
      · rw [if_pos h, if_pos h]
        exact ⟨⟨rfl, fun hc => by simp at hc, fun _ => rfl⟩, rfl⟩
      · rw [if_neg h, if_neg h]; exact ih (c + 1)
    · exact ⟨⟨rfl, fun _ => rfl, fun hc => absurd rfl hc⟩, rfl⟩

theorem Sim.zeros {s : RS} {m : MR} (h : Sim s m) (most : Int) : Sim (zgo most s.err s.bits 0).2 (m.run most).1 ∧ (zgo most s.err s.bits 0).1 = (m.run most).2 := by
  unfold MR.run
  by_cases hf : m.fail = 0
  · rw [if_neg (by simp [hf]), h.err, hf, h.bits hf]
    exact zgo_rgo most m.all m.bits 0
  · have hs : s.err ≠ 0 := by rw [h.err]; exact hf
    rw [if_pos hf, h.spent hf, zgo]
    refine ⟨?_, rfl⟩
    rw [RS.give_spent (by simpa using hs)]
    exact ⟨h.err, fun hc => absurd hc hf, fun _ => rfl⟩

/-- Rice's Take. -/
def RS.zeros (s : RS) (most : Int) : Nat × RS := zgo most s.err s.bits 0
def RS.riceA (t : RS) (v q k : Nat) : RS × Int := if t.err ≠ 0 then (t, 0) else (t, unfoldN (q * 2 ^ k + v))
def RS.riceB (t : RS) (v k : Nat) : RS × Int :=
  if (if v / 2 ^ k < 24 then t.give 2 else t).err ≠ 0 then ((if v / 2 ^ k < 24 then t.give 2 else t), 0) else ((if v / 2 ^ k < 24 then t.give 2 else t), unfoldN v)
def RS.rice (s : RS) (k : Int) : RS × Int :=
  if k < 0 ∨ 24 < k then (s.give 1, 0)
  else if (s.zeros 24).1 < 24 then RS.riceA ((s.zeros 24).2.takeS k) ((s.zeros 24).2.takeV k) (s.zeros 24).1 k.toNat
  else RS.riceB ((s.zeros 24).2.takeS 34) ((s.zeros 24).2.takeV 34) k.toNat

theorem Sim.rice {s : RS} {m : MR} (h : Sim s m) (k : Int) : Sim (s.rice k).1 (m.rice k).1 ∧ (s.rice k).2 = (m.rice k).2 := by
  unfold RS.rice MR.rice
  by_cases hk : k < 0 ∨ 24 < k
  · rw [if_pos hk, if_pos hk]; exact ⟨h.give 1, rfl⟩
  · rw [if_neg hk, if_neg hk]
    obtain ⟨hz1, hz2⟩ := h.zeros 24
    have e1 : (s.zeros 24).1 = (m.run 24).2 := hz2
    have e2 : Sim (s.zeros 24).2 (m.run 24).1 := hz1
    rw [e1]
    by_cases hq : (m.run 24).2 < 24
    · rw [if_pos hq, if_pos hq]
      obtain ⟨ht1, ht2⟩ := e2.take k
      unfold RS.riceA MR.riceA
      rw [ht2, ht1.err]
      split
      · exact ⟨ht1, rfl⟩
      · exact ⟨ht1, rfl⟩
    · rw [if_neg hq, if_neg hq]
      obtain ⟨ht1, ht2⟩ := e2.take 34
      unfold RS.riceB MR.riceB
      rw [ht2]
      by_cases hd : ((m.run 24).1.take 34).2 / 2 ^ k.toNat < 24
      · have hg := ht1.give 2
        simp only [if_pos hd]
        rw [hg.err]
        split
        · exact ⟨hg, rfl⟩
        · exact ⟨hg, rfl⟩
      · simp only [if_neg hd]
        rw [ht1.err]
        split
        · exact ⟨ht1, rfl⟩
        · exact ⟨ht1, rfl⟩
end Go.Proofs.Ytnpngahpadchpaa
