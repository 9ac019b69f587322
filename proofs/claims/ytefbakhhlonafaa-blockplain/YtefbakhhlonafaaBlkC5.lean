import Derived.Test.YtefbakhhlonafaaBlkC3
import Derived.Test.YtefbakhhlonafaaSlideT4

namespace Go.Proofs.Ytefbakhhlonafaa
open Go.RowKit Go.Proofs Go.Proofs.PipeM Go.Proofs.PipeA Go.Proofs.BlkM Go.Proofs.BlkB
open Go.Proofs.LatM (goodL)
open Go.Proofs.LagM (goodT)
set_option maxRecDepth 100000

theorem slideLen_pos {l ks : List Int} {P : Int} : decide (0 < slideLen l P ks) = slideOk l P ks := by
  cases h : slideOk l P ks with
  | true =>
    have := slide_ge h
    exact decide_eq_true (by omega)
  | false =>
    have : slideLen l P ks = 0 := by unfold slideLen slideBits; rw [h]; rfl
    exact decide_eq_false (by omega)
theorem bne_dec (x : Int) : (x != 0) = decide (x ≠ 0) := by
  by_cases h : x = 0
  · subst h; rfl
  · rw [decide_eq_true h]; exact bne_iff_ne.2 h
theorem moreN_eq {v s a g p : Int} {n : Nat} (hv : In64 v) (hs : In64 s) (ha : In64 a) (hg : In64 g) (hp : In64 p) : moreN v s a g p n = true ↔ (v ≠ 0 ∨ s ≠ 0 ∨ a ≠ 0 ∨ g ≠ 0 ∨ p ≠ 0 ∨ 0 < n) := by
  unfold moreN
  rw [bne_dec, Bool.or_eq_true, decide_eq_true_eq, decide_eq_true_eq]
  have := or5 hv hs ha hg hp
  constructor
  · rintro (h | h)
    · by_cases h1 : v = 0
      · by_cases h2 : s = 0
        · by_cases h3 : a = 0
          · by_cases h4 : g = 0
            · by_cases h5 : p = 0
              · exact absurd (this.2 ⟨h1, h2, h3, h4, h5⟩) h
              · exact .inr (.inr (.inr (.inr (.inl h5))))
            · exact .inr (.inr (.inr (.inl h4)))
          · exact .inr (.inr (.inl h3))
        · exact .inr (.inl h2)
      · exact .inl h1
    · exact .inr (.inr (.inr (.inr (.inr h))))
  · rintro h
    by_cases h0 : orI (orI (orI (orI v s) a) g) p = 0
    · obtain ⟨h1, h2, h3, h4, h5⟩ := this.1 h0
      right
      omega
    · exact .inl h0
theorem form_eq {b : Blk} {n m : Nat} (hw : Wf9 b) (hk : b.kind = 0 ∨ b.kind = 1 ∨ b.kind = 2 ∨ b.kind = 3) : formB b n m = if moreB b || !formedB b n m then 2 else 0 := by
  obtain ⟨kind, value, shift, index, lag, gain, part, rice, data⟩ := b
  have hv := hw.v; have hs := hw.s; have ha := hw.l; have hg := hw.g; have hp := hw.p
  dsimp only at hv hs ha hg hp hk
  clear hw
  have hkn : wrongKind ⟨kind, value, shift, index, lag, gain, part, rice, data⟩ = false := by
    unfold wrongKind
    dsimp only
    rw [decide_eq_false (by omega), decide_eq_false (by omega)]; rfl
  unfold formB
  rw [hkn, if_neg (by simp)]
  by_cases h2 : kind = 2
  · subst h2
    have e1 : wrongMore ⟨2, value, shift, index, lag, gain, part, rice, data⟩ = false := by simp [wrongMore]
    have e2 : wrongData ⟨2, value, shift, index, lag, gain, part, rice, data⟩ n = (decide (value ≠ 0) || decide ((data.length : Int) ≠ n)) := by simp [wrongData]
    have e3 : wrongNormal ⟨2, value, shift, index, lag, gain, part, rice, data⟩ n m = (decide (shift < 0) || decide ((m : Int) ≤ shift) || !goodL index || !goodT lag gain || !partsOk n part rice || !listOk data) := by simp [wrongNormal]
    have e4 : moreB ⟨2, value, shift, index, lag, gain, part, rice, data⟩ = decide (value ≠ 0) := by unfold moreB; rw [if_neg (by show ¬ (2 : Int) = 1; decide), if_pos rfl]
    have e5 : formedB ⟨2, value, shift, index, lag, gain, part, rice, data⟩ n m = (shiftB m shift && goodL index && goodT lag gain && decide (data.length = n) && slideOk data part rice) := by unfold formedB; rw [if_pos rfl, ← slideLen_pos]
    have e6 : shiftB m shift = !(decide (shift < 0) || decide ((m : Int) ≤ shift)) := by
      unfold shiftB
      by_cases a : shift < 0
      · rw [decide_eq_true a, decide_eq_false (by omega)]; rfl
      · by_cases c : (m : Int) ≤ shift
        · rw [decide_eq_true c, decide_eq_false (by omega), Bool.or_true]; rfl
        · rw [decide_eq_false a, decide_eq_false c, decide_eq_true (by omega)]; rfl
    rw [e1, e2, e3, e4, e5, e6, if_neg (by simp)]
    by_cases hv0 : value = 0
    · by_cases hl : data.length = n
      · rw [decide_eq_false (by simp; exact hv0), decide_eq_false (by simp; omega), decide_eq_true hl]
        subst hl
        unfold slideOk
        generalize decide (shift < 0) = b1
        generalize decide ((m : Int) ≤ shift) = b2
        generalize goodL index = b3
        generalize goodT lag gain = b4
        generalize partsOk data.length part rice = b5
        generalize listOk data = b6
        cases b1 <;> cases b2 <;> cases b3 <;> cases b4 <;> cases b5 <;> cases b6 <;> rfl
      · rw [decide_eq_true (by omega : (data.length : Int) ≠ n), decide_eq_false hl]
        simp
    · rw [decide_eq_true hv0]
      simp
  · have e3 : wrongNormal ⟨kind, value, shift, index, lag, gain, part, rice, data⟩ n m = false := by unfold wrongNormal; dsimp only; rw [decide_eq_false h2]; rfl
    rw [e3]
    have hmm : ∀ (A B : Bool) (X : Bool), ((A = true ∨ B = true) ↔ X = true) → (if A then (2 : Int) else if B then 2 else if false then 2 else 0) = if X then 2 else 0 := by
      intro A B X h
      cases A <;> cases B <;> cases X <;> simp_all
    refine hmm _ _ _ ?_
    have w1 : wrongMore ⟨kind, value, shift, index, lag, gain, part, rice, data⟩ = true ↔ (shift ≠ 0 ∨ 0 < index.length ∨ lag ≠ 0 ∨ gain ≠ 0 ∨ part ≠ 0 ∨ 0 < rice.length) := by
      unfold wrongMore
      dsimp only
      rw [decide_eq_true h2, Bool.true_and]
      simp only [Bool.or_eq_true, decide_eq_true_eq]
      omega
    rcases hk with rfl | rfl | rfl | rfl
    · have w2 : wrongData ⟨0, value, shift, index, lag, gain, part, rice, data⟩ n = true ↔ (value ≠ 0 ∨ 0 < data.length) := by
        unfold wrongData
        dsimp only
        simp only [Bool.or_eq_true, Bool.and_eq_true, decide_eq_true_eq]
        omega
      have w3 : (moreB ⟨0, value, shift, index, lag, gain, part, rice, data⟩ || !formedB ⟨0, value, shift, index, lag, gain, part, rice, data⟩ n m) = moreN value shift lag gain part (index.length + rice.length + data.length) := by
        unfold moreB formedB
        simp
      rw [w1, w2, w3, moreN_eq hv hs ha hg hp]
      omega
    · have w2 : wrongData ⟨1, value, shift, index, lag, gain, part, rice, data⟩ n = true ↔ 0 < data.length := by
        unfold wrongData
        dsimp only
        simp only [Bool.or_eq_true, Bool.and_eq_true, decide_eq_true_eq]
        omega
      have w3 : (moreB ⟨1, value, shift, index, lag, gain, part, rice, data⟩ || !formedB ⟨1, value, shift, index, lag, gain, part, rice, data⟩ n m) = moreN 0 shift lag gain part (index.length + rice.length + data.length) := by
        unfold moreB formedB
        simp
      rw [w1, w2, w3, moreN_eq in64_zero hs ha hg hp]
      omega
    · exact absurd rfl h2
    · have w2 : wrongData ⟨3, value, shift, index, lag, gain, part, rice, data⟩ n = true ↔ (value ≠ 0 ∨ data.length ≠ n) := by
        unfold wrongData
        dsimp only
        simp only [Bool.or_eq_true, Bool.and_eq_true, decide_eq_true_eq]
        omega
      have w3 : (moreB ⟨3, value, shift, index, lag, gain, part, rice, data⟩ || !formedB ⟨3, value, shift, index, lag, gain, part, rice, data⟩ n m) = true ↔ (moreN value shift lag gain part (index.length + rice.length) = true ∨ data.length ≠ n) := by
        unfold moreB formedB
        simp
      rw [w1, w2, w3, moreN_eq hv hs ha hg hp]
      omega
end Go.Proofs.Ytefbakhhlonafaa
