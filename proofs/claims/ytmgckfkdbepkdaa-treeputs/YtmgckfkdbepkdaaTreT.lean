import Derived.Test.YtmgckfkdbepkdaaTreX2
import Derived.Test.YtmgckfkdbepkdaaTreB
import Derived.Test.YtmgckfkdbepkdaaReader5
namespace Go.Proofs.Ytmgckfkdbepkdaa
open Go.RowKit Go.Proofs Go.Proofs.PipeM Go.Proofs.PipeA Go.Proofs.TreM
set_option maxRecDepth 100000

/-- A tree out of a reader. -/
structure TkS where
  rs : RS
  text : List UInt8
  out : List Int
def tkM : Mach TkS where
  two s _ := (decide (s.rs.takeV 1 = 1), ⟨s.rs.takeS 1, s.text ++ letterB (decide (s.rs.takeV 1 = 1)), s.out⟩)
  leaf s _ n := (decide (s.rs.err = 0), ⟨s.rs, s.text, s.out ++ [(n : Int)]⟩)
  pre _ _ _ := True
theorem takeV_cons (c : Bool) (r : List Bool) (e : Int) : (RS.mk (c :: r) e).takeV 1 = c.toNat := by
  unfold RS.takeV
  rw [if_pos ⟨by omega, by omega, by simp only [List.length_cons]; omega⟩]
  cases c <;> rfl
theorem takeS_cons (c : Bool) (r : List Bool) (e : Int) : (RS.mk (c :: r) e).takeS 1 = ⟨r, e⟩ := by
  unfold RS.takeS
  rw [if_neg (by omega), if_neg (by simp only [List.length_cons]; omega)]
  rfl
theorem takeV_nil (e : Int) : (RS.mk [] e).takeV 1 = 0 := by
  unfold RS.takeV
  rw [if_neg (by simp)]
theorem takeS_nil (e : Int) : (RS.mk [] e).takeS 1 = (RS.mk [] e).give 3 := by
  unfold RS.takeS
  rw [if_neg (by omega), if_pos (by simp)]
theorem give3 (e : Int) : (RS.mk [] e).give 3 = ⟨[], if e = 0 then 3 else e⟩ := by
  unfold RS.give
  by_cases h : e = 0
  · rw [if_neg (by simp [h]), if_pos h]
  · rw [if_pos (.inr h), if_neg h]

/-- Of a reader that has failed there is no tree. -/
theorem tkM_fail : ∀ (k size : Nat) (p : List UInt8) (s : TkS), s.rs.bits = [] → s.rs.err ≠ 0 → (walkF tkM k size p s).1 = false ∧ (walkF tkM k size p s).2.rs = s.rs
  | 0, size, p, s, hb, he => by simp [walkF, tkM, he]
  | k + 1, size, p, ⟨⟨bits, err⟩, text, out⟩, hb, he => by
    obtain rfl : bits = [] := hb
    cases hm : may (k + 1) size with
    | false =>
      rw [walkF_no hm]
      exact ⟨by simpa [tkM] using he, rfl⟩
    | true =>
      have h1 : (tkM.two (⟨⟨[], err⟩, text, out⟩ : TkS) size).1 = false := by simp [tkM, takeV_nil]
      rw [walkF_leaf hm p _ h1]
      have h2 : (tkM.two (⟨⟨[], err⟩, text, out⟩ : TkS) size).2.rs = ⟨[], err⟩ := by
        show (RS.mk [] err).takeS 1 = _
        rw [takeS_nil, give3, if_neg he]
      refine ⟨?_, h2⟩
      show decide ((tkM.two (⟨⟨[], err⟩, text, out⟩ : TkS) size).2.rs.err = 0) = false
      rw [h2]
      exact decide_eq_false he
theorem tkM_ok : ∀ (k size : Nat) (p : List UInt8) (bits : List Bool) (text : List UInt8) (out : List Int),
    (∀ a r, rd k size (bits.map chr) = some (a, r) → ∃ u rest, bits = u ++ rest ∧ r = rest.map chr ∧ walkF tkM k size p ⟨⟨bits, 0⟩, text, out⟩ = (true, ⟨⟨rest, 0⟩, text ++ u.map chr, out ++ a⟩)) ∧
    (rd k size (bits.map chr) = none → (walkF tkM k size p ⟨⟨bits, 0⟩, text, out⟩).1 = false ∧ (walkF tkM k size p ⟨⟨bits, 0⟩, text, out⟩).2.rs = ⟨[], 3⟩)
  | 0, size, p, bits, text, out => by
    refine ⟨fun a r h => ?_, fun h => by simp [rd] at h⟩
    simp only [rd, Option.some.injEq, Prod.mk.injEq] at h
    obtain ⟨rfl, rfl⟩ := h
    exact ⟨[], bits, rfl, rfl, by simp [walkF, tkM]⟩
  | k + 1, size, p, bits, text, out => by
    cases hm : may (k + 1) size with
    | false =>
      rw [walkF_no hm]
      unfold rd
      rw [if_neg (by rw [hm]; simp)]
      refine ⟨fun a r h => ?_, fun h => by cases h⟩
      cases h
      exact ⟨[], bits, rfl, rfl, by simp [tkM]⟩
    | true =>
      cases bits with
      | nil =>
        have h1 : (tkM.two (⟨⟨[], 0⟩, text, out⟩ : TkS) size).1 = false := by simp [tkM, takeV_nil]
        have h2 : (tkM.two (⟨⟨[], 0⟩, text, out⟩ : TkS) size).2.rs = ⟨[], 3⟩ := by
          show (RS.mk [] 0).takeS 1 = _
          rw [takeS_nil, give3, if_pos rfl]
        rw [walkF_leaf hm p _ h1, List.map_nil, rd, if_pos hm]
        refine ⟨(fun a r h => by cases h), fun _ => ⟨?_, h2⟩⟩
        show decide ((tkM.two (⟨⟨[], 0⟩, text, out⟩ : TkS) size).2.rs.err = 0) = false
        rw [h2]
        exact decide_eq_false (by simp)
      | cons c t =>
        rw [List.map_cons]
        have h2 : (tkM.two (⟨⟨c :: t, 0⟩, text, out⟩ : TkS) size) = (c, ⟨⟨t, 0⟩, text ++ [chr c], out⟩) := by
          show (decide ((RS.mk (c :: t) 0).takeV 1 = 1), TkS.mk ((RS.mk (c :: t) 0).takeS 1) (text ++ letterB (decide ((RS.mk (c :: t) 0).takeV 1 = 1))) out) = _
          rw [takeV_cons, takeS_cons]
          cases c <;> rfl
        cases c with
        | false =>
          rw [show chr false = 48 from rfl, rd_one hm, walkF_leaf hm p _ (by rw [h2]), h2]
          refine ⟨fun a r h => ?_, fun h => by cases h⟩
          cases h
          exact ⟨[false], t, rfl, rfl, rfl⟩
        | true =>
          rw [show chr true = 49 from rfl, rd_two hm]
          obtain ⟨i1, i2⟩ := tkM_ok k (size / 2) (p ++ [48]) t (text ++ [chr true]) out
          cases r1 : rd k (size / 2) (t.map chr) with
          | none =>
            have j2 := i2 r1
            rw [rd2_none r1, walkF_first hm p _ (by rw [h2]) (by rw [h2]; exact j2.1), h2]
            exact ⟨(fun a r h => by cases h), fun _ => ⟨rfl, j2.2⟩⟩
          | some x =>
            obtain ⟨u, rest, hu, hx, j1⟩ := i1 x.1 x.2 r1
            obtain ⟨i3, i4⟩ := tkM_ok k (size / 2) (p ++ [49]) rest ((text ++ [chr true]) ++ u.map chr) (out ++ x.1)
            rw [rd2_some r1, walkF_both hm p _ (by rw [h2]) (by rw [h2, j1]), h2, j1, hx]
            cases r2 : rd k (size / 2) (rest.map chr) with
            | none => exact ⟨(fun a r h => by cases h), fun _ => i4 r2⟩
            | some y =>
              refine ⟨fun a r h => ?_, fun h => by cases h⟩
              cases h
              obtain ⟨u2, rest2, hu2, hy, j3⟩ := i3 y.1 y.2 r2
              refine ⟨true :: (u ++ u2), rest2, by rw [hu, hu2, List.cons_append, List.append_assoc], hy, ?_⟩
              rw [j3]
              simp
end Go.Proofs.Ytmgckfkdbepkdaa
