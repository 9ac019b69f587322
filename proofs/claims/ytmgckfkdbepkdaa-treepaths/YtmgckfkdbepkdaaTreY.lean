import Derived.Test.YtmgckfkdbepkdaaTreU
import Derived.Test.YtmgckfkdbepkdaaTreF4
namespace Go.Proofs.Ytmgckfkdbepkdaa
open Go.RowKit Go.Proofs Go.Proofs.PipeM Go.Proofs.PipeA Go.Proofs.TreM
set_option maxRecDepth 100000

/-- What is told of each leaf's way, when it is asked by the law's closure. -/
structure PtS where
  rest : List UInt8
  bad : Bool
  c : Nat
def ptM (ws : List (List UInt8)) (lv : List Int) (m size : Nat) : Mach PtS where
  two s _ := match s.rest with
    | [] => (false, ⟨[], true, s.c⟩)
    | x :: r => (x == 49, ⟨r, x != 48 && x != 49, s.c⟩)
  leaf s _ _ := (decide (s.c + 1 < m), ⟨s.rest, s.bad, s.c + 1⟩)
  pre s p n := ws[s.c]? = some p ∧ lv[s.c]? = some (n : Int) ∧ n * 2 ^ p.length = size
theorem drop_cons {α : Type} {l : List α} {c : Nat} {x : α} {r : List α} (h : l.drop c = x :: r) : l[c]? = some x ∧ l.drop (c + 1) = r := by
  have h1 : (l.drop c)[0]? = some x := by rw [h]; rfl
  have h2 : (l.drop c).drop 1 = r := by rw [h]; rfl
  rw [List.getElem?_drop] at h1
  rw [List.drop_drop] at h2
  exact ⟨by simpa using h1, h2⟩
/-- The walk, leaf by leaf: what it tells, and where it ends. -/
theorem ptM_ok (ws : List (List UInt8)) (lv : List Int) (m top : Nat) : ∀ (k size : Nat) (p s : List UInt8) (c : Nat) (a : List Int) (r : List UInt8) (w' : List (List UInt8)) (l' : List Int),
    rd k size s = some (a, r) → ws.drop c = (pth k size s p).1 ++ w' → lv.drop c = a ++ l' → size * 2 ^ p.length = top → (c < m ∨ c = 0) →
    walkOk (ptM ws lv m top) k size p ⟨s, false, c⟩ ∧
    (c + a.length < m → walkF (ptM ws lv m top) k size p ⟨s, false, c⟩ = (true, ⟨r, false, c + a.length⟩)) ∧
    (m ≤ c + a.length → (walkF (ptM ws lv m top) k size p ⟨s, false, c⟩).1 = false ∧ (walkF (ptM ws lv m top) k size p ⟨s, false, c⟩).2.c = max m 1) := by
  have leafcase : ∀ (size : Nat) (p r : List UInt8) (c : Nat) (w' : List (List UInt8)) (l' : List Int), ws.drop c = [p] ++ w' → lv.drop c = [(size : Int)] ++ l' → size * 2 ^ p.length = top → (c < m ∨ c = 0) →
      (ptM ws lv m top).pre ⟨r, false, c⟩ p size ∧
      (c + [(size : Int)].length < m → (ptM ws lv m top).leaf ⟨r, false, c⟩ p size = (true, ⟨r, false, c + [(size : Int)].length⟩)) ∧
      (m ≤ c + [(size : Int)].length → ((ptM ws lv m top).leaf ⟨r, false, c⟩ p size).1 = false ∧ ((ptM ws lv m top).leaf ⟨r, false, c⟩ p size).2.c = max m 1) := by
    intro size p r c w' l' hw hl hs hc
    refine ⟨⟨(drop_cons hw).1, (drop_cons hl).1, hs⟩, fun h => ?_, fun h => ⟨?_, ?_⟩⟩
    · show (decide (c + 1 < m), PtS.mk r false (c + 1)) = _
      rw [decide_eq_true (by simpa using h)]
      rfl
    · show decide (c + 1 < m) = false
      exact decide_eq_false (by simp at h; omega)
    · show c + 1 = max m 1
      simp at h
      omega
  intro k
  induction k with
  | zero =>
    intro size p s c a r w' l' hr hw hl hs hc
    simp only [rd, Option.some.injEq, Prod.mk.injEq] at hr
    obtain ⟨rfl, rfl⟩ := hr
    exact leafcase size p s c w' l' hw hl hs hc
  | succ k ih =>
    intro size p s c a r w' l' hr hw hl hs hc
    cases hm : may (k + 1) size with
    | false =>
      rw [pth_no hm] at hw
      unfold rd at hr
      rw [if_neg (by rw [hm]; simp)] at hr
      cases hr
      obtain ⟨h1, h2, h3⟩ := leafcase size p s c w' l' hw hl hs hc
      rw [walkF_no hm]
      exact ⟨⟨fun _ => h1, fun h => absurd hm (by rw [h]; simp), fun h => absurd hm (by rw [h]; simp)⟩, h2, h3⟩
    | true =>
      cases s with
      | nil => rw [rd, if_pos hm] at hr; cases hr
      | cons x t =>
        by_cases h48 : x = 48
        · subst h48
          rw [rd_one hm] at hr
          cases hr
          rw [pth_one hm] at hw
          obtain ⟨h1, h2, h3⟩ := leafcase size p r c w' l' hw hl hs hc
          have e1 : ((ptM ws lv m top).two ⟨48 :: r, false, c⟩ size) = (false, ⟨r, false, c⟩) := rfl
          rw [walkF_leaf hm p _ (by rw [e1]), e1]
          exact ⟨⟨fun h => absurd hm (by rw [h]; simp), fun _ _ => h1, (fun _ h => by rw [e1] at h; cases h)⟩, h2, h3⟩
        · by_cases h49 : x = 49
          · subst h49
            have hm0 := may_of hm
            have e1 : ((ptM ws lv m top).two ⟨49 :: t, false, c⟩ size) = (true, ⟨t, false, c⟩) := rfl
            rw [rd_two hm] at hr
            cases r1 : rd k (size / 2) t with
            | none => rw [rd2_none r1] at hr; cases hr
            | some y =>
              obtain ⟨a1, q1⟩ := y
              rw [rd2_some r1] at hr
              cases r2 : rd k (size / 2) q1 with
              | none => rw [r2] at hr; cases hr
              | some z =>
                obtain ⟨a2, q2⟩ := z
                rw [r2] at hr
                cases hr
                obtain ⟨v1, e3, l3, _⟩ := pth_like k _ _ _ _ (p ++ [48]) r1
                obtain ⟨v2, e4, l4, _⟩ := pth_like k _ _ _ _ (p ++ [49]) r2
                rw [pth_two hm, e3] at hw
                simp only [e4] at hw
                rw [List.append_assoc] at hw hl
                have hs2 : ∀ q : UInt8, size / 2 * 2 ^ (p ++ [q]).length = top := fun q => by
                  rw [List.length_append, List.length_singleton, Nat.pow_succ, ← hs]
                  have : size = 2 * (size / 2) := by omega
                  conv => rhs; rw [this]
                  rw [Nat.mul_comm (2 ^ p.length) 2, ← Nat.mul_assoc, Nat.mul_comm (size / 2) 2]
                obtain ⟨o1, f1, g1⟩ := ih (size / 2) (p ++ [48]) t c a1 q1 (v2 ++ w') (a2 ++ l') r1 (by rw [e3]; exact hw) hl (hs2 48) hc
                have hd1 : ws.drop (c + a1.length) = v2 ++ w' := by
                  rw [← List.drop_drop, hw, ← l3, List.drop_left]
                have hd2 : lv.drop (c + a1.length) = a2 ++ l' := by
                  rw [← List.drop_drop, hl, List.drop_left]
                rw [List.length_append]
                by_cases hq : c + a1.length < m
                · have hf := f1 hq
                  obtain ⟨o2, f2, g2⟩ := ih (size / 2) (p ++ [49]) q1 (c + a1.length) a2 q2 w' l' r2 (by rw [e4]; exact hd1) hd2 (hs2 49) (.inl hq)
                  have hwf : walkF (ptM ws lv m top) (k + 1) size p ⟨49 :: t, false, c⟩ = walkF (ptM ws lv m top) k (size / 2) (p ++ [49]) ⟨q1, false, c + a1.length⟩ := by
                    rw [walkF_both hm p _ (by rw [e1]) (by rw [e1, hf]), e1, hf]
                  rw [hwf, ← Nat.add_assoc]
                  refine ⟨⟨fun h => absurd hm (by rw [h]; simp), (fun _ h => by rw [e1] at h; cases h), fun _ _ => ?_⟩, f2, g2⟩
                  rw [e1]
                  exact ⟨o1, fun _ => by rw [hf]; exact o2⟩
                · have hg := g1 (by omega)
                  have hwf : walkF (ptM ws lv m top) (k + 1) size p ⟨49 :: t, false, c⟩ = (false, (walkF (ptM ws lv m top) k (size / 2) (p ++ [48]) ⟨t, false, c⟩).2) := by
                    rw [walkF_first hm p _ (by rw [e1]) (by rw [e1]; exact hg.1), e1]
                  rw [hwf]
                  refine ⟨⟨fun h => absurd hm (by rw [h]; simp), (fun _ h => by rw [e1] at h; cases h), fun _ _ => ?_⟩, (fun h => by simp only at h; omega), fun _ => ⟨rfl, hg.2⟩⟩
                  rw [e1]
                  exact ⟨o1, fun h => by rw [hg.1] at h; cases h⟩
          · rw [rd_bad hm h48 h49] at hr; cases hr
end Go.Proofs.Ytmgckfkdbepkdaa
