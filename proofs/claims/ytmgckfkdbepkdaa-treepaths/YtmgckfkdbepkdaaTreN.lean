import Derived.Test.YtmgckfkdbepkdaaTreM
namespace Go.Proofs.TreM

/-- What a walker goes through a tree with. -/
structure Mach (σ : Type) where
  two : σ → Nat → Bool × σ
  leaf : σ → List UInt8 → Nat → Bool × σ
  pre : σ → List UInt8 → Nat → Prop
/-- The walk: did it go on to the end, and what is left. -/
def walkF {σ : Type} (M : Mach σ) : Nat → Nat → List UInt8 → σ → Bool × σ
  | 0, size, p, s => M.leaf s p size
  | k + 1, size, p, s =>
    if may (k + 1) size then
      if (M.two s size).1 then
        if (walkF M k (size / 2) (p ++ [48]) (M.two s size).2).1 then walkF M k (size / 2) (p ++ [49]) (walkF M k (size / 2) (p ++ [48]) (M.two s size).2).2
        else (false, (walkF M k (size / 2) (p ++ [48]) (M.two s size).2).2)
      else M.leaf (M.two s size).2 p size
    else M.leaf s p size
/-- Each leaf that is told may be told. -/
def walkOk {σ : Type} (M : Mach σ) : Nat → Nat → List UInt8 → σ → Prop
  | 0, size, p, s => M.pre s p size
  | k + 1, size, p, s =>
    (may (k + 1) size = false → M.pre s p size) ∧
    (may (k + 1) size = true → (M.two s size).1 = false → M.pre (M.two s size).2 p size) ∧
    (may (k + 1) size = true → (M.two s size).1 = true → walkOk M k (size / 2) (p ++ [48]) (M.two s size).2 ∧
      ((walkF M k (size / 2) (p ++ [48]) (M.two s size).2).1 = true → walkOk M k (size / 2) (p ++ [49]) (walkF M k (size / 2) (p ++ [48]) (M.two s size).2).2))
/-- How many questions there are at most. -/
def cst : Nat → Nat
  | 0 => 1
  | k + 1 => cst k + cst k + 1
theorem cst_pos (k : Nat) : 1 ≤ cst k := by cases k <;> simp [cst]
theorem cst_two (k : Nat) : 2 ≤ cst (k + 1) := by have := cst_pos k; simp only [cst]; omega

theorem walkF_no {σ : Type} {M : Mach σ} {k size : Nat} (h : may k size = false) (p : List UInt8) (s : σ) : walkF M k size p s = M.leaf s p size := by
  cases k with
  | zero => rfl
  | succ k => rw [walkF, if_neg (by rw [h]; simp)]
theorem walkF_leaf {σ : Type} {M : Mach σ} {k size : Nat} (h : may (k + 1) size = true) (p : List UInt8) (s : σ) (h2 : (M.two s size).1 = false) : walkF M (k + 1) size p s = M.leaf (M.two s size).2 p size := by
  rw [walkF, if_pos h, if_neg (by rw [h2]; simp)]
theorem walkF_both {σ : Type} {M : Mach σ} {k size : Nat} (h : may (k + 1) size = true) (p : List UInt8) (s : σ) (h2 : (M.two s size).1 = true) (h3 : (walkF M k (size / 2) (p ++ [48]) (M.two s size).2).1 = true) :
    walkF M (k + 1) size p s = walkF M k (size / 2) (p ++ [49]) (walkF M k (size / 2) (p ++ [48]) (M.two s size).2).2 := by
  rw [walkF, if_pos h, if_pos h2, if_pos h3]
theorem walkF_first {σ : Type} {M : Mach σ} {k size : Nat} (h : may (k + 1) size = true) (p : List UInt8) (s : σ) (h2 : (M.two s size).1 = true) (h3 : (walkF M k (size / 2) (p ++ [48]) (M.two s size).2).1 = false) :
    walkF M (k + 1) size p s = (false, (walkF M k (size / 2) (p ++ [48]) (M.two s size).2).2) := by
  rw [walkF, if_pos h, if_pos h2, if_neg (by rw [h3]; simp)]
theorem walkOk_no {σ : Type} {M : Mach σ} {k size : Nat} (h : may k size = false) {p : List UInt8} {s : σ} (ho : walkOk M k size p s) : M.pre s p size := by
  cases k with
  | zero => exact ho
  | succ k => exact ho.1 h
theorem walkOk_all {σ : Type} {M : Mach σ} (h : ∀ s p n, M.pre s p n) : ∀ (k size : Nat) (p : List UInt8) (s : σ), walkOk M k size p s
  | 0, _, _, _ => h _ _ _
  | k + 1, _, _, _ => ⟨fun _ => h _ _ _, fun _ _ => h _ _ _, fun _ _ => ⟨walkOk_all h k _ _ _, fun _ => walkOk_all h k _ _ _⟩⟩

/-- A tree out of a text. -/
structure RdS where
  rest : List UInt8
  bad : Bool
  out : List Int
def rdM : Mach RdS where
  two s _ := match s.rest with
    | [] => (false, ⟨[], true, s.out⟩)
    | c :: r => (c == 49, ⟨r, c != 48 && c != 49, s.out⟩)
  leaf s _ n := (!s.bad, ⟨s.rest, s.bad, s.out ++ [(n : Int)]⟩)
  pre _ _ _ := True
theorem rdM_ok : ∀ (k size : Nat) (p : List UInt8) (s : RdS), s.bad = false →
    (∀ a r, rd k size s.rest = some (a, r) → walkF rdM k size p s = (true, ⟨r, false, s.out ++ a⟩)) ∧ (rd k size s.rest = none → (walkF rdM k size p s).1 = false)
  | 0, size, p, s, hb => by
    refine ⟨fun a r h => ?_, fun h => by simp [rd] at h⟩
    simp only [rd, Option.some.injEq, Prod.mk.injEq] at h
    obtain ⟨rfl, rfl⟩ := h
    simp [walkF, rdM, hb]
  | k + 1, size, p, s, hb => by
    cases hm : may (k + 1) size with
    | false =>
      rw [walkF_no hm]
      unfold rd
      rw [if_neg (by rw [hm]; simp)]
      refine ⟨fun a r h => ?_, fun h => by cases h⟩
      cases h
      simp [rdM, hb]
    | true =>
      obtain ⟨rest, bad, out⟩ := s
      cases hb
      cases rest with
      | nil =>
        rw [walkF_leaf hm p _ rfl, rd, if_pos hm]
        exact ⟨(fun a r h => by cases h), fun _ => rfl⟩
      | cons c t =>
        by_cases h48 : c = 48
        · subst h48
          rw [walkF_leaf hm p _ rfl, rd_one hm]
          refine ⟨fun a r h => ?_, fun h => by cases h⟩
          cases h
          rfl
        · by_cases h49 : c = 49
          · subst h49
            obtain ⟨i1, i2⟩ := rdM_ok k (size / 2) (p ++ [48]) ⟨t, false, out⟩ rfl
            have e2 : (rdM.two (⟨49 :: t, false, out⟩ : RdS) size).2 = ⟨t, false, out⟩ := rfl
            rw [rd_two hm]
            cases r1 : rd k (size / 2) t with
            | none =>
              rw [rd2_none r1, walkF_first hm p _ rfl (by rw [e2]; exact i2 r1)]
              exact ⟨(fun a r h => by cases h), fun _ => rfl⟩
            | some x =>
              have j1 := i1 x.1 x.2 r1
              obtain ⟨i3, i4⟩ := rdM_ok k (size / 2) (p ++ [49]) ⟨x.2, false, out ++ x.1⟩ rfl
              rw [rd2_some r1, walkF_both hm p _ rfl (by rw [e2, j1]), e2, j1]
              cases r2 : rd k (size / 2) x.2 with
              | none => exact ⟨(fun a r h => by cases h), fun _ => i4 r2⟩
              | some y =>
                refine ⟨fun a r h => ?_, fun h => by cases h⟩
                cases h
                have := i3 y.1 y.2 r2
                rw [List.append_assoc] at this
                exact this
          · rw [walkF_leaf hm p _ (by simp [rdM, h49]), rd_bad hm h48 h49]
            exact ⟨(fun a r h => by cases h), fun _ => by simp [rdM, h48, h49]⟩

/-- A tree out of its leaves. -/
structure FtS where
  rest : List Int
  text : List UInt8
def fits (l : List Int) (n : Nat) : Bool := match l with | [] => false | x :: _ => x == (n : Int)
def ftM : Mach FtS where
  two s n := (!fits s.rest n, ⟨s.rest, s.text ++ [if fits s.rest n then 48 else 49]⟩)
  leaf s _ n := if fits s.rest n then (true, ⟨s.rest.tail, s.text⟩) else (false, s)
  pre _ _ _ := True
theorem ftM_ok : ∀ (k size : Nat) (p : List UInt8) (s : FtS),
    (∀ t r, ft k size s.rest = some (t, r) → walkF ftM k size p s = (true, ⟨r, s.text ++ t⟩)) ∧ (ft k size s.rest = none → (walkF ftM k size p s).1 = false)
  | 0, size, p, ⟨[], text⟩ => ⟨(fun t r h => by simp [ft] at h), fun _ => rfl⟩
  | 0, size, p, ⟨x :: l, text⟩ => by
    by_cases hx : x = (size : Int)
    · subst hx
      refine ⟨fun t r h => ?_, fun h => by simp [ft] at h⟩
      simp only [ft, if_true, Option.some.injEq, Prod.mk.injEq] at h
      obtain ⟨rfl, rfl⟩ := h
      simp [walkF, ftM, fits]
    · refine ⟨(fun t r h => by simp [ft, hx] at h), fun _ => ?_⟩
      simp [walkF, ftM, fits, hx]
  | k + 1, size, p, ⟨[], text⟩ => by
    refine ⟨(fun t r h => by simp [ft] at h), fun _ => ?_⟩
    cases hm : may (k + 1) size with
    | false => rw [walkF_no hm]; rfl
    | true =>
      have h3 := (ftM_ok k (size / 2) (p ++ [48]) ⟨[], text ++ [49]⟩).2 (ft_nil _ _)
      rw [walkF_first hm p _ rfl h3]
  | k + 1, size, p, ⟨x :: l, text⟩ => by
    by_cases hx : x = (size : Int)
    · subst hx
      rw [ft_eq]
      refine ⟨fun t r h => ?_, fun h => by cases h⟩
      cases h
      cases hm : may (k + 1) size with
      | false => rw [walkF_no hm]; simp [ftM, fits]
      | true =>
        rw [walkF_leaf hm p _ (by simp [ftM, fits])]
        simp [ftM, fits]
    · have hf : fits (x :: l) size = false := by simp [fits, hx]
      cases hm : may (k + 1) size with
      | false =>
        rw [walkF_no hm]
        have : ft (k + 1) size (x :: l) = none := by
          by_cases h : x < (size : Int)
          · exact ft_no h hm l
          · exact ft_gt (by omega) l
        rw [this]
        exact ⟨(fun t r h => by cases h), fun _ => by simp [ftM, hf]⟩
      | true =>
        have e1 : (ftM.two (⟨x :: l, text⟩ : FtS) size).1 = true := by simp [ftM, hf]
        have e2 : (ftM.two (⟨x :: l, text⟩ : FtS) size).2 = ⟨x :: l, text ++ [49]⟩ := by simp [ftM, hf]
        obtain ⟨i1, i2⟩ := ftM_ok k (size / 2) (p ++ [48]) ⟨x :: l, text ++ [49]⟩
        by_cases h : x < (size : Int)
        · rw [ft_two h hm]
          cases r1 : ft k (size / 2) (x :: l) with
          | none =>
            rw [ft2_none r1, walkF_first hm p _ e1 (by rw [e2]; exact i2 r1)]
            exact ⟨(fun t r h => by cases h), fun _ => rfl⟩
          | some a =>
            have j1 := i1 a.1 a.2 r1
            obtain ⟨i3, i4⟩ := ftM_ok k (size / 2) (p ++ [49]) ⟨a.2, (text ++ [49]) ++ a.1⟩
            rw [ft2_some r1, walkF_both hm p _ e1 (by rw [e2, j1]), e2, j1]
            cases r2 : ft k (size / 2) a.2 with
            | none => exact ⟨(fun t r h => by cases h), fun _ => i4 r2⟩
            | some b =>
              refine ⟨fun t r h => ?_, fun h => by cases h⟩
              cases h
              have := i3 b.1 b.2 r2
              rw [this]
              simp
        · rw [ft_gt (by omega)]
          refine ⟨(fun t r h => by cases h), fun _ => ?_⟩
          have hn : ft k (size / 2) (x :: l) = none := ft_gt (by omega) l
          rw [walkF_first hm p _ e1 (by rw [e2]; exact i2 hn)]

/-- A tree whose halves are two wherever they may: of which size its leaves are, and how many. -/
def hv : Nat → Nat → Nat → Nat × Nat
  | 0, size, _ => (size, 1)
  | k + 1, size, d => if d ≠ 0 ∧ may (k + 1) size = true then ((hv k (size / 2) (d - 1)).1, 2 * (hv k (size / 2) (d - 1)).2) else (size, 1)
theorem hv_le : ∀ (k size d : Nat), (hv k size d).1 ≤ size ∧ 1 ≤ (hv k size d).2 ∧ (0 < size → 0 < (hv k size d).1) ∧ (hv k size d).2 ≤ 2 ^ k
  | 0, size, d => by simp [hv]
  | k + 1, size, d => by
    have h1 : 1 ≤ 2 ^ (k + 1) := Nat.one_le_two_pow
    unfold hv
    split
    · rename_i h
      obtain ⟨i1, i2, i3, i4⟩ := hv_le k (size / 2) (d - 1)
      have := may_of h.2
      refine ⟨by simp only; omega, by simp only; omega, fun _ => i3 (by omega), by simp only [Nat.pow_succ]; omega⟩
    · exact ⟨Nat.le_refl _, Nat.le_refl _, id, h1⟩
theorem hv_ft : ∀ (k size d : Nat) (m : List Int), 0 < size → ft k size (List.replicate (hv k size d).2 ((hv k size d).1 : Int) ++ m) = some (wh k size d, m)
  | 0, size, d, m, _ => by simp [hv, wh, ft]
  | k + 1, size, d, m, hs => by
    unfold hv
    split
    · rename_i h
      obtain ⟨hd, hm⟩ := h
      obtain ⟨i1, i2, i3, _⟩ := hv_le k (size / 2) (d - 1)
      have hm2 := may_of hm
      have ih := fun m => hv_ft k (size / 2) (d - 1) m (by omega)
      generalize hv k (size / 2) (d - 1) = y at *
      obtain ⟨a, c⟩ := y
      simp only at *
      have hr : List.replicate (2 * c) (a : Int) = List.replicate c (a : Int) ++ List.replicate c (a : Int) := by rw [List.replicate_append_replicate, Nat.two_mul]
      obtain ⟨c', rfl⟩ : ∃ c', c = c' + 1 := ⟨c - 1, by omega⟩
      rw [hr, List.append_assoc]
      conv => lhs; rw [List.replicate_succ, List.cons_append]
      rw [ft_two (by omega) hm, ← List.cons_append, ← List.replicate_succ, ft2_some (ih _), ih, wh, if_pos hm, if_neg hd]
      rfl
    · rename_i h
      rw [List.replicate_one, List.singleton_append, ft_eq, wh]
      by_cases hm : may (k + 1) size = true
      · have hd : d = 0 := by
          apply Classical.byContradiction
          intro hd
          exact h ⟨hd, hm⟩
        rw [if_pos hm, if_pos hm, if_pos hd]
      · rw [if_neg hm, if_neg hm]
theorem hv_text (size d : Nat) (hs : 0 < size) : textOf size (List.replicate (hv 4 size d).2 ((hv 4 size d).1 : Int)) = some (wh 4 size d) := by
  have := hv_ft 4 size d [] hs
  rw [List.append_nil] at this
  exact textOf_some.2 this
end Go.Proofs.TreM
