import Derived.WalkKit
namespace Go.Proofs.TreM

/-- May a tree be two? -/
def may (left size : Nat) : Bool := decide (0 < left) && decide (0 < size) && decide (size % 32 = 0)
/-- The tree at a text's beginning: its leaves, and what is behind. -/
def rd : Nat → Nat → List UInt8 → Option (List Int × List UInt8)
  | 0, size, s => some ([(size : Int)], s)
  | k + 1, size, s =>
    if may (k + 1) size then
      match s with
      | [] => none
      | c :: r =>
        if c = 48 then some ([(size : Int)], r)
        else if c = 49 then
          match rd k (size / 2) r with
          | none => none
          | some (a, r1) =>
            match rd k (size / 2) r1 with
            | none => none
            | some (b, r2) => some (a ++ b, r2)
        else none
    else some ([(size : Int)], s)
/-- The text of the tree whose leaves stand at a list's beginning, and what is behind. -/
def ft : Nat → Nat → List Int → Option (List UInt8 × List Int)
  | _, _, [] => none
  | 0, size, x :: r => if x = size then some ([], r) else none
  | k + 1, size, x :: r =>
    if x = size then some (if may (k + 1) size then [48] else [], r)
    else if x < size ∧ may (k + 1) size = true then
      match ft k (size / 2) (x :: r) with
      | none => none
      | some (a, r1) =>
        match ft k (size / 2) r1 with
        | none => none
        | some (b, r2) => some (49 :: (a ++ b), r2)
    else none
/-- Two wherever it may, down to a depth. -/
def wh : Nat → Nat → Nat → List UInt8
  | 0, _, _ => []
  | k + 1, size, d => if may (k + 1) size then (if d = 0 then [48] else 49 :: (wh k (size / 2) (d - 1) ++ wh k (size / 2) (d - 1))) else []
/-- Each leaf's way. -/
def pth : Nat → Nat → List UInt8 → List UInt8 → List (List UInt8) × List UInt8
  | 0, _, s, p => ([p], s)
  | k + 1, size, s, p =>
    if may (k + 1) size then
      match s with
      | [] => ([p], [])
      | c :: r =>
        if c = 48 then ([p], r)
        else
          let x := pth k (size / 2) r (p ++ [48])
          let y := pth k (size / 2) x.2 (p ++ [49])
          (x.1 ++ y.1, y.2)
    else ([p], s)

theorem may_zero (size : Nat) : may 0 size = false := by simp [may]
theorem may_of {k size : Nat} (h : may k size = true) : 0 < k ∧ 0 < size ∧ size % 32 = 0 := by
  unfold may at h
  simp only [Bool.and_eq_true, decide_eq_true_eq] at h
  exact ⟨h.1.1, h.1.2, h.2⟩

/-- Two trees, one behind the other. -/
def rd2 (k size : Nat) (r : List UInt8) : Option (List Int × List UInt8) := (rd k size r).bind fun x => (rd k size x.2).map fun y => (x.1 ++ y.1, y.2)
theorem rd_two {k size : Nat} (hm : may (k + 1) size = true) (r : List UInt8) : rd (k + 1) size (49 :: r) = rd2 k (size / 2) r := by
  rw [rd, if_pos hm]
  simp only [show ¬ ((49 : UInt8) = 48) by decide, if_false, if_true]
  unfold rd2
  cases h1 : rd k (size / 2) r with
  | none => rfl
  | some x =>
    obtain ⟨a, r1⟩ := x
    simp only [Option.bind_some]
    cases h2 : rd k (size / 2) r1 with
    | none => rfl
    | some y => rfl
theorem rd_one {k size : Nat} (hm : may (k + 1) size = true) (r : List UInt8) : rd (k + 1) size (48 :: r) = some ([(size : Int)], r) := by
  rw [rd, if_pos hm]
  simp
theorem rd_bad {k size : Nat} (hm : may (k + 1) size = true) {c : UInt8} (h1 : c ≠ 48) (h2 : c ≠ 49) (r : List UInt8) : rd (k + 1) size (c :: r) = none := by
  rw [rd, if_pos hm]
  simp [h1, h2]
theorem rd2_none {k size : Nat} {r : List UInt8} (h : rd k size r = none) : rd2 k size r = none := by unfold rd2; rw [h]; rfl
theorem rd2_some {k size : Nat} {r : List UInt8} {x : List Int × List UInt8} (h : rd k size r = some x) : rd2 k size r = (rd k size x.2).map fun y => (x.1 ++ y.1, y.2) := by unfold rd2; rw [h]; rfl

/-- The texts of two trees, one behind the other. -/
def ft2 (k size : Nat) (l : List Int) : Option (List UInt8 × List Int) := (ft k size l).bind fun x => (ft k size x.2).map fun y => (49 :: (x.1 ++ y.1), y.2)
theorem ft_nil (k size : Nat) : ft k size [] = none := by cases k <;> simp [ft]
theorem ft_eq (k size : Nat) (r : List Int) : ft k size ((size : Int) :: r) = some (if may k size then [48] else [], r) := by
  cases k with
  | zero => simp [ft, may_zero]
  | succ k => simp [ft]
theorem ft_gt {k size : Nat} {x : Int} (h : (size : Int) < x) (r : List Int) : ft k size (x :: r) = none := by
  cases k with
  | zero => rw [ft, if_neg (by omega)]
  | succ k => rw [ft, if_neg (by omega), if_neg (by omega)]
theorem ft_no {k size : Nat} {x : Int} (h : x < (size : Int)) (hm : may k size = false) (r : List Int) : ft k size (x :: r) = none := by
  cases k with
  | zero => rw [ft, if_neg (by omega)]
  | succ k => rw [ft, if_neg (by omega), if_neg (by rw [hm]; simp)]
theorem ft_two {k size : Nat} {x : Int} (h : x < (size : Int)) (hm : may (k + 1) size = true) (r : List Int) : ft (k + 1) size (x :: r) = ft2 k (size / 2) (x :: r) := by
  rw [ft, if_neg (by omega), if_pos ⟨h, hm⟩]
  unfold ft2
  cases h1 : ft k (size / 2) (x :: r) with
  | none => rfl
  | some y =>
    obtain ⟨a, r1⟩ := y
    simp only [Option.bind_some]
    cases h2 : ft k (size / 2) r1 with
    | none => rfl
    | some y => rfl
theorem ft2_none {k size : Nat} {r : List Int} (h : ft k size r = none) : ft2 k size r = none := by unfold ft2; rw [h]; rfl
theorem ft2_some {k size : Nat} {r : List Int} {x : List UInt8 × List Int} (h : ft k size r = some x) : ft2 k size r = (ft k size x.2).map fun y => (49 :: (x.1 ++ y.1), y.2) := by unfold ft2; rw [h]; rfl
theorem ft_short : ∀ (k size : Nat) (l : List Int) (x : List UInt8 × List Int), ft k size l = some x → x.1.length < 2 ^ (k + 1) ∧ x.2.length ≤ l.length
  | 0, size, [], x, h => by simp [ft] at h
  | k + 1, size, [], x, h => by simp [ft] at h
  | 0, size, y :: l, x, h => by
    rw [ft] at h
    split at h
    · cases h; simp
    · cases h
  | k + 1, size, y :: l, x, h => by
    have h4 : 4 ≤ 2 ^ (k + 1 + 1) := by
      have := Nat.one_le_two_pow (n := k)
      rw [Nat.pow_succ, Nat.pow_succ]; omega
    by_cases h1 : y = (size : Int)
    · subst h1
      rw [ft_eq] at h
      cases h
      refine ⟨?_, by simp⟩
      show (if may (k + 1) size = true then [48] else ([] : List UInt8)).length < _
      split <;> simp <;> omega
    · by_cases h2 : y < (size : Int)
      · cases hm : may (k + 1) size with
        | false => rw [ft_no h2 hm] at h; cases h
        | true =>
          rw [ft_two h2 hm] at h
          cases e1 : ft k (size / 2) (y :: l) with
          | none => rw [ft2_none e1] at h; cases h
          | some a =>
            rw [ft2_some e1] at h
            cases e2 : ft k (size / 2) a.2 with
            | none => rw [e2] at h; cases h
            | some b =>
              rw [e2] at h
              cases h
              have i1 := ft_short k _ _ _ e1
              have i2 := ft_short k _ _ _ e2
              refine ⟨?_, by simp only; omega⟩
              simp only [List.length_cons, List.length_append]
              rw [Nat.pow_succ 2 (k + 1)]
              omega
      · rw [ft_gt (by omega)] at h; cases h

/-- What a tree's leaves are like. -/
theorem rd_like : ∀ (k size : Nat) (s : List UInt8) (l : List Int) (r : List UInt8), rd k size s = some (l, r) → l.sum = size ∧ l.length ≤ 2 ^ k ∧ ∃ x t, l = x :: t ∧ x ≤ size ∧ (0 < size → 0 < x)
  | 0, size, s, l, r, h => by
    simp only [rd, Option.some.injEq, Prod.mk.injEq] at h
    obtain ⟨rfl, rfl⟩ := h
    exact ⟨by simp, by simp, _, [], rfl, Int.le_refl _, fun h => by omega⟩
  | k + 1, size, s, l, r, h => by
    have h2 : 1 ≤ 2 ^ (k + 1) := Nat.one_le_two_pow
    unfold rd at h
    split at h
    · rename_i hm
      obtain ⟨_, hs0, hs32⟩ := may_of hm
      split at h
      · cases h
      · rename_i c t
        split at h
        · simp only [Option.some.injEq, Prod.mk.injEq] at h
          obtain ⟨rfl, rfl⟩ := h
          exact ⟨by simp, by simpa using h2, _, [], rfl, Int.le_refl _, fun h => by omega⟩
        · split at h
          · split at h
            · cases h
            · rename_i a r1 e1
              split at h
              · cases h
              · rename_i b r2 e2
                simp only [Option.some.injEq, Prod.mk.injEq] at h
                obtain ⟨rfl, rfl⟩ := h
                obtain ⟨s1, n1, x, t1, rfl, hx, hx0⟩ := rd_like k _ _ _ _ e1
                obtain ⟨s2, n2, _⟩ := rd_like k _ _ _ _ e2
                refine ⟨?_, ?_, x, t1 ++ b, rfl, by omega, fun _ => hx0 (by omega)⟩
                · rw [List.sum_append, s1, s2]; omega
                · rw [List.length_append, Nat.pow_succ]; omega
          · cases h
    · simp only [Option.some.injEq, Prod.mk.injEq] at h
      obtain ⟨rfl, rfl⟩ := h
      exact ⟨by simp, by simpa using h2, _, [], rfl, Int.le_refl _, fun h => by omega⟩

theorem rd_bound : ∀ (k size : Nat) (s : List UInt8) (l : List Int) (r : List UInt8), rd k size s = some (l, r) → ∀ x ∈ l, 0 ≤ x ∧ x ≤ size
  | 0, size, s, l, r, h => by
    simp only [rd, Option.some.injEq, Prod.mk.injEq] at h
    obtain ⟨rfl, rfl⟩ := h
    intro x hx
    simp at hx
    omega
  | k + 1, size, s, l, r, h => by
    have hone : l = [(size : Int)] → ∀ x ∈ l, 0 ≤ x ∧ x ≤ size := by
      rintro rfl x hx
      simp at hx
      omega
    cases hm : may (k + 1) size with
    | false =>
      unfold rd at h
      rw [if_neg (by rw [hm]; simp)] at h
      cases h
      exact hone rfl
    | true =>
      cases s with
      | nil => rw [rd, if_pos hm] at h; cases h
      | cons c t =>
        by_cases h48 : c = 48
        · rw [h48, rd_one hm] at h; cases h; exact hone rfl
        · by_cases h49 : c = 49
          · rw [h49, rd_two hm] at h
            cases e1 : rd k (size / 2) t with
            | none => rw [rd2_none e1] at h; cases h
            | some a =>
              rw [rd2_some e1] at h
              cases e2 : rd k (size / 2) a.2 with
              | none => rw [e2] at h; cases h
              | some b =>
                rw [e2] at h
                cases h
                intro x hx
                rw [List.mem_append] at hx
                rcases hx with hx | hx
                · have := rd_bound k _ _ _ _ e1 x hx; omega
                · have := rd_bound k _ _ _ _ e2 x hx; omega
          · rw [rd_bad hm h48 h49] at h; cases h

/-- A tree's text is that of its leaves. -/
theorem rd_ft : ∀ (k size : Nat) (s : List UInt8) (l : List Int) (r : List UInt8), rd k size s = some (l, r) → ∃ t, s = t ++ r ∧ ∀ m, ft k size (l ++ m) = some (t, m)
  | 0, size, s, l, r, h => by
    simp only [rd, Option.some.injEq, Prod.mk.injEq] at h
    obtain ⟨rfl, rfl⟩ := h
    exact ⟨[], rfl, fun m => by simp [ft]⟩
  | k + 1, size, s, l, r, h => by
    unfold rd at h
    split at h
    · rename_i hm
      obtain ⟨_, hs0, hs32⟩ := may_of hm
      split at h
      · cases h
      · rename_i c t
        split at h
        · rename_i hc
          simp only [Option.some.injEq, Prod.mk.injEq] at h
          obtain ⟨rfl, rfl⟩ := h
          subst hc
          exact ⟨[48], rfl, fun m => by simp [ft, hm]⟩
        · split at h
          · rename_i hc
            split at h
            · cases h
            · rename_i a r1 e1
              split at h
              · cases h
              · rename_i b r2 e2
                simp only [Option.some.injEq, Prod.mk.injEq] at h
                obtain ⟨rfl, rfl⟩ := h
                obtain ⟨_, _, x, t1, rfl, hx, hx0⟩ := rd_like k _ _ _ _ e1
                obtain ⟨u, rfl, hu⟩ := rd_ft k _ _ _ _ e1
                obtain ⟨v, rfl, hv⟩ := rd_ft k _ _ _ _ e2
                subst hc
                refine ⟨49 :: (u ++ v), by simp, fun m => ?_⟩
                have h1 := hu (b ++ m)
                rw [List.append_assoc, List.cons_append]
                rw [List.cons_append] at h1
                rw [ft, if_neg (by omega), if_pos ⟨by omega, hm⟩, h1]
                simp only [hv m]
          · cases h
    · rename_i hm
      simp only [Option.some.injEq, Prod.mk.injEq] at h
      obtain ⟨rfl, rfl⟩ := h
      exact ⟨[], rfl, fun m => by simp [ft, hm]⟩

/-- Leaves are those of their text. -/
theorem ft_rd : ∀ (k size : Nat) (l : List Int) (t : List UInt8) (r : List Int), ft k size l = some (t, r) → ∃ a, l = a ++ r ∧ ∀ m, rd k size (t ++ m) = some (a, m)
  | 0, size, [], t, r, h => by simp [ft] at h
  | k + 1, size, [], t, r, h => by simp [ft] at h
  | 0, size, x :: l, t, r, h => by
    rw [ft] at h
    split at h
    · rename_i hx
      simp only [Option.some.injEq, Prod.mk.injEq] at h
      obtain ⟨rfl, rfl⟩ := h
      exact ⟨[x], rfl, fun m => by simp [rd, hx]⟩
    · cases h
  | k + 1, size, x :: l, t, r, h => by
    rw [ft] at h
    split at h
    · rename_i hx
      simp only [Option.some.injEq, Prod.mk.injEq] at h
      obtain ⟨rfl, rfl⟩ := h
      refine ⟨[x], rfl, fun m => ?_⟩
      cases hm : may (k + 1) size <;> simp [rd, hm, hx]
    · split at h
      · rename_i hxm
        split at h
        · cases h
        · rename_i a r1 e1
          split at h
          · cases h
          · rename_i b r2 e2
            simp only [Option.some.injEq, Prod.mk.injEq] at h
            obtain ⟨rfl, rfl⟩ := h
            obtain ⟨u, hu, hu2⟩ := ft_rd k _ _ _ _ e1
            obtain ⟨v, hv, hv2⟩ := ft_rd k _ _ _ _ e2
            refine ⟨u ++ v, by rw [hu, hv, List.append_assoc], fun m => ?_⟩
            have h1 := hu2 (b ++ m)
            rw [List.cons_append, List.append_assoc, rd, if_pos hxm.2]
            simp [h1, hv2 m]
      · cases h

/-- The leaves of a whole text; the text of all leaves. -/
def leavesOf (size : Nat) (s : List UInt8) : Option (List Int) := match rd 4 size s with | some (l, []) => some l | _ => none
def textOf (size : Nat) (l : List Int) : Option (List UInt8) := match ft 4 size l with | some (t, []) => some t | _ => none
theorem leavesOf_some {size : Nat} {s : List UInt8} {l : List Int} : leavesOf size s = some l ↔ rd 4 size s = some (l, []) := by
  unfold leavesOf
  split
  · rename_i l' e
    rw [e]
    simp
  · rename_i h
    constructor
    · intro h2; cases h2
    · intro h2; exact absurd h2 (h _)
theorem textOf_some {size : Nat} {l : List Int} {s : List UInt8} : textOf size l = some s ↔ ft 4 size l = some (s, []) := by
  unfold textOf
  split
  · rename_i l' e
    rw [e]
    simp
  · rename_i h
    constructor
    · intro h2; cases h2
    · intro h2; exact absurd h2 (h _)
theorem leaves_text {size : Nat} {s : List UInt8} {l : List Int} (h : leavesOf size s = some l) : textOf size l = some s := by
  rw [leavesOf_some] at h
  rw [textOf_some]
  obtain ⟨t, ht, hf⟩ := rd_ft _ _ _ _ _ h
  have := hf []
  rw [List.append_nil] at this ht
  rw [this, ht]
theorem text_leaves {size : Nat} {s : List UInt8} {l : List Int} (h : textOf size l = some s) : leavesOf size s = some l := by
  rw [textOf_some] at h
  rw [leavesOf_some]
  obtain ⟨a, ha, hf⟩ := ft_rd _ _ _ _ _ h
  have := hf []
  rw [List.append_nil] at this ha
  rw [this, ha]
/-- Two trees of one size have the same leaves just if they are the same. -/
theorem leaves_inj {size : Nat} {s t : List UInt8} {l m : List Int} (h : leavesOf size s = some l) (k : leavesOf size t = some m) : l = m ↔ s = t := by
  constructor
  · rintro rfl
    have h1 := leaves_text h
    rw [leaves_text k] at h1
    exact (Option.some.inj h1).symm
  · rintro rfl
    rw [h] at k
    exact Option.some.inj k

/-- The leaves of what is two wherever it may. -/
theorem wh_rd : ∀ (k size d : Nat) (m : List UInt8), ∃ l, rd k size (wh k size d ++ m) = some (l, m) ∧ l.length ≤ 2 ^ d ∧ l.length ≤ 2 ^ k
  | 0, size, d, m => ⟨[(size : Int)], rfl, by simpa using Nat.one_le_two_pow, by simp⟩
  | k + 1, size, d, m => by
    have h1 : 1 ≤ 2 ^ (k + 1) := Nat.one_le_two_pow
    have h2 : 1 ≤ 2 ^ d := Nat.one_le_two_pow
    cases hm : may (k + 1) size with
    | false => exact ⟨[(size : Int)], by simp [rd, wh, hm], by simpa using h2, by simpa using h1⟩
    | true =>
      by_cases hd : d = 0
      · subst hd
        exact ⟨[(size : Int)], by simp [rd, wh, hm], by simp, by simpa using h1⟩
      · obtain ⟨e, rfl⟩ : ∃ e, d = e + 1 := ⟨d - 1, by omega⟩
        obtain ⟨a, ha, na, ka⟩ := wh_rd k (size / 2) e (wh k (size / 2) e ++ m)
        obtain ⟨b, hb, nb, kb⟩ := wh_rd k (size / 2) e m
        refine ⟨a ++ b, ?_, ?_, ?_⟩
        · rw [wh, if_pos hm, if_neg (by omega), Nat.add_sub_cancel, List.cons_append, List.append_assoc, rd, if_pos hm]
          simp [ha, hb]
        · rw [List.length_append, Nat.pow_succ]; omega
        · rw [List.length_append, Nat.pow_succ]; omega
theorem wh_leaves (size d : Nat) : ∃ l, leavesOf size (wh 4 size d) = some l ∧ l.length ≤ 2 ^ d ∧ l.length ≤ 16 := by
  obtain ⟨l, h1, h2, h3⟩ := wh_rd 4 size d []
  rw [List.append_nil] at h1
  exact ⟨l, leavesOf_some.2 h1, h2, h3⟩

/-- The ways of a tree's leaves: one for each, behind the way at hand; how long each is. -/
theorem pth_like : ∀ (k size : Nat) (s : List UInt8) (l : List Int) (r p : List UInt8), rd k size s = some (l, r) →
    ∃ ws, pth k size s p = (ws, r) ∧ ws.length = l.length ∧ ∀ i (h1 : i < ws.length) (h2 : i < l.length), ∃ q, ws[i] = p ++ q ∧ q.length ≤ k ∧ l[i] * 2 ^ q.length = size
  | 0, size, s, l, r, p, h => by
    simp only [rd, Option.some.injEq, Prod.mk.injEq] at h
    obtain ⟨rfl, rfl⟩ := h
    refine ⟨[p], rfl, rfl, fun i h1 h2 => ⟨[], ?_, by simp, ?_⟩⟩ <;> simp at h2 <;> subst h2 <;> simp
  | k + 1, size, s, l, r, p, h => by
    unfold rd at h
    split at h
    · rename_i hm
      obtain ⟨_, hs0, hs32⟩ := may_of hm
      split at h
      · cases h
      · rename_i c t
        split at h
        · rename_i hc
          simp only [Option.some.injEq, Prod.mk.injEq] at h
          obtain ⟨rfl, rfl⟩ := h
          refine ⟨[p], by rw [pth, if_pos hm]; simp [hc], rfl, fun i h1 h2 => ⟨[], ?_, by simp, ?_⟩⟩ <;> simp at h2 <;> subst h2 <;> simp
        · rename_i hc
          split at h
          · split at h
            · cases h
            · rename_i a r1 e1
              split at h
              · cases h
              · rename_i b r2 e2
                simp only [Option.some.injEq, Prod.mk.injEq] at h
                obtain ⟨rfl, rfl⟩ := h
                obtain ⟨x, x1, x2, x3⟩ := pth_like k _ _ _ _ (p ++ [48]) e1
                obtain ⟨y, y1, y2, y3⟩ := pth_like k _ _ _ _ (p ++ [49]) e2
                refine ⟨x ++ y, by rw [pth, if_pos hm]; simp [hc, x1, y1], by rw [List.length_append, List.length_append, x2, y2], fun i h1 h2 => ?_⟩
                by_cases hi : i < a.length
                · obtain ⟨q, hq, hl, hs⟩ := x3 i (by omega) hi
                  refine ⟨48 :: q, ?_, by simpa using hl, ?_⟩
                  · rw [List.getElem_append_left (by omega), hq, List.append_assoc]; rfl
                  · rw [List.getElem_append_left hi, List.length_cons, Int.pow_succ, ← Int.mul_assoc, hs]; omega
                · rw [List.length_append] at h2
                  obtain ⟨q, hq, hl, hs⟩ := y3 (i - a.length) (by omega) (by omega)
                  refine ⟨49 :: q, ?_, by simpa using hl, ?_⟩
                  · rw [List.getElem_append_right (by omega)]
                    simp only [x2, hq, List.append_assoc]; rfl
                  · rw [List.getElem_append_right (by omega), List.length_cons, Int.pow_succ, ← Int.mul_assoc, hs]; omega
          · cases h
    · rename_i hm
      simp only [Option.some.injEq, Prod.mk.injEq] at h
      obtain ⟨rfl, rfl⟩ := h
      refine ⟨[p], by unfold pth; rw [if_neg hm], rfl, fun i h1 h2 => ⟨[], ?_, by simp, ?_⟩⟩ <;> simp at h2 <;> subst h2 <;> simp
end Go.Proofs.TreM
