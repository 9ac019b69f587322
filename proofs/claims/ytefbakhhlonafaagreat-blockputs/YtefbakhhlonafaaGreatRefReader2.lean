import Derived.Test.YtefbakhhlonafaaGreatReader5
import Derived.Lib.Strings

section
namespace Go.Proofs.YtefbakhhlonafaaGreat
open Go.RowKit Go.Proofs Go.Proofs.PipeM Go.Proofs.PipeA

/-- The document's reader. -/
structure MR where
  bits : List Bool
  all : Int
  fail : Int

def MR.val (m : MR) : Value := .agg #[.string (str m.bits), .int .i64 m.all, .int .i64 m.fail]
def MR.give (m : MR) (e : Int) : MR := if m.fail = 0 then ⟨m.bits, m.all, e⟩ else m

theorem below2 (w : World) (o1 o2 : Obj) : Below w.heap.size w ((w.alloc o1).alloc o2) := ((Below.refl _ _).alloc (Nat.le_refl _) _).alloc (by simp) _

set_option maxHeartbeats 400000 in
theorem mGive (m : MR) (e : Int) (w : World) :
    Calls Tryz.prog 50 #[m.val, .int .i64 e] w fun r w' => r = .returned (m.give e).val ∧ Below w.heap.size w w' := by
  obtain ⟨l, all, fail⟩ := m
  obtain ⟨s, hs⟩ : ∃ s, s = str l := ⟨_, rfl⟩
  by_cases hf : fail = 0
  · subst hf
    have HV : Hid ((MR.give ⟨l, all, 0⟩ e).val = .agg #[.string s, .int .i64 all, .int .i64 e]) := by rw [hs]; rfl
    show Calls Tryz.prog 50 #[.agg #[.string (str l), .int .i64 all, .int .i64 0], .int .i64 e] w _
    rw [← hs]
    clear hs
    go_enter Tryz.func50, Tryz.ntmps50
    go_wp2
    refine bodyPost_ret (v := .agg #[.string s, .int .i64 all, .int .i64 e]) (by simp [results, Tryz.results50, go_sem]) rfl ?_
    exact ⟨by rw [HV.out], below2 _ _ _⟩
  · have t1 : (fail == 0) = false := beq_eq_false_iff_ne.2 hf
    have HV : Hid ((MR.give ⟨l, all, fail⟩ e).val = .agg #[.string s, .int .i64 all, .int .i64 fail]) := by show _ = _; unfold MR.give; rw [if_neg hf, hs]; rfl
    show Calls Tryz.prog 50 #[.agg #[.string (str l), .int .i64 all, .int .i64 fail], .int .i64 e] w _
    rw [← hs]
    clear hs hf
    go_enter Tryz.func50, Tryz.ntmps50
    go_wp2
    refine bodyPost_ret (v := .agg #[.string s, .int .i64 all, .int .i64 fail]) (by simp [results, Tryz.results50, go_sem]) rfl ?_
    exact ⟨by rw [HV.out], below2 _ _ _⟩

/-- Cells and marks of the two blocks that such a call lays first. -/
theorem two_cells {w w1 : World} {v0 v1 v2 u0 u1 u2 : Value} {t : TypeId} (hb : Below ((w.alloc (.cells #[v0, v1, v2] t)).alloc (.cells #[u0, u1, u2] t)).heap.size ((w.alloc (.cells #[v0, v1, v2] t)).alloc (.cells #[u0, u1, u2] t)) w1) :
    (w1.cell? ⟨w.heap.size, 0, none⟩ = some v0 ∧ w1.cell? ⟨w.heap.size, 1, none⟩ = some v1 ∧ w1.cell? ⟨w.heap.size, 2, none⟩ = some v2) ∧
    (w1.cell? ⟨w.heap.size + 1, 0, none⟩ = some u0 ∧ w1.cell? ⟨w.heap.size + 1, 1, none⟩ = some u1 ∧ w1.cell? ⟨w.heap.size + 1, 2, none⟩ = some u2) ∧
    (w1.frozen? ⟨w.heap.size, 0, none⟩ = false ∧ w1.frozen? ⟨w.heap.size, 1, none⟩ = false ∧ w1.frozen? ⟨w.heap.size, 2, none⟩ = false) ∧
    (w1.frozen? ⟨w.heap.size + 1, 0, none⟩ = false ∧ w1.frozen? ⟨w.heap.size + 1, 1, none⟩ = false ∧ w1.frozen? ⟨w.heap.size + 1, 2, none⟩ = false) := by
  refine ⟨⟨?_, ?_, ?_⟩, ⟨?_, ?_, ?_⟩, ⟨?_, ?_, ?_⟩, ⟨?_, ?_, ?_⟩⟩
  all_goals first
    | (rw [hb.cell (by simp; try omega)]; simp)
    | (rw [hb.frozen (by simp; try omega)]; simp)

/-- Take, of the document's reader. -/
def MR.take (m : MR) (n : Int) : MR × Nat :=
  if n < 0 ∨ 48 < n then (m.give 1, 0)
  else if (m.bits.length : Int) < n then (m.give 3, 0)
  else if m.fail ≠ 0 then (m, 0)
  else (⟨m.bits.drop n.toNat, m.all, m.fail⟩, num (m.bits.take n.toNat))

/-- A reader, and a number. -/
def MRes (m : MR) (v : Int) (w : World) (r : Ending) (w' : World) : Prop := r = .returned (.tuple #[m.val, .int .i64 v]) ∧ Below w.heap.size w w'

theorem below_set3 {w w1 : World} (hb : Below w.heap.size w w1) (b : Nat) (hB : w.heap.size ≤ b) (v0 v1 v2 : Value) :
    Below w.heap.size w (((w1.setCell ⟨b, 0, none⟩ v0).setCell ⟨b, 1, none⟩ v1).setCell ⟨b, 2, none⟩ v2) :=
  ((hb.setCell (p := ⟨b, 0, none⟩) hB v0).setCell (p := ⟨b, 1, none⟩) hB v1).setCell (p := ⟨b, 2, none⟩) hB v2

theorem set3_cells {w : World} {b : Nat} {u0 u1 u2 : Value} (h0 : w.cell? ⟨b, 0, none⟩ = some u0) (h1 : w.cell? ⟨b, 1, none⟩ = some u1) (h2 : w.cell? ⟨b, 2, none⟩ = some u2) (v0 v1 v2 : Value) :
    (((w.setCell ⟨b, 0, none⟩ v0).setCell ⟨b, 1, none⟩ v1).setCell ⟨b, 2, none⟩ v2).cell? ⟨b, 0, none⟩ = some v0 ∧
    (((w.setCell ⟨b, 0, none⟩ v0).setCell ⟨b, 1, none⟩ v1).setCell ⟨b, 2, none⟩ v2).cell? ⟨b, 1, none⟩ = some v1 ∧
    (((w.setCell ⟨b, 0, none⟩ v0).setCell ⟨b, 1, none⟩ v1).setCell ⟨b, 2, none⟩ v2).cell? ⟨b, 2, none⟩ = some v2 := by
  have k0 : (w.setCell ⟨b, 0, none⟩ v0).cell? ⟨b, 0, none⟩ = some v0 := World.cell?_setCell_same _ _ _ h0
  have k1 : (w.setCell ⟨b, 0, none⟩ v0).cell? ⟨b, 1, none⟩ = some u1 := by simp [World.cell?_setCell_other, h1]
  have k2 : (w.setCell ⟨b, 0, none⟩ v0).cell? ⟨b, 2, none⟩ = some u2 := by simp [World.cell?_setCell_other, h2]
  have m0 : ((w.setCell ⟨b, 0, none⟩ v0).setCell ⟨b, 1, none⟩ v1).cell? ⟨b, 0, none⟩ = some v0 := by simp [World.cell?_setCell_other, k0]
  have m1 : ((w.setCell ⟨b, 0, none⟩ v0).setCell ⟨b, 1, none⟩ v1).cell? ⟨b, 1, none⟩ = some v1 := World.cell?_setCell_same _ _ _ k1
  have m2 : ((w.setCell ⟨b, 0, none⟩ v0).setCell ⟨b, 1, none⟩ v1).cell? ⟨b, 2, none⟩ = some u2 := by simp [World.cell?_setCell_other, k2]
  refine ⟨?_, ?_, World.cell?_setCell_same _ _ _ m2⟩
  · simpa [World.cell?_setCell_other] using m0
  · simpa [World.cell?_setCell_other] using m1

set_option maxHeartbeats 800000 in
theorem mTake_bad (m : MR) (n : Int) (w : World) (hn : n < 0 ∨ 48 < n) :
    Calls Tryz.prog 51 #[m.val, .int .i64 n] w (MRes (m.take n).1 (m.take n).2 w) := by
  have HV : Hid (m.take n = (m.give 1, 0)) := by show _ = _; unfold MR.take; rw [if_pos hn]
  rw [HV.out]
  have t : decide (n < 0) = true ∨ (decide (n < 0) = false ∧ decide (48 < n) = true) := by
    by_cases h : n < 0
    · exact Or.inl (decide_eq_true h)
    · exact Or.inr ⟨decide_eq_false h, decide_eq_true (by omega)⟩
  clear hn HV
  obtain ⟨l, all, fail⟩ := m
  have HG := fun W => Lib.hid (mGive ⟨l, all, fail⟩ 1 W)
  obtain ⟨⟨l', all', fail'⟩, hm'⟩ : ∃ m', m' = MR.give ⟨l, all, fail⟩ 1 := ⟨_, rfl⟩
  rw [← hm'] at HG ⊢
  clear hm'
  simp only [MR.val] at HG
  show Calls Tryz.prog 51 #[.agg #[.string (str l), .int .i64 all, .int .i64 fail], .int .i64 n] w _
  obtain ⟨s, hs⟩ : ∃ s, s = str l := ⟨_, rfl⟩
  obtain ⟨s', hs'⟩ : ∃ s', s' = str l' := ⟨_, rfl⟩
  rw [← hs] at HG ⊢
  rw [← hs'] at HG
  have HS' := Lib.hid hs'
  clear hs hs'
  rcases t with t1 | ⟨t1, t2⟩
  all_goals
    go_enter Tryz.func51, Tryz.ntmps51
    go_wp2_with fail
    refine (HG _).out.mono ?_
    rintro e w1 ⟨rfl, hb1⟩
    obtain ⟨_, ⟨u0, u1, u2⟩, _, ⟨f0, f1, f2⟩⟩ := two_cells hb1
    have HB : Hid (Below w.heap.size w w1) := (below2 w _ _).trans (hb1.mono (by simp; omega))
    clear hb1
    go_wp2
    obtain ⟨q0, q1, q2⟩ := set3_cells u0 u1 u2 (.string s') (.int .i64 all') (.int .i64 fail')
    refine bodyPost_ret (v := .tuple #[.agg #[.string s', .int .i64 all', .int .i64 fail'], .int .i64 0]) (by simp [results, Tryz.results51, go_sem, q0, q1, q2]) rfl ?_
    exact ⟨by rw [HS'.out]; rfl, below_set3 HB.out _ (by omega) _ _ _⟩

theorem give_fail (m : MR) (e : Int) (he : e ≠ 0) : (m.give e).fail ≠ 0 := by
  unfold MR.give
  split
  · exact he
  · assumption

set_option maxHeartbeats 800000 in
theorem mTake_few (m : MR) (n : Nat) (w : World) (hn : n ≤ 48) (hl : m.bits.length < n) :
    Calls Tryz.prog 51 #[m.val, .int .i64 n] w (MRes (m.give 3) 0 w) := by
  have t1 : decide ((n : Int) < 0) = false := decide_eq_false (by omega)
  have t2 : decide ((48 : Int) < (n : Int)) = false := decide_eq_false (by omega)
  have hf := give_fail m 3 (by decide)
  obtain ⟨l, all, fail⟩ := m
  have HG := fun W => Lib.hid (mGive ⟨l, all, fail⟩ 3 W)
  obtain ⟨⟨l', all', fail'⟩, hm'⟩ : ∃ m', m' = MR.give ⟨l, all, fail⟩ 3 := ⟨_, rfl⟩
  rw [← hm'] at HG hf ⊢
  clear hm'
  simp only [MR.val] at HG
  simp only at hf hl
  show Calls Tryz.prog 51 #[.agg #[.string (str l), .int .i64 all, .int .i64 fail], .int .i64 n] w _
  have hsz := str_size l
  obtain ⟨s, hs⟩ : ∃ s, s = str l := ⟨_, rfl⟩
  obtain ⟨s', hs'⟩ : ∃ s', s' = str l' := ⟨_, rfl⟩
  rw [← hs] at HG hsz ⊢
  rw [← hs'] at HG
  have HS' := Lib.hid hs'
  have t3 : ((s.size : Int) < (n : Int)) := by omega
  have t4 : (fail' != 0) = true := by rw [bne_iff_ne]; exact hf
  clear hs hs' hsz hf
  go_enter Tryz.func51, Tryz.ntmps51
  go_wp2_with fail
  refine (HG _).out.mono ?_
  rintro e w1 ⟨rfl, hb1⟩
  obtain ⟨⟨v0, v1, v2⟩, ⟨u0, u1, u2⟩, ⟨f0, f1, f2⟩, ⟨f3, f4, f5⟩⟩ := two_cells hb1
  have HB : Hid (Below w.heap.size w w1) := (below2 w _ _).trans (hb1.mono (by simp; omega))
  have hs1 : w.heap.size + 2 ≤ w1.heap.size := by have := hb1.size; simpa using this
  clear hb1
  obtain ⟨p0, p1, p2⟩ := set3_cells v0 v1 v2 (.string s') (.int .i64 all') (.int .i64 fail')
  have r0 : ((((w1.setCell ⟨w.heap.size, 0, none⟩ (.string s')).setCell ⟨w.heap.size, 1, none⟩ (.int .i64 all')).setCell ⟨w.heap.size, 2, none⟩ (.int .i64 fail'))).cell? ⟨w.heap.size + 1, 0, none⟩ = some (.string ⟨#[]⟩) := by simp [World.cell?_setCell_other, u0]
  have r1 : ((((w1.setCell ⟨w.heap.size, 0, none⟩ (.string s')).setCell ⟨w.heap.size, 1, none⟩ (.int .i64 all')).setCell ⟨w.heap.size, 2, none⟩ (.int .i64 fail'))).cell? ⟨w.heap.size + 1, 1, none⟩ = some (.int .i64 0) := by simp [World.cell?_setCell_other, u1]
  have r2 : ((((w1.setCell ⟨w.heap.size, 0, none⟩ (.string s')).setCell ⟨w.heap.size, 1, none⟩ (.int .i64 all')).setCell ⟨w.heap.size, 2, none⟩ (.int .i64 fail'))).cell? ⟨w.heap.size + 1, 2, none⟩ = some (.int .i64 0) := by simp [World.cell?_setCell_other, u2]
  go_wp2
  obtain ⟨q0, q1, q2⟩ := set3_cells r0 r1 r2 (.string s') (.int .i64 all') (.int .i64 fail')
  refine bodyPost_ret (v := .tuple #[.agg #[.string s', .int .i64 all', .int .i64 fail'], .int .i64 0]) (by simp [results, Tryz.results51, go_sem, q0, q1, q2]) rfl ?_
  exact ⟨by rw [HS'.out]; rfl, below_set3 (below_set3 HB.out _ (by omega) _ _ _) _ (by omega) _ _ _⟩

set_option maxHeartbeats 800000 in
theorem mTake_failed (m : MR) (n : Nat) (w : World) (hn : n ≤ 48) (hl : n ≤ m.bits.length) (hb : m.bits.length ≤ 1000000000) (hf : m.fail ≠ 0) :
    Calls Tryz.prog 51 #[m.val, .int .i64 n] w (MRes m 0 w) := by
  have t1 : decide ((n : Int) < 0) = false := decide_eq_false (by omega)
  have t2 : decide ((48 : Int) < (n : Int)) = false := decide_eq_false (by omega)
  obtain ⟨l, all, fail⟩ := m
  simp only at hf hl hb
  show Calls Tryz.prog 51 #[.agg #[.string (str l), .int .i64 all, .int .i64 fail], .int .i64 n] w _
  have hsz := str_size l
  obtain ⟨s, hs⟩ : ∃ s, s = str l := ⟨_, rfl⟩
  rw [← hs] at hsz ⊢
  have HS := Lib.hid hs
  have t3 : ¬ ((s.size : Int) < (n : Int)) := by omega
  have t4 : (fail != 0) = true := by rw [bne_iff_ne]; exact hf
  clear hs hsz hf
  go_enter Tryz.func51, Tryz.ntmps51
  go_wp2
  refine bodyPost_ret (v := .tuple #[.agg #[.string s, .int .i64 all, .int .i64 fail], .int .i64 0]) (by simp [results, Tryz.results51, go_sem]) rfl ?_
  exact ⟨by rw [HS.out]; rfl, below2 _ _ _⟩

set_option maxHeartbeats 800000 in
theorem mTake_ok (l : List Bool) (all : Int) (n : Nat) (w : World) (hn : n ≤ 48) (hl : n ≤ l.length) (hb : l.length ≤ 1000000000) :
    Calls Tryz.prog 51 #[(MR.mk l all 0).val, .int .i64 n] w (MRes ⟨l.drop n, all, 0⟩ (num (l.take n)) w) := by
  have t1 : decide ((n : Int) < 0) = false := decide_eq_false (by omega)
  have t2 : decide ((48 : Int) < (n : Int)) = false := decide_eq_false (by omega)
  show Calls Tryz.prog 51 #[.agg #[.string (str l), .int .i64 all, .int .i64 0], .int .i64 n] w _
  have HN := fun W => Lib.hid (refNumber (l.take n) W (by rw [List.length_take]; omega))
  have e1 : (str l).extract 0 n = str (l.take n) := by rw [str_extract]; simp
  have e2 : (str l).extract n (str l).size = str (l.drop n) := by rw [str_extract, str_size, List.take_of_length_le]; simp
  have hsz := str_size l
  obtain ⟨s, hs⟩ : ∃ s, s = str l := ⟨_, rfl⟩
  rw [← hs] at hsz e1 e2 ⊢
  have E1 := Lib.hid e1
  have E2 := Lib.hid e2
  have t3 : ¬ ((s.size : Int) < (n : Int)) := by omega
  have t5 : n ≤ s.size := by omega
  have t6 : s.size ≤ 1000000000 := by omega
  clear hs hsz e1 e2
  go_enter Tryz.func51, Tryz.ntmps51
  go_wp2_with fail
  rw [E1.out]
  refine (HN _).out.mono ?_
  rintro e w1 ⟨rfl, rfl⟩
  go_wp2
  rw [E2.out]
  refine bodyPost_ret (v := .tuple #[.agg #[.string (str (l.drop n)), .int .i64 all, .int .i64 0], .int .i64 (num (l.take n))]) (by simp [results, Tryz.results51, go_sem]) rfl ?_
  exact ⟨rfl, below2 _ _ _⟩

theorem mTake (m : MR) (n : Int) (w : World) (hb : m.bits.length ≤ 1000000000) :
    Calls Tryz.prog 51 #[m.val, .int .i64 n] w (MRes (m.take n).1 (m.take n).2 w) := by
  by_cases hn : n < 0 ∨ 48 < n
  · exact mTake_bad m n w hn
  · obtain ⟨k, rfl⟩ := Int.eq_ofNat_of_zero_le (show 0 ≤ n by omega)
    by_cases hl : (m.bits.length : Int) < (k : Int)
    · have e : m.take (k : Int) = (m.give 3, 0) := by unfold MR.take; rw [if_neg hn, if_pos hl]
      rw [e]; exact mTake_few m k w (by omega) (by omega)
    · by_cases hf : m.fail ≠ 0
      · have e : m.take (k : Int) = (m, 0) := by unfold MR.take; rw [if_neg hn, if_neg hl, if_pos hf]
        rw [e]; exact mTake_failed m k w (by omega) (by omega) hb hf
      · have e : m.take (k : Int) = (⟨m.bits.drop k, m.all, m.fail⟩, num (m.bits.take k)) := by unfold MR.take; rw [if_neg hn, if_neg hl, if_neg hf, Int.toNat_natCast]
        rw [e]
        obtain ⟨l, all, fail⟩ := m
        have hf0 : fail = 0 := by simp at hf; exact hf
        subst hf0
        exact mTake_ok l all k w (by omega) (by simp only at hl; omega) hb
end Go.Proofs.YtefbakhhlonafaaGreat
end

section
namespace Go.Proofs.YtefbakhhlonafaaGreat
open Go.RowKit Go.Proofs Go.Proofs.PipeM Go.Proofs.PipeA

/-- Zeros of the document's reader that hasn't failed. -/
def rgo (most all : Int) : List Bool → Nat → MR × Nat
  | [], _ => (⟨[], all, 3⟩, 0)
  | true :: r, c => (⟨r, all, 0⟩, c)
  | false :: r, c => if most ≤ c then (⟨r, all, 1⟩, 0) else rgo most all r (c + 1)
def MR.run (m : MR) (most : Int) : MR × Nat := if m.fail ≠ 0 then (m, 0) else rgo most m.all m.bits 0

/-- Two blocks of three cells, one behind the other. -/
structure Box2 (w : World) (b : Nat) (v0 v1 v2 u0 u1 u2 : Value) : Prop where
  lt : b + 1 < w.heap.size
  c0 : w.cell? ⟨b, 0, none⟩ = some v0
  c1 : w.cell? ⟨b, 1, none⟩ = some v1
  c2 : w.cell? ⟨b, 2, none⟩ = some v2
  d0 : w.cell? ⟨b + 1, 0, none⟩ = some u0
  d1 : w.cell? ⟨b + 1, 1, none⟩ = some u1
  d2 : w.cell? ⟨b + 1, 2, none⟩ = some u2
  f0 : w.frozen? ⟨b, 0, none⟩ = false
  f1 : w.frozen? ⟨b, 1, none⟩ = false
  f2 : w.frozen? ⟨b, 2, none⟩ = false
  g0 : w.frozen? ⟨b + 1, 0, none⟩ = false
  g1 : w.frozen? ⟨b + 1, 1, none⟩ = false
  g2 : w.frozen? ⟨b + 1, 2, none⟩ = false

theorem Box2.of (w : World) (v0 v1 v2 u0 u1 u2 : Value) (t : TypeId) : Box2 ((w.alloc (.cells #[v0, v1, v2] t)).alloc (.cells #[u0, u1, u2] t)) w.heap.size v0 v1 v2 u0 u1 u2 := by
  obtain ⟨⟨h0, h1, h2⟩, ⟨h3, h4, h5⟩, ⟨h6, h7, h8⟩, h9, h10, h11⟩ := two_cells (w := w) (v0 := v0) (v1 := v1) (v2 := v2) (u0 := u0) (u1 := u1) (u2 := u2) (t := t) (Below.refl _ _)
  exact ⟨by simp, h0, h1, h2, h3, h4, h5, h6, h7, h8, h9, h10, h11⟩

theorem Box2.set {w : World} {b : Nat} {v0 v1 v2 u0 u1 u2 : Value} (h : Box2 w b v0 v1 v2 u0 u1 u2) (v : Value) : Box2 (w.setCell ⟨b, 0, none⟩ v) b v v1 v2 u0 u1 u2 := by
  refine ⟨by simpa using h.lt, World.cell?_setCell_same _ _ _ h.c0, ?_, ?_, ?_, ?_, ?_, ?_, ?_, ?_, ?_, ?_, ?_⟩
  all_goals simp [World.cell?_setCell_other, h.c1, h.c2, h.d0, h.d1, h.d2, h.f0, h.f1, h.f2, h.g0, h.g1, h.g2]

theorem Box2.below {w w' : World} {b : Nat} {v0 v1 v2 u0 u1 u2 : Value} (h : Box2 w b v0 v1 v2 u0 u1 u2) (hb : Below w.heap.size w w') : Box2 w' b v0 v1 v2 u0 u1 u2 := by
  have h1 := h.lt
  have h2 : b < w.heap.size := by omega
  exact ⟨by have := hb.size; omega, (hb.cell (p := ⟨b, 0, none⟩) h2).trans h.c0, (hb.cell (p := ⟨b, 1, none⟩) h2).trans h.c1, (hb.cell (p := ⟨b, 2, none⟩) h2).trans h.c2,
    (hb.cell (p := ⟨b + 1, 0, none⟩) h1).trans h.d0, (hb.cell (p := ⟨b + 1, 1, none⟩) h1).trans h.d1, (hb.cell (p := ⟨b + 1, 2, none⟩) h1).trans h.d2,
    (hb.frozen (p := ⟨b, 0, none⟩) h2).trans h.f0, (hb.frozen (p := ⟨b, 1, none⟩) h2).trans h.f1, (hb.frozen (p := ⟨b, 2, none⟩) h2).trans h.f2,
    (hb.frozen (p := ⟨b + 1, 0, none⟩) h1).trans h.g0, (hb.frozen (p := ⟨b + 1, 1, none⟩) h1).trans h.g1, (hb.frozen (p := ⟨b + 1, 2, none⟩) h1).trans h.g2⟩

set_option maxHeartbeats 800000 in
theorem mRun_failed (m : MR) (most : Int) (w : World) (hf : m.fail ≠ 0) :
    Calls Tryz.prog 100 #[m.val, .int .i64 most] w (MRes m 0 w) := by
  obtain ⟨l, all, fail⟩ := m
  simp only at hf
  show Calls Tryz.prog 100 #[.agg #[.string (str l), .int .i64 all, .int .i64 fail], .int .i64 most] w _
  obtain ⟨s, hs⟩ : ∃ s, s = str l := ⟨_, rfl⟩
  rw [← hs]
  have HS := Lib.hid hs
  have t4 : (fail == 0) = false := beq_eq_false_iff_ne.2 hf
  clear hs hf
  go_enter Tryz.func100, Tryz.ntmps100
  go_wp2
  have HB := Lib.hid (Box2.of w (.string s) (.int .i64 all) (.int .i64 fail) (.string ⟨#[]⟩) (.int .i64 0) (.int .i64 0) 50)
  have HBEL := Lib.hid (below2 w (.cells #[.string s, .int .i64 all, .int .i64 fail] 50) (.cells #[.string ⟨#[]⟩, .int .i64 0, .int .i64 0] 50))
  go_loopg [6] 0 (fun gk c wr => c = .int .i64 0 ∧ wr = ((w.alloc (.cells #[.string s, .int .i64 all, .int .i64 fail] 50)).alloc (.cells #[.string ⟨#[]⟩, .int .i64 0, .int .i64 0] 50)))
  case atStart => exact ⟨rfl, rfl⟩
  case round =>
    obtain ⟨rfl, rfl⟩ := hrel
    go_wp2
    refine bodyPost_ret (v := .tuple #[.agg #[.string s, .int .i64 all, .int .i64 fail], .int .i64 0]) (by simp [results, Tryz.results100, go_sem]) rfl ?_
    exact ⟨by rw [HS.out]; rfl, below2 _ _ _⟩

theorem str_head (b : Bool) (r : List Bool) (h : 0 < (str (b :: r)).size) : (str (b :: r))[0] = chr b := str_get (b :: r) 0 (by simp) h

set_option maxHeartbeats 1600000 in
theorem mRun_ok (l0 : List Bool) (all most : Int) (w : World) (hl : l0.length ≤ 1000000000) :
    Calls Tryz.prog 100 #[(MR.mk l0 all 0).val, .int .i64 most] w (MRes (rgo most all l0 0).1 (rgo most all l0 0).2 w) := by
  show Calls Tryz.prog 100 #[.agg #[.string (str l0), .int .i64 all, .int .i64 0], .int .i64 most] w _
  have HB := Lib.hid (Box2.of w (.string (str l0)) (.int .i64 all) (.int .i64 0) (.string ⟨#[]⟩) (.int .i64 0) (.int .i64 0) 50)
  have HBEL := Lib.hid (below2 w (.cells #[.string (str l0), .int .i64 all, .int .i64 0] 50) (.cells #[.string ⟨#[]⟩, .int .i64 0, .int .i64 0] 50))
  obtain ⟨s0, hs0⟩ : ∃ s0, s0 = str l0 := ⟨_, rfl⟩
  rw [← hs0] at HB HBEL ⊢
  have HS0 := Lib.hid hs0
  clear hs0
  go_enter Tryz.func100, Tryz.ntmps100
  go_wp2
  generalize hW : (w.alloc (.cells #[.string s0, .int .i64 all, .int .i64 0] 50)).alloc (.cells #[.string ⟨#[]⟩, .int .i64 0, .int .i64 0] 50) = W0 at HB HBEL ⊢
  generalize hB : w.heap.size = B at HB ⊢
  have HBB : Hid (w.heap.size ≤ B) := by rw [hB]; exact Nat.le_refl _
  clear hW
  have HB1 : Hid (Box2 W0 B (.string (str l0)) (.int .i64 all) (.int .i64 0) (.string ⟨#[]⟩) (.int .i64 0) (.int .i64 0)) := by rw [← HS0.out]; exact HB.out
  clear HB
  go_loopg [6, 7] l0.length (fun gk c one wr => ∃ (k : Nat) (l : List Bool), gk = l.length ∧ k + l.length ≤ l0.length ∧ c = .int .i64 k ∧ Hid (Box2 wr B (.string (str l)) (.int .i64 all) (.int .i64 0) (.string ⟨#[]⟩) (.int .i64 0) (.int .i64 0)) ∧ Hid (Below w.heap.size w wr) ∧ Hid (rgo most all l0 0 = rgo most all l k))
  case atStart => exact ⟨0, l0, rfl, by omega, rfl, HB1, HBEL, rfl⟩
  case round =>
    obtain ⟨k, l, hgk, hkl, rfl, HX, HW, HZ⟩ := hrel
    have HGK := Lib.hid hgk
    clear hgk HB1 HBEL hB
    have c0 := HX.out.c0
    have c1 := HX.out.c1
    have c2 := HX.out.c2
    cases l with
    | nil =>
      have e0 : str [] = ⟨#[]⟩ := rfl
      rw [e0] at c0
      have HG := fun W => Lib.hid (mGive ⟨[], all, 0⟩ 3 W)
      simp only [MR.val, e0] at HG
      go_wp2_with fail
      refine (HG _).out.mono ?_
      rintro e w1 ⟨rfl, hb1⟩
      have HX1 := HX.out.below hb1
      have d0 := HX1.d0
      have d1 := HX1.d1
      have d2 := HX1.d2
      have g0 := HX1.g0
      have g1 := HX1.g1
      have g2 := HX1.g2
      have HW1 : Hid (Below w.heap.size w w1) := HW.out.trans (hb1.mono HW.out.size)
      have HGV : Hid ((MR.give ⟨[], all, 0⟩ 3).val = .agg #[.string ⟨#[]⟩, .int .i64 all, .int .i64 3]) := rfl
      clear hb1 HX1
      rw [show Value.agg #[.string (str (MR.give ⟨[], all, 0⟩ 3).bits), .int .i64 (MR.give ⟨[], all, 0⟩ 3).all, .int .i64 (MR.give ⟨[], all, 0⟩ 3).fail] = .agg #[.string ⟨#[]⟩, .int .i64 all, .int .i64 3] from rfl]
      go_wp2
      obtain ⟨q0, q1, q2⟩ := set3_cells d0 d1 d2 (.string ⟨#[]⟩) (.int .i64 all) (.int .i64 3)
      refine bodyPost_ret (v := .tuple #[.agg #[.string ⟨#[]⟩, .int .i64 all, .int .i64 3], .int .i64 0]) (by simp [results, Tryz.results100, go_sem, q0, q1, q2]) rfl ?_
      exact ⟨by rw [HZ.out]; rfl, below_set3 HW1.out _ (by have := HBB.out; omega) _ _ _⟩
    | cons b r =>
      have hsz : (str (b :: r)).size = r.length + 1 := by rw [str_size]; simp
      have hx : (str (b :: r)).extract 1 (str (b :: r)).size = str r := by rw [str_extract, str_size, List.take_of_length_le]; rfl; simp
      have hg : ∀ h : 0 < (str (b :: r)).size, (str (b :: r))[0] = chr b := fun h => str_head b r h
      obtain ⟨s, hs⟩ : ∃ s, s = str (b :: r) := ⟨_, rfl⟩
      rw [← hs] at c0 hsz hx hg
      have hp : 0 < s.size := by omega
      have hne : s.toList.isEmpty = false := by
        rw [Lib.toList_data, List.isEmpty_eq_false_iff]
        intro h
        have : s.data.size = 0 := by rw [← Array.length_toList, h]; rfl
        have : s.size = 0 := this
        omega
      have HX1 : Hid (s.extract 1 s.size = str r) := hx
      have HG := Lib.hid (hg hp)
      have hp2 : s.size ≤ 1000000001 := by simp at hkl; omega
      have hkr : k + 1 + r.length ≤ l0.length := by simp at hkl; omega
      have f0 := HX.out.f0
      have d0 := HX.out.d0
      have d1 := HX.out.d1
      have d2 := HX.out.d2
      have g0 := HX.out.g0
      have g1 := HX.out.g1
      have g2 := HX.out.g2
      clear hsz hx hg hs hkl
      cases b with
      | true =>
        have t1 : ((s[0].toNat : Int) == 49) = true := by rw [HG.out]; rfl
        have hbx := HX.out.set (.string (s.extract 1 s.size))
        have HBX := Lib.hid hbx
        clear hbx
        go_wp2
        obtain ⟨q0, q1, q2⟩ := set3_cells HBX.out.d0 HBX.out.d1 HBX.out.d2 (.string (s.extract 1 s.size)) (.int .i64 all) (.int .i64 0)
        refine bodyPost_ret (v := .tuple #[.agg #[.string (s.extract 1 s.size), .int .i64 all, .int .i64 0], .int .i64 k]) (by simp [results, Tryz.results100, go_sem, q0, q1, q2]) rfl ?_
        refine ⟨?_, below_set3 (HW.out.setCell (p := ⟨B, 0, none⟩) HBB.out _) _ (by have := HBB.out; omega) _ _ _⟩
        rw [HZ.out, HX1.out]; rfl
      | false =>
        have t1 : ((s[0].toNat : Int) == 49) = false := by rw [HG.out]; rfl
        have hbx := HX.out.set (.string (s.extract 1 s.size))
        rw [HX1.out] at hbx
        have HBX := Lib.hid hbx
        clear hbx
        by_cases hmo : most ≤ (k : Int)
        · have HZ2 : Hid (rgo most all l0 0 = (⟨r, all, 1⟩, 0)) := by rw [HZ.out]; show _ = _; rw [rgo, if_pos hmo]
          have HGV := fun W => Lib.hid (mGive ⟨r, all, 0⟩ 1 W)
          have e1 : (MR.give ⟨r, all, 0⟩ 1) = ⟨r, all, 1⟩ := rfl
          rw [e1] at HGV
          simp only [MR.val] at HGV
          have HWS : Hid (Below w.heap.size w (wr.setCell ⟨B, 0, none⟩ (.string (str r)))) := HW.out.setCell (p := ⟨B, 0, none⟩) HBB.out _
          go_wp2_with fail
          rw [HX1.out]
          generalize wr.setCell ⟨B, 0, none⟩ (.string (str r)) = W1 at HBX HWS ⊢
          refine (HGV _).out.mono ?_
          rintro e w2 ⟨rfl, hb2⟩
          have HX2 := HBX.out.below hb2
          have HW2 : Hid (Below w.heap.size w w2) := HWS.out.trans (hb2.mono HWS.out.size)
          have d0' := HX2.d0
          have d1' := HX2.d1
          have d2' := HX2.d2
          have g0' := HX2.g0
          have g1' := HX2.g1
          have g2' := HX2.g2
          clear hb2 HX2 c0 c1 c2 f0 d0 d1 d2 g0 g1 g2
          go_wp2
          obtain ⟨q0, q1, q2⟩ := set3_cells d0' d1' d2' (.string (str r)) (.int .i64 all) (.int .i64 1)
          refine bodyPost_ret (v := .tuple #[.agg #[.string (str r), .int .i64 all, .int .i64 1], .int .i64 0]) (by simp [results, Tryz.results100, go_sem, q0, q1, q2]) rfl ?_
          refine ⟨?_, below_set3 HW2.out _ (by have := HBB.out; omega) _ _ _⟩
          rw [HZ2.out]; rfl
        · have HZ2 : Hid (rgo most all l0 0 = rgo most all r (k + 1)) := by rw [HZ.out]; show _ = _; rw [rgo, if_neg hmo]
          have HWS : Hid (Below w.heap.size w (wr.setCell ⟨B, 0, none⟩ (.string (str r)))) := HW.out.setCell (p := ⟨B, 0, none⟩) HBB.out _
          go_wp2
          rw [HX1.out]
          go_roundg r.length
          case rel => exact ⟨k + 1, r, rfl, hkr, by go_num, HBX, HWS, HZ2⟩
          case measure => have := HGK.out; simp at this; omega

theorem mRun (m : MR) (most : Int) (w : World) (hl : m.bits.length ≤ 1000000000) :
    Calls Tryz.prog 100 #[m.val, .int .i64 most] w (MRes (m.run most).1 (m.run most).2 w) := by
  by_cases hf : m.fail ≠ 0
  · have e : m.run most = (m, 0) := by unfold MR.run; rw [if_pos hf]
    rw [e]; exact mRun_failed m most w hf
  · have e : m.run most = rgo most m.all m.bits 0 := by unfold MR.run; rw [if_neg hf]
    rw [e]
    obtain ⟨l, all, fail⟩ := m
    have hf0 : fail = 0 := by simp at hf; exact hf
    subst hf0
    exact mRun_ok l all most w hl

set_option maxHeartbeats 800000 in
theorem mOpen (ao : Option Addr) (cap : Nat) (zs : List Nat) (w : World) (hl : zs.length ≤ 100000) (hz : ∀ z ∈ zs, z < 256) (hd : BytesAt w ao zs) :
    Calls Tryz.prog 21 #[.slice ao zs.length cap] w fun r w' => r = .returned (MR.mk (bitsOf zs) ((8 * zs.length : Nat) : Int) 0).val ∧ Below w.heap.size w w' := by
  have hk : Below w.heap.size w (w.alloc (.cells #[.string ⟨#[]⟩, .int .i64 0, .int .i64 0] 50)) := (Below.refl _ _).alloc (Nat.le_refl _) _
  have HB := Lib.hid (refBits ao cap zs _ hl hz (hd.below hk))
  have HK := Lib.hid hk
  have hsz : (str (bitsOf zs)).size = 8 * zs.length := by rw [str_size, bitsOf_length]
  obtain ⟨s, hs⟩ : ∃ s, s = str (bitsOf zs) := ⟨_, rfl⟩
  rw [← hs] at HB hsz
  have HS := Lib.hid hs
  have HSZ := Lib.hid hsz
  have hs1 : s.size ≤ 800000 := by omega
  clear hs hsz hd hz hk
  go_enter Tryz.func21, Tryz.ntmps21
  go_wp2_with fail
  refine HB.out.mono ?_
  rintro e w1 ⟨rfl, hb1⟩
  have d0 : w1.cell? ⟨w.heap.size, 0, none⟩ = some (.string ⟨#[]⟩) := by rw [hb1.cell (p := ⟨w.heap.size, 0, none⟩) (by simp)]; simp
  have d1 : w1.cell? ⟨w.heap.size, 1, none⟩ = some (.int .i64 0) := by rw [hb1.cell (p := ⟨w.heap.size, 1, none⟩) (by simp)]; simp
  have d2 : w1.cell? ⟨w.heap.size, 2, none⟩ = some (.int .i64 0) := by rw [hb1.cell (p := ⟨w.heap.size, 2, none⟩) (by simp)]; simp
  have g0 : w1.frozen? ⟨w.heap.size, 0, none⟩ = false := by rw [hb1.frozen (p := ⟨w.heap.size, 0, none⟩) (by simp)]; simp
  have g1 : w1.frozen? ⟨w.heap.size, 1, none⟩ = false := by rw [hb1.frozen (p := ⟨w.heap.size, 1, none⟩) (by simp)]; simp
  have g2 : w1.frozen? ⟨w.heap.size, 2, none⟩ = false := by rw [hb1.frozen (p := ⟨w.heap.size, 2, none⟩) (by simp)]; simp
  have HW1 : Hid (Below w.heap.size w w1) := HK.out.trans (hb1.mono HK.out.size)
  clear hb1
  go_wp2
  obtain ⟨q0, q1, q2⟩ := set3_cells d0 d1 d2 (.string s) (.int .i64 s.size) (.int .i64 0)
  refine bodyPost_ret (v := .agg #[.string s, .int .i64 s.size, .int .i64 0]) (by simp [results, Tryz.results21, go_sem, q0, q1, q2]) rfl ?_
  refine ⟨?_, below_set3 HW1.out _ (Nat.le_refl _) _ _ _⟩
  rw [HSZ.out, HS.out]; rfl
end Go.Proofs.YtefbakhhlonafaaGreat
end
