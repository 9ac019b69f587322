import Derived.Test.YtbbcemgcanclnaaReader5
namespace Go.Proofs.Ytbbcemgcanclnaa
open Go.RowKit Go.Proofs Go.Proofs.PipeM Go.Proofs.PipeA

/-- The document's reader. -/
structure MR where
  bits : List Bool
  all : Int
  fail : Int

def MR.val (m : MR) : Value := .agg #[.string (str m.bits), .int .i64 m.all, .int .i64 m.fail]
def MR.give (m : MR) (e : Int) : MR := if m.fail = 0 then ⟨m.bits, m.all, e⟩ else m

theorem below2 (w : World) (o1 o2 : Obj) : Below w.heap.size w ((w.alloc o1).alloc o2) := ((Below.refl _ _).alloc (Nat.le_refl _) _).alloc (by simp) _

set_option maxHeartbeats 400000 in
theorem mGive (m : MR) (e : Int) (w : World) :
    Calls Try.prog 36 #[m.val, .int .i64 e] w fun r w' => r = .returned (m.give e).val ∧ Below w.heap.size w w' := by
  obtain ⟨l, all, fail⟩ := m
  obtain ⟨s, hs⟩ : ∃ s, s = str l := ⟨_, rfl⟩
  by_cases hf : fail = 0
  · subst hf
    have HV : Hid ((MR.give ⟨l, all, 0⟩ e).val = .agg #[.string s, .int .i64 all, .int .i64 e]) := by rw [hs]; rfl
    show Calls Try.prog 36 #[.agg #[.string (str l), .int .i64 all, .int .i64 0], .int .i64 e] w _
    rw [← hs]
    clear hs
    go_enter Try.func36, Try.ntmps36
    go_wp2
    refine bodyPost_ret (v := .agg #[.string s, .int .i64 all, .int .i64 e]) (by simp [results, Try.results36, go_sem]) rfl ?_
    exact ⟨by rw [HV.out], below2 _ _ _⟩
  · have t1 : (fail == 0) = false := beq_eq_false_iff_ne.2 hf
    have HV : Hid ((MR.give ⟨l, all, fail⟩ e).val = .agg #[.string s, .int .i64 all, .int .i64 fail]) := by show _ = _; unfold MR.give; rw [if_neg hf, hs]; rfl
    show Calls Try.prog 36 #[.agg #[.string (str l), .int .i64 all, .int .i64 fail], .int .i64 e] w _
    rw [← hs]
    clear hs hf
    go_enter Try.func36, Try.ntmps36
    go_wp2
    refine bodyPost_ret (v := .agg #[.string s, .int .i64 all, .int .i64 fail]) (by simp [results, Try.results36, go_sem]) rfl ?_
    exact ⟨by rw [HV.out], below2 _ _ _⟩

/-- Cells and marks of the two blocks that such a call lays first. -/
theorem two_cells {w w1 : World} {v0 v1 v2 u0 u1 u2 : Value} {t : TypeId} (hb : Below ((w.alloc (.cells #[v0, v1, v2] t)).alloc (.cells #[u0, u1, u2] t)).heap.size ((w.alloc (.cells #[v0, v1, v2] t)).alloc (.cells #[u0, u1, u2] t)) w1) :
    (w1.cell? ⟨w.heap.size, 0, none⟩ = some v0 ∧ w1.cell? ⟨w.heap.size, 1, none⟩ = some v1 ∧ w1.cell? ⟨w.heap.size, 2, none⟩ = some v2) ∧
    (w1.cell? ⟨w.heap.size + 1, 0, none⟩ = some u0 ∧ w1.cell? ⟨w.heap.size + 1, 1, none⟩ = some u1 ∧ w1.cell? ⟨w.heap.size + 1, 2, none⟩ = some u2) ∧
    (w1.frozen? ⟨w.heap.size, 0, none⟩ = false ∧ w1.frozen? ⟨w.heap.size, 1, none⟩ = false ∧ w1.frozen? ⟨w.heap.size, 2, none⟩ = false) ∧
    (w1.frozen? ⟨w.heap.size + 1, 0, none⟩ = false ∧ w1.frozen? ⟨w.heap.size + 1, 1, none⟩ = false ∧ w1.frozen? ⟨w.heap.size + 1, 2, none⟩ = false) := by
  refine ⟨⟨?_, ?_, ?_⟩, ⟨?_, ?_, ?_⟩, ⟨?_, ?_, ?_⟩, ⟨?_, ?_, ?_⟩⟩
  all_goals first
    | (rw [hb.cell (by simp; try omega)]; simp)
    | (rw [hb.frozen (by simp; try omega)]; simp)

/-- Take, of the document's reader. -/
def MR.take (m : MR) (n : Int) : MR × Nat :=
  if n < 0 ∨ 48 < n then (m.give 1, 0)
  else if (m.bits.length : Int) < n then (m.give 3, 0)
  else if m.fail ≠ 0 then (m, 0)
  else (⟨m.bits.drop n.toNat, m.all, m.fail⟩, num (m.bits.take n.toNat))

/-- A reader, and a number. -/
def MRes (m : MR) (v : Int) (w : World) (r : Ending) (w' : World) : Prop := r = .returned (.tuple #[m.val, .int .i64 v]) ∧ Below w.heap.size w w'

theorem below_set3 {w w1 : World} (hb : Below w.heap.size w w1) (b : Nat) (hB : w.heap.size ≤ b) (v0 v1 v2 : Value) :
    Below w.heap.size w (((w1.setCell ⟨b, 0, none⟩ v0).setCell ⟨b, 1, none⟩ v1).setCell ⟨b, 2, none⟩ v2) :=
  ((hb.setCell (p := ⟨b, 0, none⟩) hB v0).setCell (p := ⟨b, 1, none⟩) hB v1).setCell (p := ⟨b, 2, none⟩) hB v2

theorem set3_cells {w : World} {b : Nat} {u0 u1 u2 : Value} (h0 : w.cell? ⟨b, 0, none⟩ = some u0) (h1 : w.cell? ⟨b, 1, none⟩ = some u1) (h2 : w.cell? ⟨b, 2, none⟩ = some u2) (v0 v1 v2 : Value) :
    (((w.setCell ⟨b, 0, none⟩ v0).setCell ⟨b, 1, none⟩ v1).setCell ⟨b, 2, none⟩ v2).cell? ⟨b, 0, none⟩ = some v0 ∧
    (((w.setCell ⟨b, 0, none⟩ v0).setCell ⟨b, 1, none⟩ v1).setCell ⟨b, 2, none⟩ v2).cell? ⟨b, 1, none⟩ = some v1 ∧
    (((w.setCell ⟨b, 0, none⟩ v0).setCell ⟨b, 1, none⟩ v1).setCell ⟨b, 2, none⟩ v2).cell? ⟨b, 2, none⟩ = some v2 := by
  have k0 : (w.setCell ⟨b, 0, none⟩ v0).cell? ⟨b, 0, none⟩ = some v0 := World.cell?_setCell_same _ _ _ h0
  have k1 : (w.setCell ⟨b, 0, none⟩ v0).cell? ⟨b, 1, none⟩ = some u1 := by simp [World.cell?_setCell_other, h1]
  have k2 : (w.setCell ⟨b, 0, none⟩ v0).cell? ⟨b, 2, none⟩ = some u2 := by simp [World.cell?_setCell_other, h2]
  have m0 : ((w.setCell ⟨b, 0, none⟩ v0).setCell ⟨b, 1, none⟩ v1).cell? ⟨b, 0, none⟩ = some v0 := by simp [World.cell?_setCell_other, k0]
  have m1 : ((w.setCell ⟨b, 0, none⟩ v0).setCell ⟨b, 1, none⟩ v1).cell? ⟨b, 1, none⟩ = some v1 := World.cell?_setCell_same _ _ _ k1
  have m2 : ((w.setCell ⟨b, 0, none⟩ v0).setCell ⟨b, 1, none⟩ v1).cell? ⟨b, 2, none⟩ = some u2 := by simp [World.cell?_setCell_other, k2]
  refine ⟨?_, ?_, World.cell?_setCell_same _ _ _ m2⟩
  · simpa [World.cell?_setCell_other] using m0
  · simpa [World.cell?_setCell_other] using m1

set_option maxHeartbeats 800000 in
theorem mTake_bad (m : MR) (n : Int) (w : World) (hn : n < 0 ∨ 48 < n) :
    Calls Try.prog 34 #[m.val, .int .i64 n] w (MRes (m.take n).1 (m.take n).2 w) := by
  have HV : Hid (m.take n = (m.give 1, 0)) := by show _ = _; unfold MR.take; rw [if_pos hn]
  rw [HV.out]
  have t : decide (n < 0) = true ∨ (decide (n < 0) = false ∧ decide (48 < n) = true) := by
    by_cases h : n < 0
    · exact Or.inl (decide_eq_true h)
    · exact Or.inr ⟨decide_eq_false h, decide_eq_true (by omega)⟩
  clear hn HV
  obtain ⟨l, all, fail⟩ := m
  have HG := fun W => Lib.hid (mGive ⟨l, all, fail⟩ 1 W)
  obtain ⟨⟨l', all', fail'⟩, hm'⟩ : ∃ m', m' = MR.give ⟨l, all, fail⟩ 1 := ⟨_, rfl⟩
  rw [← hm'] at HG ⊢
  clear hm'
  simp only [MR.val] at HG
  show Calls Try.prog 34 #[.agg #[.string (str l), .int .i64 all, .int .i64 fail], .int .i64 n] w _
  obtain ⟨s, hs⟩ : ∃ s, s = str l := ⟨_, rfl⟩
  obtain ⟨s', hs'⟩ : ∃ s', s' = str l' := ⟨_, rfl⟩
  rw [← hs] at HG ⊢
  rw [← hs'] at HG
  have HS' := Lib.hid hs'
  clear hs hs'
  rcases t with t1 | ⟨t1, t2⟩
  all_goals
    go_enter Try.func34, Try.ntmps34
    go_wp2_with fail
    refine (HG _).out.mono ?_
    rintro e w1 ⟨rfl, hb1⟩
    obtain ⟨_, ⟨u0, u1, u2⟩, _, ⟨f0, f1, f2⟩⟩ := two_cells hb1
    have HB : Hid (Below w.heap.size w w1) := (below2 w _ _).trans (hb1.mono (by simp; omega))
    clear hb1
    go_wp2
    obtain ⟨q0, q1, q2⟩ := set3_cells u0 u1 u2 (.string s') (.int .i64 all') (.int .i64 fail')
    refine bodyPost_ret (v := .tuple #[.agg #[.string s', .int .i64 all', .int .i64 fail'], .int .i64 0]) (by simp [results, Try.results34, go_sem, q0, q1, q2]) rfl ?_
    exact ⟨by rw [HS'.out]; rfl, below_set3 HB.out _ (by omega) _ _ _⟩

theorem give_fail (m : MR) (e : Int) (he : e ≠ 0) : (m.give e).fail ≠ 0 := by
  unfold MR.give
  split
  · exact he
  · assumption

set_option maxHeartbeats 800000 in
theorem mTake_few (m : MR) (n : Nat) (w : World) (hn : n ≤ 48) (hl : m.bits.length < n) :
    Calls Try.prog 34 #[m.val, .int .i64 n] w (MRes (m.give 3) 0 w) := by
  have t1 : decide ((n : Int) < 0) = false := decide_eq_false (by omega)
  have t2 : decide ((48 : Int) < (n : Int)) = false := decide_eq_false (by omega)
  have hf := give_fail m 3 (by decide)
  obtain ⟨l, all, fail⟩ := m
  have HG := fun W => Lib.hid (mGive ⟨l, all, fail⟩ 3 W)
  obtain ⟨⟨l', all', fail'⟩, hm'⟩ : ∃ m', m' = MR.give ⟨l, all, fail⟩ 3 := ⟨_, rfl⟩
  rw [← hm'] at HG hf ⊢
  clear hm'
  simp only [MR.val] at HG
  simp only at hf hl
  show Calls Try.prog 34 #[.agg #[.string (str l), .int .i64 all, .int .i64 fail], .int .i64 n] w _
  have hsz := str_size l
  obtain ⟨s, hs⟩ : ∃ s, s = str l := ⟨_, rfl⟩
  obtain ⟨s', hs'⟩ : ∃ s', s' = str l' := ⟨_, rfl⟩
  rw [← hs] at HG hsz ⊢
  rw [← hs'] at HG
  have HS' := Lib.hid hs'
  have t3 : ((s.size : Int) < (n : Int)) := by omega
  have t4 : (fail' != 0) = true := by rw [bne_iff_ne]; exact hf
  clear hs hs' hsz hf
  go_enter Try.func34, Try.ntmps34
  go_wp2_with fail
  refine (HG _).out.mono ?_
  rintro e w1 ⟨rfl, hb1⟩
  obtain ⟨⟨v0, v1, v2⟩, ⟨u0, u1, u2⟩, ⟨f0, f1, f2⟩, ⟨f3, f4, f5⟩⟩ := two_cells hb1
  have HB : Hid (Below w.heap.size w w1) := (below2 w _ _).trans (hb1.mono (by simp; omega))
  have hs1 : w.heap.size + 2 ≤ w1.heap.size := by have := hb1.size; simpa using this
  clear hb1
  obtain ⟨p0, p1, p2⟩ := set3_cells v0 v1 v2 (.string s') (.int .i64 all') (.int .i64 fail')
  have r0 : ((((w1.setCell ⟨w.heap.size, 0, none⟩ (.string s')).setCell ⟨w.heap.size, 1, none⟩ (.int .i64 all')).setCell ⟨w.heap.size, 2, none⟩ (.int .i64 fail'))).cell? ⟨w.heap.size + 1, 0, none⟩ = some (.string ⟨#[]⟩) := by simp [World.cell?_setCell_other, u0]
  have r1 : ((((w1.setCell ⟨w.heap.size, 0, none⟩ (.string s')).setCell ⟨w.heap.size, 1, none⟩ (.int .i64 all')).setCell ⟨w.heap.size, 2, none⟩ (.int .i64 fail'))).cell? ⟨w.heap.size + 1, 1, none⟩ = some (.int .i64 0) := by simp [World.cell?_setCell_other, u1]
  have r2 : ((((w1.setCell ⟨w.heap.size, 0, none⟩ (.string s')).setCell ⟨w.heap.size, 1, none⟩ (.int .i64 all')).setCell ⟨w.heap.size, 2, none⟩ (.int .i64 fail'))).cell? ⟨w.heap.size + 1, 2, none⟩ = some (.int .i64 0) := by simp [World.cell?_setCell_other, u2]
  go_wp2
  obtain ⟨q0, q1, q2⟩ := set3_cells r0 r1 r2 (.string s') (.int .i64 all') (.int .i64 fail')
  refine bodyPost_ret (v := .tuple #[.agg #[.string s', .int .i64 all', .int .i64 fail'], .int .i64 0]) (by simp [results, Try.results34, go_sem, q0, q1, q2]) rfl ?_
  exact ⟨by rw [HS'.out]; rfl, below_set3 (below_set3 HB.out _ (by omega) _ _ _) _ (by omega) _ _ _⟩

set_option maxHeartbeats 800000 in
theorem mTake_failed (m : MR) (n : Nat) (w : World) (hn : n ≤ 48) (hl : n ≤ m.bits.length) (hb : m.bits.length ≤ 1000000000) (hf : m.fail ≠ 0) :
    Calls Try.prog 34 #[m.val, .int .i64 n] w (MRes m 0 w) := by
  have t1 : decide ((n : Int) < 0) = false := decide_eq_false (by omega)
  have t2 : decide ((48 : Int) < (n : Int)) = false := decide_eq_false (by omega)
  obtain ⟨l, all, fail⟩ := m
  simp only at hf hl hb
  show Calls Try.prog 34 #[.agg #[.string (str l), .int .i64 all, .int .i64 fail], .int .i64 n] w _
  have hsz := str_size l
  obtain ⟨s, hs⟩ : ∃ s, s = str l := ⟨_, rfl⟩
  rw [← hs] at hsz ⊢
  have HS := Lib.hid hs
  have t3 : ¬ ((s.size : Int) < (n : Int)) := by omega
  have t4 : (fail != 0) = true := by rw [bne_iff_ne]; exact hf
  clear hs hsz hf
  go_enter Try.func34, Try.ntmps34
  go_wp2
  refine bodyPost_ret (v := .tuple #[.agg #[.string s, .int .i64 all, .int .i64 fail], .int .i64 0]) (by simp [results, Try.results34, go_sem]) rfl ?_
  exact ⟨by rw [HS.out]; rfl, below2 _ _ _⟩

set_option maxHeartbeats 800000 in
theorem mTake_ok (l : List Bool) (all : Int) (n : Nat) (w : World) (hn : n ≤ 48) (hl : n ≤ l.length) (hb : l.length ≤ 1000000000) :
    Calls Try.prog 34 #[(MR.mk l all 0).val, .int .i64 n] w (MRes ⟨l.drop n, all, 0⟩ (num (l.take n)) w) := by
  have t1 : decide ((n : Int) < 0) = false := decide_eq_false (by omega)
  have t2 : decide ((48 : Int) < (n : Int)) = false := decide_eq_false (by omega)
  show Calls Try.prog 34 #[.agg #[.string (str l), .int .i64 all, .int .i64 0], .int .i64 n] w _
  have HN := fun W => Lib.hid (refNumber (l.take n) W (by rw [List.length_take]; omega))
  have e1 : (str l).extract 0 n = str (l.take n) := by rw [str_extract]; simp
  have e2 : (str l).extract n (str l).size = str (l.drop n) := by rw [str_extract, str_size, List.take_of_length_le]; simp
  have hsz := str_size l
  obtain ⟨s, hs⟩ : ∃ s, s = str l := ⟨_, rfl⟩
  rw [← hs] at hsz e1 e2 ⊢
  have E1 := Lib.hid e1
  have E2 := Lib.hid e2
  have t3 : ¬ ((s.size : Int) < (n : Int)) := by omega
  have t5 : n ≤ s.size := by omega
  have t6 : s.size ≤ 1000000000 := by omega
  clear hs hsz e1 e2
  go_enter Try.func34, Try.ntmps34
  go_wp2_with fail
  rw [E1.out]
  refine (HN _).out.mono ?_
  rintro e w1 ⟨rfl, rfl⟩
  go_wp2
  rw [E2.out]
  refine bodyPost_ret (v := .tuple #[.agg #[.string (str (l.drop n)), .int .i64 all, .int .i64 0], .int .i64 (num (l.take n))]) (by simp [results, Try.results34, go_sem]) rfl ?_
  exact ⟨rfl, below2 _ _ _⟩

theorem mTake (m : MR) (n : Int) (w : World) (hb : m.bits.length ≤ 1000000000) :
    Calls Try.prog 34 #[m.val, .int .i64 n] w (MRes (m.take n).1 (m.take n).2 w) := by
  by_cases hn : n < 0 ∨ 48 < n
  · exact mTake_bad m n w hn
  · obtain ⟨k, rfl⟩ := Int.eq_ofNat_of_zero_le (show 0 ≤ n by omega)
    by_cases hl : (m.bits.length : Int) < (k : Int)
    · have e : m.take (k : Int) = (m.give 3, 0) := by unfold MR.take; rw [if_neg hn, if_pos hl]
      rw [e]; exact mTake_few m k w (by omega) (by omega)
    · by_cases hf : m.fail ≠ 0
      · have e : m.take (k : Int) = (m, 0) := by unfold MR.take; rw [if_neg hn, if_neg hl, if_pos hf]
        rw [e]; exact mTake_failed m k w (by omega) (by omega) hb hf
      · have e : m.take (k : Int) = (⟨m.bits.drop k, m.all, m.fail⟩, num (m.bits.take k)) := by unfold MR.take; rw [if_neg hn, if_neg hl, if_neg hf, Int.toNat_natCast]
        rw [e]
        obtain ⟨l, all, fail⟩ := m
        have hf0 : fail = 0 := by simp at hf; exact hf
        subst hf0
        exact mTake_ok l all k w (by omega) (by simp only at hl; omega) hb
end Go.Proofs.Ytbbcemgcanclnaa
