import Derived.Test.YtefbakhhlonafaaGreatGxLagC5
import Derived.Test.YtefbakhhlonafaaGreatBlkB
import Derived.Test.YtefbakhhlonafaaGreatFxLatC1
import Derived.Test.YtefbakhhlonafaaGreatRef2

section
namespace Go.Proofs.YtefbakhhlonafaaGreat.Gx
open Go.RowKit Go.Proofs Go.Proofs.PipeA Go.Proofs.LagM
set_option maxRecDepth 100000

set_option maxHeartbeats 800000 in
theorem rGood (a g : Int) (w : World) : Calls Tryz.prog 56 #[.int .i64 a, .int .i64 g] w fun e w' => e = .returned (.bool (goodT a g)) ∧ w = w' := by
  rcases goodT_cases a g with ⟨h1, h2, h3⟩ | ⟨h0, h1, h3⟩ | ⟨h0, h1, h2, h3⟩ | ⟨h0, h1, h2, h4, h3⟩ | ⟨h0, h1, h2, h4, h5, h3⟩ | ⟨h0, h1, h2, h4, h5, h3⟩
  · subst h1 h2
    rw [h3]
    clear h3
    go_enter Tryz.func56, Tryz.ntmps56
    go_wp2
    go_ret
    exact ⟨rfl, rfl⟩
  all_goals
    rw [h3]
    clear h3
    by_cases e1 : a = 0
    · first
      | (exfalso; omega)
      | (subst e1
         have t1 : (g == (0 : Int)) = false := by rw [beq_eq_false_iff_ne]; omega
         clear h0
         go_enter Tryz.func56, Tryz.ntmps56
         go_wp2
         go_ret
         exact ⟨rfl, rfl⟩)
    · have t1 : (a == (0 : Int)) = false := by rw [beq_eq_false_iff_ne]; exact e1
      clear h0 e1
      go_enter Tryz.func56, Tryz.ntmps56
      go_wp2
      go_ret
      first
      | exact ⟨rfl, rfl⟩
      | exact ⟨by rw [decide_eq_false (by omega)]; rfl, rfl⟩
      | exact ⟨by rw [decide_eq_true (by omega)]; rfl, rfl⟩

/-- A sixteenth, down. -/
theorem down_cases (n : Int) : (Int.tmod n 16 < 0 ∧ Int.tdiv n 16 - 1 = n / 16) ∨ (0 ≤ Int.tmod n 16 ∧ Int.tdiv n 16 = n / 16) := by
  by_cases h : 0 ≤ n
  · rw [Int.tdiv_eq_ediv_of_nonneg h, Int.tmod_eq_emod_of_nonneg h]
    omega
  · obtain ⟨m, rfl⟩ : ∃ m, n = -m := ⟨-n, by omega⟩
    rw [Int.neg_tdiv, Int.neg_tmod, Int.tdiv_eq_ediv_of_nonneg (by omega), Int.tmod_eq_emod_of_nonneg (by omega)]
    omega

set_option maxHeartbeats 800000 in
theorem rDown (n : Int) (w : World) (hn : -100000000000000 ≤ n ∧ n ≤ 100000000000000) : Calls Tryz.prog 59 #[.int .i64 n] w fun e w' => e = .returned (.int .i64 (n / 16)) ∧ w = w' := by
  have hd := down_cases n
  have HD := Lib.hid hd
  clear hd
  go_enter Tryz.func59, Tryz.ntmps59
  go_wp2
  · rename_i h
    go_ret
    refine ⟨?_, rfl⟩
    show Ending.returned (Value.int .i64 (wrap64 (n.tdiv 16 - 1))) = _
    have := HD.out
    rw [IntWalk.wrap64_in _ (by omega), show n.tdiv 16 - 1 = n / 16 by omega]
  · rename_i h
    go_ret
    refine ⟨?_, rfl⟩
    show Ending.returned (Value.int .i64 (n.tdiv 16)) = _
    have := HD.out
    rw [show n.tdiv 16 = n / 16 by omega]

theorem inB_cases2 (n : Int) : (decide (1099511627776 < n) = true ∧ inB n = false) ∨ (decide (1099511627776 < n) = false ∧ decide (n < -1099511627776) = true ∧ inB n = false) ∨ (decide (1099511627776 < n) = false ∧ decide (n < -1099511627776) = false ∧ inB n = true) := by
  unfold inB
  by_cases h1 : 1099511627776 < n
  · exact .inl ⟨decide_eq_true h1, decide_eq_false (by omega)⟩
  · by_cases h2 : n < -1099511627776
    · exact .inr (.inl ⟨decide_eq_false h1, decide_eq_true h2, decide_eq_false (by omega)⟩)
    · exact .inr (.inr ⟨decide_eq_false h1, decide_eq_false h2, decide_eq_true (by omega)⟩)

end Go.Proofs.YtefbakhhlonafaaGreat.Gx
end

section
namespace Go.Proofs.YtefbakhhlonafaaGreat
open Go.RowKit Go.Proofs Go.Proofs.PipeM Go.Proofs.PipeA Go.Proofs.BlkM
open Go.Proofs.LatM (goodL)
open Go.Proofs.LagM (goodT)
set_option maxRecDepth 100000

/-- A block as a value. -/
def blkV (b : Blk) (ia ra da : Option Addr) (ic rc dc : Nat) : Value :=
  .agg #[.int .i64 b.kind, .int .i64 b.value, .int .i64 b.shift, .slice ia b.index.length ic, .int .i64 b.lag, .int .i64 b.gain, .int .i64 b.part, .slice ra b.rice.length rc, .slice da b.data.length dc]
/-- A block that came in. -/
structure BlkIn (w : World) (b : Blk) (ia ra da : Option Addr) (ic rc dc : Nat) : Prop where
  i : IntsAt w ia b.index
  r : IntsAt w ra b.rice
  d : IntsAt w da b.data
  il : b.index.length ≤ 1000000
  rl : b.rice.length ≤ 1000000
  dl : b.data.length ≤ 1000000
  ic : b.index.length ≤ ic
  rc : b.rice.length ≤ rc
  dc : b.data.length ≤ dc
theorem BlkIn.below {w w' : World} {b : Blk} {ia ra da : Option Addr} {ic rc dc : Nat} (h : BlkIn w b ia ra da ic rc dc) (hb : Below w.heap.size w w') : BlkIn w' b ia ra da ic rc dc :=
  ⟨h.i.below hb, h.r.below hb, h.d.below hb, h.il, h.rl, h.dl, h.ic, h.rc, h.dc⟩

set_option maxHeartbeats 800000 in
theorem rParts (b : Blk) (ia ra da : Option Addr) (ic rc dc : Nat) (w : World) :
    Calls Tryz.prog 40 #[blkV b ia ra da ic rc dc] w fun e w' => e = .returned (.agg #[.int .i64 b.part, .slice ra b.rice.length rc]) ∧ Below w.heap.size w w' := by
  have HB := fun o1 o2 => Lib.hid (below2 w o1 o2)
  obtain ⟨kind, value, shift, index, lag, gain, part, rice, data⟩ := b
  unfold blkV
  dsimp only
  generalize index.length = il
  generalize rice.length = rl
  generalize data.length = dl
  go_enter Tryz.func40, Tryz.ntmps40
  go_wp2
  refine bodyPost_ret (v := .agg #[.int .i64 part, .slice ra rl rc]) (by simp [results, Tryz.results40, go_sem]) rfl ?_
  exact ⟨rfl, (HB _ _).out⟩

theorem rForm_kind (b : Blk) (ia ra da : Option Addr) (ic rc dc : Nat) (n : Nat) (d : Int) (w : World) (h : wrongKind b = true) :
    Calls Tryz.prog 26 #[blkV b ia ra da ic rc dc, .int .i64 n, .int .i64 d] w fun e w' => e = .returned (.int .i64 (formB b n d)) ∧ Below w.heap.size w w' := by
  have HF : Hid (formB b n d = 16) := by show _ = _; unfold formB; rw [if_pos h]
  have HB := fun o => Lib.hid (box_below w o)
  obtain ⟨kind, value, shift, index, lag, gain, part, rice, data⟩ := b
  unfold blkV
  dsimp only
  generalize index.length = il
  generalize rice.length = rl
  generalize data.length = dl
  by_cases h1 : kind < 0
  · have t1 : decide (kind < 0) = true := decide_eq_true h1
    clear h h1
    go_enter Tryz.func26, Tryz.ntmps26
    go_wp2
    go_ret
    exact ⟨by rw [HF.out]; rfl, (HB _).out⟩
  · have t1 : decide (kind < 0) = false := decide_eq_false h1
    have t2 : decide (3 < kind) = true := by
      unfold wrongKind at h
      rw [Bool.or_eq_true] at h
      exact h.resolve_left (by rw [t1]; simp)
    clear h h1
    go_enter Tryz.func26, Tryz.ntmps26
    go_wp2
    go_ret
    exact ⟨by rw [HF.out]; rfl, (HB _).out⟩

set_option maxHeartbeats 3200000 in
theorem rForm_more (b : Blk) (ia ra da : Option Addr) (ic rc dc : Nat) (n : Nat) (d : Int) (w : World) (hil : b.index.length ≤ 1000000) (hrl : b.rice.length ≤ 1000000) (hk : 0 ≤ b.kind ∧ b.kind ≤ 3) (h : wrongMore b = true) :
    Calls Tryz.prog 26 #[blkV b ia ra da ic rc dc, .int .i64 n, .int .i64 d] w fun e w' => e = .returned (.int .i64 (formB b n d)) ∧ Below w.heap.size w w' := by
  have HF : Hid (formB b n d = 2) := by
    show _ = _
    have hw : wrongKind b = false := by unfold wrongKind; rw [decide_eq_false (by omega), decide_eq_false (by omega)]; rfl
    unfold formB; rw [hw, if_neg (by simp), if_pos h]
  have HB := fun o => Lib.hid (box_below w o)
  obtain ⟨kind, value, shift, index, lag, gain, part, rice, data⟩ := b
  unfold wrongMore at h
  unfold blkV
  dsimp only at *
  rw [Bool.and_eq_true] at h
  obtain ⟨h0, h⟩ := h
  have t0 : (kind != 2) = true := bne_iff_ne.2 (of_decide_eq_true h0)
  generalize index.length = il at *
  generalize rice.length = rl at *
  generalize data.length = dl at *
  clear h0
  by_cases c0 : shift = 0
  rotate_left
  · have u0 : (shift != 0) = true := bne_iff_ne.2 c0
    clear h c0
    go_enter Tryz.func26, Tryz.ntmps26
    go_wp2
    go_ret
    exact ⟨by rw [HF.out]; rfl, (HB _).out⟩
  have u0 : (shift != 0) = false := by rw [c0]; rfl
  by_cases c1 : il = 0
  rotate_left
  · have u1 : decide (0 < il) = true := decide_eq_true (by omega)
    clear h c0 c1
    go_enter Tryz.func26, Tryz.ntmps26
    go_wp2
    go_ret
    exact ⟨by rw [HF.out]; rfl, (HB _).out⟩
  have u1 : decide (0 < il) = false := decide_eq_false (by omega)
  by_cases c2 : lag = 0
  rotate_left
  · have u2 : (lag != 0) = true := bne_iff_ne.2 c2
    clear h c0 c1 c2
    go_enter Tryz.func26, Tryz.ntmps26
    go_wp2
    go_ret
    exact ⟨by rw [HF.out]; rfl, (HB _).out⟩
  have u2 : (lag != 0) = false := by rw [c2]; rfl
  by_cases c3 : gain = 0
  rotate_left
  · have u3 : (gain != 0) = true := bne_iff_ne.2 c3
    clear h c0 c1 c2 c3
    go_enter Tryz.func26, Tryz.ntmps26
    go_wp2
    go_ret
    exact ⟨by rw [HF.out]; rfl, (HB _).out⟩
  have u3 : (gain != 0) = false := by rw [c3]; rfl
  by_cases c4 : part = 0
  rotate_left
  · have u4 : (part != 0) = true := bne_iff_ne.2 c4
    clear h c0 c1 c2 c3 c4
    go_enter Tryz.func26, Tryz.ntmps26
    go_wp2
    go_ret
    exact ⟨by rw [HF.out]; rfl, (HB _).out⟩
  have u4 : (part != 0) = false := by rw [c4]; rfl
  by_cases c5 : rl = 0
  rotate_left
  · have u5 : decide (0 < rl) = true := decide_eq_true (by omega)
    clear h c0 c1 c2 c3 c4 c5
    go_enter Tryz.func26, Tryz.ntmps26
    go_wp2
    go_ret
    exact ⟨by rw [HF.out]; rfl, (HB _).out⟩
  have u5 : decide (0 < rl) = false := decide_eq_false (by omega)
  exact absurd h (by subst_vars; simp)

set_option maxHeartbeats 3200000 in
theorem rForm_few (K value : Int) (data : List Int) (ia ra da : Option Addr) (ic rc dc : Nat) (n : Nat) (d : Int) (w : World) (hdl : data.length ≤ 1000000) (hK : K = 0 ∨ K = 1 ∨ K = 3) :
    Calls Tryz.prog 26 #[blkV ⟨K, value, 0, [], 0, 0, 0, [], data⟩ ia ra da ic rc dc, .int .i64 n, .int .i64 d] w fun e w' => e = .returned (.int .i64 (formB ⟨K, value, 0, [], 0, 0, 0, [], data⟩ n d)) ∧ Below w.heap.size w w' := by
  have HB := fun o => Lib.hid (box_below w o)
  unfold blkV
  dsimp only [List.length_nil]
  have HFF : ∀ c, formB ⟨K, value, 0, [], 0, 0, 0, [], data⟩ n d = c → Hid (formB ⟨K, value, 0, [], 0, 0, 0, [], data⟩ n d = c) := fun _ h => h
  rcases hK with rfl | rfl | rfl
  · by_cases c1 : value = 0
    · have u1 : (value != 0) = false := by rw [c1]; rfl
      by_cases c2 : data.length = 0
      · have HF := HFF 0 (by simp [formB, wrongKind, wrongMore, wrongData, wrongNormal, c1, c2])
        have u2 : decide (0 < data.length) = false := decide_eq_false (by omega)
        generalize data.length = dl at *
        clear c1 c2 HFF
        go_enter Tryz.func26, Tryz.ntmps26
        go_wp2
        go_ret
        exact ⟨by rw [HF.out]; rfl, (HB _).out⟩
      · have HF := HFF 2 (by simp [formB, wrongKind, wrongMore, wrongData, c1]; rintro rfl; exact (c2 rfl).elim)
        have u2 : decide (0 < data.length) = true := decide_eq_true (by omega)
        generalize data.length = dl at *
        clear c1 c2 HFF
        go_enter Tryz.func26, Tryz.ntmps26
        go_wp2
        go_ret
        exact ⟨by rw [HF.out]; rfl, (HB _).out⟩
    · have u1 : (value != 0) = true := bne_iff_ne.2 c1
      have HF := HFF 2 (by simp [formB, wrongKind, wrongMore, wrongData, c1])
      generalize data.length = dl at *
      clear c1 HFF
      go_enter Tryz.func26, Tryz.ntmps26
      go_wp2
      go_ret
      exact ⟨by rw [HF.out]; rfl, (HB _).out⟩
  · by_cases c2 : data.length = 0
    · have HF := HFF 0 (by simp [formB, wrongKind, wrongMore, wrongData, wrongNormal, c2])
      have u2 : decide (0 < data.length) = false := decide_eq_false (by omega)
      generalize data.length = dl at *
      clear c2 HFF
      go_enter Tryz.func26, Tryz.ntmps26
      go_wp2
      go_ret
      exact ⟨by rw [HF.out]; rfl, (HB _).out⟩
    · have HF := HFF 2 (by simp [formB, wrongKind, wrongMore, wrongData]; rintro rfl; exact (c2 rfl).elim)
      have u2 : decide (0 < data.length) = true := decide_eq_true (by omega)
      generalize data.length = dl at *
      clear c2 HFF
      go_enter Tryz.func26, Tryz.ntmps26
      go_wp2
      go_ret
      exact ⟨by rw [HF.out]; rfl, (HB _).out⟩
  · by_cases c1 : value = 0
    · have u1 : (value != 0) = false := by rw [c1]; rfl
      by_cases c2 : (data.length : Int) = (n : Int)
      · have HF := HFF 0 (by simp [formB, wrongKind, wrongMore, wrongData, wrongNormal, c1, c2])
        have u2 : ((data.length : Int) != (n : Int)) = false := by rw [c2]; simp
        generalize data.length = dl at *
        clear c1 c2 HFF
        go_enter Tryz.func26, Tryz.ntmps26
        go_wp2
        go_ret
        exact ⟨by rw [HF.out]; rfl, (HB _).out⟩
      · have HF := HFF 2 (by simp [formB, wrongKind, wrongMore, wrongData, c1]; omega)
        have u2 : ((data.length : Int) != (n : Int)) = true := bne_iff_ne.2 c2
        generalize data.length = dl at *
        clear c1 c2 HFF
        go_enter Tryz.func26, Tryz.ntmps26
        go_wp2
        go_ret
        exact ⟨by rw [HF.out]; rfl, (HB _).out⟩
    · have u1 : (value != 0) = true := bne_iff_ne.2 c1
      have HF := HFF 2 (by simp [formB, wrongKind, wrongMore, wrongData, c1])
      generalize data.length = dl at *
      clear c1 HFF
      go_enter Tryz.func26, Tryz.ntmps26
      go_wp2
      go_ret
      exact ⟨by rw [HF.out]; rfl, (HB _).out⟩
end Go.Proofs.YtefbakhhlonafaaGreat
end

section
namespace Go.Proofs.YtefbakhhlonafaaGreat
open Go.RowKit Go.Proofs Go.Proofs.PipeM Go.Proofs.PipeA

/-- Rice's Take, of the document's reader. -/
def MR.riceA (t : MR × Nat) (q k : Nat) : MR × Int := if t.1.fail ≠ 0 then (t.1, 0) else (t.1, unfoldN (q * 2 ^ k + t.2))
def MR.riceB (t : MR × Nat) (k : Nat) : MR × Int :=
  if (if t.2 / 2 ^ k < 24 then t.1.give 2 else t.1).fail ≠ 0 then ((if t.2 / 2 ^ k < 24 then t.1.give 2 else t.1), 0) else ((if t.2 / 2 ^ k < 24 then t.1.give 2 else t.1), unfoldN t.2)
def MR.rice (m : MR) (k : Int) : MR × Int :=
  if k < 0 ∨ 24 < k then (m.give 1, 0)
  else if (m.run 24).2 < 24 then MR.riceA ((m.run 24).1.take k) (m.run 24).2 k.toNat
  else MR.riceB ((m.run 24).1.take 34) k.toNat

theorem Box2.set3 {w : World} {b : Nat} {v0 v1 v2 u0 u1 u2 : Value} (h : Box2 w b v0 v1 v2 u0 u1 u2) (x0 x1 x2 : Value) :
    Box2 (((w.setCell ⟨b, 0, none⟩ x0).setCell ⟨b, 1, none⟩ x1).setCell ⟨b, 2, none⟩ x2) b x0 x1 x2 u0 u1 u2 := by
  obtain ⟨q0, q1, q2⟩ := set3_cells h.c0 h.c1 h.c2 x0 x1 x2
  refine ⟨by simpa using h.lt, q0, q1, q2, ?_, ?_, ?_, ?_, ?_, ?_, ?_, ?_, ?_⟩
  all_goals simp [World.cell?_setCell_other, h.d0, h.d1, h.d2, h.f0, h.f1, h.f2, h.g0, h.g1, h.g2]

theorem unfold_odd (z : Nat) (h : z % 2 = 1) (hz : z < 4611686018427387904) : wrap64 (-((z : Int) + 1).tdiv 2) = unfoldN z := by
  unfold unfoldN
  rw [if_pos h, Int.tdiv_eq_ediv_of_nonneg (by omega), IntWalk.wrap64_in _ ⟨by omega, by omega⟩]
  omega

set_option maxHeartbeats 800000 in
theorem mRice_bad (m : MR) (k : Int) (w : World) (hk : k < 0 ∨ 24 < k) :
    Calls Tryz.prog 78 #[m.val, .int .i64 k] w (MRes (m.give 1) 0 w) := by
  have t : decide (k < 0) = true ∨ (decide (k < 0) = false ∧ decide (24 < k) = true) := by
    by_cases h : k < 0
    · exact Or.inl (decide_eq_true h)
    · exact Or.inr ⟨decide_eq_false h, decide_eq_true (by omega)⟩
  clear hk
  obtain ⟨l, all, fail⟩ := m
  have HG := fun W => Lib.hid (mGive ⟨l, all, fail⟩ 1 W)
  obtain ⟨⟨l', all', fail'⟩, hm'⟩ : ∃ m', m' = MR.give ⟨l, all, fail⟩ 1 := ⟨_, rfl⟩
  rw [← hm'] at HG ⊢
  clear hm'
  simp only [MR.val] at HG
  show Calls Tryz.prog 78 #[.agg #[.string (str l), .int .i64 all, .int .i64 fail], .int .i64 k] w _
  obtain ⟨s, hs⟩ : ∃ s, s = str l := ⟨_, rfl⟩
  obtain ⟨s', hs'⟩ : ∃ s', s' = str l' := ⟨_, rfl⟩
  rw [← hs] at HG ⊢
  rw [← hs'] at HG
  have HS' := Lib.hid hs'
  clear hs hs'
  rcases t with t1 | ⟨t1, t2⟩
  all_goals
    go_enter Tryz.func78, Tryz.ntmps78
    go_wp2_with fail
    refine (HG _).out.mono ?_
    rintro e w1 ⟨rfl, hb1⟩
    obtain ⟨_, ⟨u0, u1, u2⟩, _, ⟨f0, f1, f2⟩⟩ := two_cells hb1
    have HB : Hid (Below w.heap.size w w1) := (below2 w _ _).trans (hb1.mono (by simp; omega))
    clear hb1
    go_wp2
    obtain ⟨q0, q1, q2⟩ := set3_cells u0 u1 u2 (.string s') (.int .i64 all') (.int .i64 fail')
    refine bodyPost_ret (v := .tuple #[.agg #[.string s', .int .i64 all', .int .i64 fail'], .int .i64 0]) (by simp [results, Tryz.results78, go_sem, q0, q1, q2]) rfl ?_
    exact ⟨by rw [HS'.out]; rfl, below_set3 HB.out _ (by omega) _ _ _⟩

theorem rgo_len (most all : Int) (l : List Bool) (c : Nat) : (rgo most all l c).1.bits.length ≤ l.length := by
  induction l generalizing c with
  | nil => simp [rgo]
  | cons b r ih =>
    cases b
    · rw [rgo]
      split
      · simp
      · have := ih (c + 1); simp; omega
    · simp [rgo]
theorem run_len (m : MR) (most : Int) : (m.run most).1.bits.length ≤ m.bits.length := by
  unfold MR.run; split
  · exact Nat.le_refl _
  · exact rgo_len _ _ _ _
theorem take_len (m : MR) (n : Int) : (m.take n).1.bits.length ≤ m.bits.length := by
  unfold MR.take MR.give
  split
  · split <;> simp
  · split
    · split <;> simp
    · split
      · simp
      · simp
theorem mtake_lt (m : MR) (n : Int) : (m.take n).2 < 281474976710656 := by
  unfold MR.take
  split
  · simp
  · split
    · simp
    · split
      · simp
      · refine Nat.lt_of_lt_of_le (num_lt _) ?_
        have h : (m.bits.take n.toNat).length ≤ 48 := by rw [List.length_take]; omega
        exact Nat.le_trans (Nat.pow_le_pow_right (by decide) h) (by decide)

set_option maxRecDepth 100000 in
set_option maxHeartbeats 1600000 in
theorem mRice_good (m : MR) (k : Nat) (w : World) (hk : k ≤ 24) (hb : m.bits.length ≤ 1000000000) :
    Calls Tryz.prog 78 #[m.val, .int .i64 k] w (MRes (m.rice k).1 (m.rice k).2 w) := by
  have t1 : decide ((k : Int) < 0) = false := decide_eq_false (by omega)
  have t2 : decide ((24 : Int) < (k : Int)) = false := decide_eq_false (by omega)
  have HP := fun W => Lib.hid (refPower k W (by omega))
  have hrun := run_len m 24
  have hr : m.rice k = if (m.run 24).2 < 24 then MR.riceA ((m.run 24).1.take k) (m.run 24).2 k else MR.riceB ((m.run 24).1.take 34) k := by
    unfold MR.rice; rw [if_neg (by omega), Int.toNat_natCast]
  obtain ⟨p1, p2⟩ := pow24 k hk
  obtain ⟨l, all, fail⟩ := m
  have HRUN := fun W => Lib.hid (mRun ⟨l, all, fail⟩ 24 W hb)
  obtain ⟨⟨⟨l1, all1, fail1⟩, q⟩, hm1⟩ : ∃ t, t = MR.run ⟨l, all, fail⟩ 24 := ⟨_, rfl⟩
  rw [← hm1] at HRUN hr hrun
  simp only at hrun hb
  have HR := Lib.hid hr
  clear hm1 hr
  simp only [MR.val] at HRUN
  show Calls Tryz.prog 78 #[.agg #[.string (str l), .int .i64 all, .int .i64 fail], .int .i64 k] w _
  obtain ⟨s, hs⟩ : ∃ s, s = str l := ⟨_, rfl⟩
  obtain ⟨s1, hs1⟩ : ∃ s1, s1 = str l1 := ⟨_, rfl⟩
  rw [← hs] at HRUN ⊢
  have HV1 : Hid ((MR.mk l1 all1 fail1).val = .agg #[.string s1, .int .i64 all1, .int .i64 fail1]) := by rw [hs1]; rfl
  have HX := Lib.hid (Box2.of w (.string s) (.int .i64 all) (.int .i64 fail) (.string ⟨#[]⟩) (.int .i64 0) (.int .i64 0) 50)
  have HW := Lib.hid (below2 w (.cells #[.string s, .int .i64 all, .int .i64 fail] 50) (.cells #[.string ⟨#[]⟩, .int .i64 0, .int .i64 0] 50))
  clear hs hs1
  go_enter Tryz.func78, Tryz.ntmps78
  go_wp2_with fail
  generalize (w.alloc (.cells #[.string s, .int .i64 all, .int .i64 fail] 50)).alloc (.cells #[.string ⟨#[]⟩, .int .i64 0, .int .i64 0] 50) = W0 at HX HW ⊢
  have HBB : Hid (w.heap.size ≤ w.heap.size) := Nat.le_refl _
  generalize hB : w.heap.size = B at HX ⊢
  replace HBB : Hid (w.heap.size ≤ B) := by rw [hB]; exact Nat.le_refl _
  clear hB
  refine (HRUN _).out.mono ?_
  rintro e w1 ⟨rfl, hb1⟩
  rw [HV1.out]
  have HX1 := Lib.hid (HX.out.below hb1)
  have HW1 : Hid (Below w.heap.size w w1) := HW.out.trans (hb1.mono HW.out.size)
  have c0 := HX1.out.c0
  have c1 := HX1.out.c1
  have c2 := HX1.out.c2
  have f0 := HX1.out.f0
  have f1 := HX1.out.f1
  have f2 := HX1.out.f2
  clear hb1 HX HW
  have HX2 := Lib.hid (HX1.out.set3 (.string s1) (.int .i64 all1) (.int .i64 fail1))
  have HW2 : Hid (Below w.heap.size w (((w1.setCell ⟨B, 0, none⟩ (.string s1)).setCell ⟨B, 1, none⟩ (.int .i64 all1)).setCell ⟨B, 2, none⟩ (.int .i64 fail1))) := below_set3 HW1.out _ HBB.out _ _ _
  by_cases hq : q < 24
  · have t3 : (q : Int) < 24 := by omega
    have HT := fun W => Lib.hid (mTake ⟨l1, all1, fail1⟩ k W (by simp only; omega))
    have hrA : MR.rice ⟨l, all, fail⟩ k = MR.riceA (MR.take ⟨l1, all1, fail1⟩ k) q k := by rw [HR.out, if_pos hq]
    have htl := mtake_lt ⟨l1, all1, fail1⟩ k
    obtain ⟨⟨⟨l2, all2, fail2⟩, v⟩, hm2⟩ : ∃ t, t = MR.take ⟨l1, all1, fail1⟩ k := ⟨_, rfl⟩
    rw [← hm2] at HT hrA htl
    simp only at htl
    rw [HV1.out] at HT
    obtain ⟨s2, hs2⟩ : ∃ s2, s2 = str l2 := ⟨_, rfl⟩
    have HV2 : Hid ((MR.mk l2 all2 fail2).val = .agg #[.string s2, .int .i64 all2, .int .i64 fail2]) := by rw [hs2]; rfl
    have HRA := Lib.hid hrA
    clear hm2 hrA hs2 HR
    go_wp2_with fail
    generalize ((w1.setCell ⟨B, 0, none⟩ (.string s1)).setCell ⟨B, 1, none⟩ (.int .i64 all1)).setCell ⟨B, 2, none⟩ (.int .i64 fail1) = W2 at HX2 HW2 ⊢
    refine (HT _).out.mono ?_
    rintro e w3 ⟨rfl, hb3⟩
    rw [HV2.out]
    have HX3 := Lib.hid (HX2.out.below hb3)
    have HW3 : Hid (Below w.heap.size w w3) := HW2.out.trans (hb3.mono HW2.out.size)
    have HXA := Lib.hid (HX3.out.below ((Below.refl w3.heap.size w3).alloc (Nat.le_refl _) (.cells #[.string s2, .int .i64 all2, .int .i64 fail2] 50)))
    have HWA : Hid (Below w.heap.size w (w3.alloc (.cells #[.string s2, .int .i64 all2, .int .i64 fail2] 50))) := HW3.out.alloc HW3.out.size _
    clear hb3 c0 c1 c2 f0 f1 f2
    have c0 := HXA.out.c0
    have c1 := HXA.out.c1
    have c2 := HXA.out.c2
    have f0 := HXA.out.f0
    have f1 := HXA.out.f1
    have f2 := HXA.out.f2
    have hlt := HX3.out.lt
    go_wp2_with fail
    have HX4 := Lib.hid (HXA.out.set3 (.string s2) (.int .i64 all2) (.int .i64 fail2))
    have HW4 : Hid (Below w.heap.size w ((((w3.alloc (.cells #[.string s2, .int .i64 all2, .int .i64 fail2] 50)).setCell ⟨B, 0, none⟩ (.string s2)).setCell ⟨B, 1, none⟩ (.int .i64 all2)).setCell ⟨B, 2, none⟩ (.int .i64 fail2))) := below_set3 HWA.out _ HBB.out _ _ _
    generalize (((w3.alloc (.cells #[.string s2, .int .i64 all2, .int .i64 fail2] 50)).setCell ⟨B, 0, none⟩ (.string s2)).setCell ⟨B, 1, none⟩ (.int .i64 all2)).setCell ⟨B, 2, none⟩ (.int .i64 fail2) = W4 at HX4 HW4 ⊢
    refine (HP _).out.mono ?_
    rintro e w5 ⟨rfl, rfl⟩
    clear c0 c1 c2 f0 f1 f2 HXA HWA
    have c0 := HX4.out.c0
    have c1 := HX4.out.c1
    have c2 := HX4.out.c2
    have d0 := HX4.out.d0
    have d1 := HX4.out.d1
    have d2 := HX4.out.d2
    have g0 := HX4.out.g0
    have g1 := HX4.out.g1
    have g2 := HX4.out.g2
    obtain ⟨p, hp⟩ : ∃ p, p = 2 ^ k := ⟨_, rfl⟩
    rw [← hp] at p1 p2 ⊢
    have hqp : q * p ≤ 24 * 16777216 := Nat.mul_le_mul (by omega) p2
    obtain ⟨zz, hzz⟩ : ∃ zz, zz = q * p + v := ⟨_, rfl⟩
    have hzi : ((q : Int) * (p : Int) + (v : Int)) = (zz : Int) := by rw [hzz, Int.natCast_add, Int.natCast_mul]
    have hqpi : (q : Int) * (p : Int) ≤ 402653184 ∧ 0 ≤ (q : Int) * (p : Int) := by rw [← Int.natCast_mul]; omega
    have hzb : zz < 4611686018427387904 := by omega
    have HA : Hid (MR.rice ⟨l, all, fail⟩ k = if fail2 ≠ 0 then (⟨l2, all2, fail2⟩, 0) else (⟨l2, all2, fail2⟩, unfoldN zz)) := by rw [HRA.out, hzz, hp]; rfl
    clear hzz hp HRA hqp
    by_cases hf : fail2 = 0
    · subst hf
      have HZ : Hid (MR.rice ⟨l, all, fail⟩ k = (⟨l2, all2, 0⟩, unfoldN zz)) := by rw [HA.out]; rfl
      by_cases ho : zz % 2 = 1
      · have t5 : (((zz : Int) % 2) == 1) = true := by rw [beq_iff_eq]; omega
        have HU := Lib.hid (unfold_odd zz ho hzb)
        clear ho HA
        go_wp2
        obtain ⟨q0, q1, q2⟩ := set3_cells d0 d1 d2 (.string s2) (.int .i64 all2) (.int .i64 0)
        rw [HU.out]
        refine bodyPost_ret (v := .tuple #[.agg #[.string s2, .int .i64 all2, .int .i64 0], .int .i64 (unfoldN zz)]) (by simp [results, Tryz.results78, go_sem, q0, q1, q2]) rfl ?_
        exact ⟨by rw [HZ.out, ← HV2.out], below_set3 HW4.out _ (by have := HBB.out; omega) _ _ _⟩
      · have t5 : (((zz : Int) % 2) == 1) = false := by rw [beq_eq_false_iff_ne]; omega
        have HU : Hid (unfoldN zz = (zz : Int) / 2) := by show _ = _; unfold unfoldN; rw [if_neg ho]; omega
        clear ho HA
        go_wp2
        obtain ⟨q0, q1, q2⟩ := set3_cells d0 d1 d2 (.string s2) (.int .i64 all2) (.int .i64 0)
        refine bodyPost_ret (v := .tuple #[.agg #[.string s2, .int .i64 all2, .int .i64 0], .int .i64 ((zz : Int) / 2)]) (by simp [results, Tryz.results78, go_sem, q0, q1, q2]) rfl ?_
        exact ⟨by rw [HZ.out, ← HV2.out, HU.out], below_set3 HW4.out _ (by have := HBB.out; omega) _ _ _⟩
    · have t4 : (fail2 != 0) = true := by rw [bne_iff_ne]; exact hf
      have HZ : Hid (MR.rice ⟨l, all, fail⟩ k = (⟨l2, all2, fail2⟩, 0)) := by rw [HA.out, if_pos hf]; rfl
      clear hf HA
      go_wp2
      obtain ⟨q0, q1, q2⟩ := set3_cells d0 d1 d2 (.string s2) (.int .i64 all2) (.int .i64 fail2)
      refine bodyPost_ret (v := .tuple #[.agg #[.string s2, .int .i64 all2, .int .i64 fail2], .int .i64 0]) (by simp [results, Tryz.results78, go_sem, q0, q1, q2]) rfl ?_
      exact ⟨by rw [HZ.out, ← HV2.out], below_set3 HW4.out _ (by have := HBB.out; omega) _ _ _⟩
  · have t3 : ¬ ((q : Int) < 24) := by omega
    have HT := fun W => Lib.hid (mTake ⟨l1, all1, fail1⟩ 34 W (by simp only; omega))
    have hrA : MR.rice ⟨l, all, fail⟩ k = MR.riceB (MR.take ⟨l1, all1, fail1⟩ 34) k := by rw [HR.out, if_neg hq]
    have htl := mtake_lt ⟨l1, all1, fail1⟩ 34
    obtain ⟨⟨⟨l2, all2, fail2⟩, v⟩, hm2⟩ : ∃ t, t = MR.take ⟨l1, all1, fail1⟩ 34 := ⟨_, rfl⟩
    rw [← hm2] at HT hrA htl
    simp only at htl
    rw [HV1.out] at HT
    obtain ⟨s2, hs2⟩ : ∃ s2, s2 = str l2 := ⟨_, rfl⟩
    have HV2 : Hid ((MR.mk l2 all2 fail2).val = .agg #[.string s2, .int .i64 all2, .int .i64 fail2]) := by rw [hs2]; rfl
    have HRA := Lib.hid hrA
    clear hm2 hrA hs2 HR
    go_wp2_with fail
    generalize ((w1.setCell ⟨B, 0, none⟩ (.string s1)).setCell ⟨B, 1, none⟩ (.int .i64 all1)).setCell ⟨B, 2, none⟩ (.int .i64 fail1) = W2 at HX2 HW2 ⊢
    refine (HT _).out.mono ?_
    rintro e w3 ⟨rfl, hb3⟩
    rw [HV2.out]
    have HX3 := Lib.hid (HX2.out.below hb3)
    have HW3 : Hid (Below w.heap.size w w3) := HW2.out.trans (hb3.mono HW2.out.size)
    have HXA := Lib.hid (HX3.out.below ((Below.refl w3.heap.size w3).alloc (Nat.le_refl _) (.cells #[.string s2, .int .i64 all2, .int .i64 fail2] 50)))
    have HWA : Hid (Below w.heap.size w (w3.alloc (.cells #[.string s2, .int .i64 all2, .int .i64 fail2] 50))) := HW3.out.alloc HW3.out.size _
    clear hb3 c0 c1 c2 f0 f1 f2
    have c0 := HXA.out.c0
    have c1 := HXA.out.c1
    have c2 := HXA.out.c2
    have f0 := HXA.out.f0
    have f1 := HXA.out.f1
    have f2 := HXA.out.f2
    have hlt := HX3.out.lt
    go_wp2_with fail
    have HX4 := Lib.hid (HXA.out.set3 (.string s2) (.int .i64 all2) (.int .i64 fail2))
    have HW4 : Hid (Below w.heap.size w ((((w3.alloc (.cells #[.string s2, .int .i64 all2, .int .i64 fail2] 50)).setCell ⟨B, 0, none⟩ (.string s2)).setCell ⟨B, 1, none⟩ (.int .i64 all2)).setCell ⟨B, 2, none⟩ (.int .i64 fail2))) := below_set3 HWA.out _ HBB.out _ _ _
    generalize (((w3.alloc (.cells #[.string s2, .int .i64 all2, .int .i64 fail2] 50)).setCell ⟨B, 0, none⟩ (.string s2)).setCell ⟨B, 1, none⟩ (.int .i64 all2)).setCell ⟨B, 2, none⟩ (.int .i64 fail2) = W4 at HX4 HW4 ⊢
    refine (HP _).out.mono ?_
    rintro e w5 ⟨rfl, rfl⟩
    clear c0 c1 c2 f0 f1 f2 HXA HWA
    obtain ⟨p, hp⟩ : ∃ p, p = 2 ^ k := ⟨_, rfl⟩
    rw [← hp] at p1 p2 ⊢
    obtain ⟨d, hd⟩ : ∃ d, d = v / p := ⟨_, rfl⟩
    have hdi : ((v : Int) / (p : Int)) = (d : Int) := by rw [hd, Int.natCast_ediv]
    have hA : MR.rice ⟨l, all, fail⟩ k = MR.riceB (⟨l2, all2, fail2⟩, v) k := HRA.out
    unfold MR.riceB at hA
    simp only [← hp, ← hd] at hA
    have HA := Lib.hid hA
    clear hp hd HRA hA
    have hdv : d ≤ 281474976710656 := by
      have : (d : Int) ≤ (v : Int) := by rw [← hdi]; exact Int.ediv_le_self _ (by omega)
      omega
    by_cases hd24 : d < 24
    · have HG := fun W => Lib.hid (mGive ⟨l2, all2, fail2⟩ 2 W)
      have hgf := give_fail ⟨l2, all2, fail2⟩ 2 (by decide)
      have hB : MR.rice ⟨l, all, fail⟩ k = (MR.give ⟨l2, all2, fail2⟩ 2, 0) := by rw [HA.out, if_pos hd24, if_pos hgf]
      rw [HV2.out] at HG
      obtain ⟨⟨l3, all3, fail3⟩, hm3⟩ : ∃ t, t = MR.give ⟨l2, all2, fail2⟩ 2 := ⟨_, rfl⟩
      rw [← hm3] at HG hgf hB
      simp only at hgf
      obtain ⟨s3, hs3⟩ : ∃ s3, s3 = str l3 := ⟨_, rfl⟩
      have HV3 : Hid ((MR.mk l3 all3 fail3).val = .agg #[.string s3, .int .i64 all3, .int .i64 fail3]) := by rw [hs3]; rfl
      have HBZ := Lib.hid hB
      have t4 : (fail3 != 0) = true := by rw [bne_iff_ne]; exact hgf
      have c0 := HX4.out.c0
      have c1 := HX4.out.c1
      have c2 := HX4.out.c2
      clear hm3 hs3 hB hgf HA
      go_wp2_with fail
      refine (HG _).out.mono ?_
      rintro e w6 ⟨rfl, hb6⟩
      rw [HV3.out]
      have HX6 := Lib.hid (HX4.out.below hb6)
      have HW6 : Hid (Below w.heap.size w w6) := HW4.out.trans (hb6.mono HW4.out.size)
      clear hb6 c0 c1 c2
      have c0 := HX6.out.c0
      have c1 := HX6.out.c1
      have c2 := HX6.out.c2
      have f0 := HX6.out.f0
      have f1 := HX6.out.f1
      have f2 := HX6.out.f2
      have HX7 := Lib.hid (HX6.out.set3 (.string s3) (.int .i64 all3) (.int .i64 fail3))
      have HW7 : Hid (Below w.heap.size w (((w6.setCell ⟨B, 0, none⟩ (.string s3)).setCell ⟨B, 1, none⟩ (.int .i64 all3)).setCell ⟨B, 2, none⟩ (.int .i64 fail3))) := below_set3 HW6.out _ HBB.out _ _ _
      have d0 := HX7.out.d0
      have d1 := HX7.out.d1
      have d2 := HX7.out.d2
      have g0 := HX6.out.g0
      have g1 := HX6.out.g1
      have g2 := HX6.out.g2
      have e0 := HX6.out.d0
      have e1 := HX6.out.d1
      have e2 := HX6.out.d2
      go_wp2
      obtain ⟨q0, q1, q2⟩ := set3_cells d0 d1 d2 (.string s3) (.int .i64 all3) (.int .i64 fail3)
      refine bodyPost_ret (v := .tuple #[.agg #[.string s3, .int .i64 all3, .int .i64 fail3], .int .i64 0]) (by simp [results, Tryz.results78, go_sem, q0, q1, q2]) rfl ?_
      exact ⟨by rw [HBZ.out, ← HV3.out], below_set3 HW7.out _ (by have := HBB.out; omega) _ _ _⟩
    · have c0 := HX4.out.c0
      have c1 := HX4.out.c1
      have c2 := HX4.out.c2
      have d0 := HX4.out.d0
      have d1 := HX4.out.d1
      have d2 := HX4.out.d2
      have g0 := HX4.out.g0
      have g1 := HX4.out.g1
      have g2 := HX4.out.g2
      by_cases hf : fail2 = 0
      · subst hf
        have HZ : Hid (MR.rice ⟨l, all, fail⟩ k = (⟨l2, all2, 0⟩, unfoldN v)) := by rw [HA.out, if_neg hd24]; rfl
        by_cases ho : v % 2 = 1
        · have t5 : (((v : Int) % 2) == 1) = true := by rw [beq_iff_eq]; omega
          have HU := Lib.hid (unfold_odd v ho (by omega))
          clear ho HA
          go_wp2
          obtain ⟨q0, q1, q2⟩ := set3_cells d0 d1 d2 (.string s2) (.int .i64 all2) (.int .i64 0)
          rw [HU.out]
          refine bodyPost_ret (v := .tuple #[.agg #[.string s2, .int .i64 all2, .int .i64 0], .int .i64 (unfoldN v)]) (by simp [results, Tryz.results78, go_sem, q0, q1, q2]) rfl ?_
          exact ⟨by rw [HZ.out, ← HV2.out], below_set3 HW4.out _ (by have := HBB.out; omega) _ _ _⟩
        · have t5 : (((v : Int) % 2) == 1) = false := by rw [beq_eq_false_iff_ne]; omega
          have HU : Hid (unfoldN v = (v : Int) / 2) := by show _ = _; unfold unfoldN; rw [if_neg ho]; omega
          clear ho HA
          go_wp2
          obtain ⟨q0, q1, q2⟩ := set3_cells d0 d1 d2 (.string s2) (.int .i64 all2) (.int .i64 0)
          refine bodyPost_ret (v := .tuple #[.agg #[.string s2, .int .i64 all2, .int .i64 0], .int .i64 ((v : Int) / 2)]) (by simp [results, Tryz.results78, go_sem, q0, q1, q2]) rfl ?_
          exact ⟨by rw [HZ.out, ← HV2.out, HU.out], below_set3 HW4.out _ (by have := HBB.out; omega) _ _ _⟩
      · have t4 : (fail2 != 0) = true := by rw [bne_iff_ne]; exact hf
        have HZ : Hid (MR.rice ⟨l, all, fail⟩ k = (⟨l2, all2, fail2⟩, 0)) := by rw [HA.out, if_neg hd24, if_pos hf]; rfl
        clear hf HA
        go_wp2
        obtain ⟨q0, q1, q2⟩ := set3_cells d0 d1 d2 (.string s2) (.int .i64 all2) (.int .i64 fail2)
        refine bodyPost_ret (v := .tuple #[.agg #[.string s2, .int .i64 all2, .int .i64 fail2], .int .i64 0]) (by simp [results, Tryz.results78, go_sem, q0, q1, q2]) rfl ?_
        exact ⟨by rw [HZ.out, ← HV2.out], below_set3 HW4.out _ (by have := HBB.out; omega) _ _ _⟩

theorem mRice (m : MR) (k : Int) (w : World) (hb : m.bits.length ≤ 1000000000) :
    Calls Tryz.prog 78 #[m.val, .int .i64 k] w (MRes (m.rice k).1 (m.rice k).2 w) := by
  by_cases hk : k < 0 ∨ 24 < k
  · have e : m.rice k = (m.give 1, 0) := by unfold MR.rice; rw [if_pos hk]
    rw [e]; exact mRice_bad m k w hk
  · obtain ⟨j, rfl⟩ := Int.eq_ofNat_of_zero_le (show 0 ≤ k by omega)
    exact mRice_good m j w (by omega) hb
end Go.Proofs.YtefbakhhlonafaaGreat
end
