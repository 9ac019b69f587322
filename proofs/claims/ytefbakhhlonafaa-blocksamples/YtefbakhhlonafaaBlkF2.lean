import Derived.Test.YtefbakhhlonafaaGxLagC5
import Derived.Test.YtefbakhhlonafaaBlkB
import Derived.Test.YtefbakhhlonafaaFxInts
import Derived.Test.YtefbakhhlonafaaFxLatC1

section
namespace Go.Proofs.Ytefbakhhlonafaa.Gx
open Go.RowKit Go.Proofs Go.Proofs.PipeA Go.Proofs.LagM
set_option maxRecDepth 100000

set_option maxHeartbeats 800000 in
theorem rGood (a g : Int) (w : World) : Calls Try.prog 47 #[.int .i64 a, .int .i64 g] w fun e w' => e = .returned (.bool (goodT a g)) ∧ w = w' := by
  rcases goodT_cases a g with ⟨h1, h2, h3⟩ | ⟨h0, h1, h3⟩ | ⟨h0, h1, h2, h3⟩ | ⟨h0, h1, h2, h4, h3⟩ | ⟨h0, h1, h2, h4, h5, h3⟩ | ⟨h0, h1, h2, h4, h5, h3⟩
  · subst h1 h2
    rw [h3]
    clear h3
    go_enter Try.func47, Try.ntmps47
    go_wp2
    go_ret
    exact ⟨rfl, rfl⟩
  all_goals
    rw [h3]
    clear h3
    by_cases e1 : a = 0
    · first
      | (exfalso; omega)
      | (subst e1
         have t1 : (g == (0 : Int)) = false := by rw [beq_eq_false_iff_ne]; omega
         clear h0
         go_enter Try.func47, Try.ntmps47
         go_wp2
         go_ret
         exact ⟨rfl, rfl⟩)
    · have t1 : (a == (0 : Int)) = false := by rw [beq_eq_false_iff_ne]; exact e1
      clear h0 e1
      go_enter Try.func47, Try.ntmps47
      go_wp2
      go_ret
      first
      | exact ⟨rfl, rfl⟩
      | exact ⟨by rw [decide_eq_false (by omega)]; rfl, rfl⟩
      | exact ⟨by rw [decide_eq_true (by omega)]; rfl, rfl⟩

/-- A sixteenth, down. -/
theorem down_cases (n : Int) : (Int.tmod n 16 < 0 ∧ Int.tdiv n 16 - 1 = n / 16) ∨ (0 ≤ Int.tmod n 16 ∧ Int.tdiv n 16 = n / 16) := by
  by_cases h : 0 ≤ n
  · rw [Int.tdiv_eq_ediv_of_nonneg h, Int.tmod_eq_emod_of_nonneg h]
    omega
  · obtain ⟨m, rfl⟩ : ∃ m, n = -m := ⟨-n, by omega⟩
    rw [Int.neg_tdiv, Int.neg_tmod, Int.tdiv_eq_ediv_of_nonneg (by omega), Int.tmod_eq_emod_of_nonneg (by omega)]
    omega

set_option maxHeartbeats 800000 in
theorem rDown (n : Int) (w : World) (hn : -100000000000000 ≤ n ∧ n ≤ 100000000000000) : Calls Try.prog 50 #[.int .i64 n] w fun e w' => e = .returned (.int .i64 (n / 16)) ∧ w = w' := by
  have hd := down_cases n
  have HD := Lib.hid hd
  clear hd
  go_enter Try.func50, Try.ntmps50
  go_wp2
  · rename_i h
    go_ret
    refine ⟨?_, rfl⟩
    show Ending.returned (Value.int .i64 (wrap64 (n.tdiv 16 - 1))) = _
    have := HD.out
    rw [IntWalk.wrap64_in _ (by omega), show n.tdiv 16 - 1 = n / 16 by omega]
  · rename_i h
    go_ret
    refine ⟨?_, rfl⟩
    show Ending.returned (Value.int .i64 (n.tdiv 16)) = _
    have := HD.out
    rw [show n.tdiv 16 = n / 16 by omega]

theorem inB_cases2 (n : Int) : (decide (1099511627776 < n) = true ∧ inB n = false) ∨ (decide (1099511627776 < n) = false ∧ decide (n < -1099511627776) = true ∧ inB n = false) ∨ (decide (1099511627776 < n) = false ∧ decide (n < -1099511627776) = false ∧ inB n = true) := by
  unfold inB
  by_cases h1 : 1099511627776 < n
  · exact .inl ⟨decide_eq_true h1, decide_eq_false (by omega)⟩
  · by_cases h2 : n < -1099511627776
    · exact .inr (.inl ⟨decide_eq_false h1, decide_eq_true h2, decide_eq_false (by omega)⟩)
    · exact .inr (.inr ⟨decide_eq_false h1, decide_eq_false h2, decide_eq_true (by omega)⟩)

end Go.Proofs.Ytefbakhhlonafaa.Gx
end

section
namespace Go.Proofs.Ytefbakhhlonafaa
open Go.RowKit Go.Proofs Go.Proofs.PipeM Go.Proofs.PipeA Go.Proofs.BlkM
open Go.Proofs.LatM (goodL)
open Go.Proofs.LagM (goodT)
set_option maxRecDepth 100000

/-- A block as a value. -/
def blkV (b : Blk) (ia ra da : Option Addr) (ic rc dc : Nat) : Value :=
  .agg #[.int .i64 b.kind, .int .i64 b.value, .int .i64 b.shift, .slice ia b.index.length ic, .int .i64 b.lag, .int .i64 b.gain, .int .i64 b.part, .slice ra b.rice.length rc, .slice da b.data.length dc]
/-- A block that came in. -/
structure BlkIn (w : World) (b : Blk) (ia ra da : Option Addr) (ic rc dc : Nat) : Prop where
  i : IntsAt w ia b.index
  r : IntsAt w ra b.rice
  d : IntsAt w da b.data
  il : b.index.length ≤ 1000000
  rl : b.rice.length ≤ 1000000
  dl : b.data.length ≤ 1000000
  ic : b.index.length ≤ ic
  rc : b.rice.length ≤ rc
  dc : b.data.length ≤ dc
theorem BlkIn.below {w w' : World} {b : Blk} {ia ra da : Option Addr} {ic rc dc : Nat} (h : BlkIn w b ia ra da ic rc dc) (hb : Below w.heap.size w w') : BlkIn w' b ia ra da ic rc dc :=
  ⟨h.i.below hb, h.r.below hb, h.d.below hb, h.il, h.rl, h.dl, h.ic, h.rc, h.dc⟩

set_option maxHeartbeats 800000 in
theorem rParts (b : Blk) (ia ra da : Option Addr) (ic rc dc : Nat) (w : World) :
    Calls Try.prog 32 #[blkV b ia ra da ic rc dc] w fun e w' => e = .returned (.agg #[.int .i64 b.part, .slice ra b.rice.length rc]) ∧ Below w.heap.size w w' := by
  have HB := fun o1 o2 => Lib.hid (below2 w o1 o2)
  obtain ⟨kind, value, shift, index, lag, gain, part, rice, data⟩ := b
  unfold blkV
  dsimp only
  generalize index.length = il
  generalize rice.length = rl
  generalize data.length = dl
  go_enter Try.func32, Try.ntmps32
  go_wp2
  refine bodyPost_ret (v := .agg #[.int .i64 part, .slice ra rl rc]) (by simp [results, Try.results32, go_sem]) rfl ?_
  exact ⟨rfl, (HB _ _).out⟩

theorem rForm_kind (b : Blk) (ia ra da : Option Addr) (ic rc dc : Nat) (n : Nat) (d : Int) (w : World) (h : wrongKind b = true) :
    Calls Try.prog 22 #[blkV b ia ra da ic rc dc, .int .i64 n, .int .i64 d] w fun e w' => e = .returned (.int .i64 (formB b n d)) ∧ Below w.heap.size w w' := by
  have HF : Hid (formB b n d = 16) := by show _ = _; unfold formB; rw [if_pos h]
  have HB := fun o => Lib.hid (box_below w o)
  obtain ⟨kind, value, shift, index, lag, gain, part, rice, data⟩ := b
  unfold blkV
  dsimp only
  generalize index.length = il
  generalize rice.length = rl
  generalize data.length = dl
  by_cases h1 : kind < 0
  · have t1 : decide (kind < 0) = true := decide_eq_true h1
    clear h h1
    go_enter Try.func22, Try.ntmps22
    go_wp2
    go_ret
    exact ⟨by rw [HF.out]; rfl, (HB _).out⟩
  · have t1 : decide (kind < 0) = false := decide_eq_false h1
    have t2 : decide (3 < kind) = true := by
      unfold wrongKind at h
      rw [Bool.or_eq_true] at h
      exact h.resolve_left (by rw [t1]; simp)
    clear h h1
    go_enter Try.func22, Try.ntmps22
    go_wp2
    go_ret
    exact ⟨by rw [HF.out]; rfl, (HB _).out⟩

set_option maxHeartbeats 3200000 in
theorem rForm_more (b : Blk) (ia ra da : Option Addr) (ic rc dc : Nat) (n : Nat) (d : Int) (w : World) (hil : b.index.length ≤ 1000000) (hrl : b.rice.length ≤ 1000000) (hk : 0 ≤ b.kind ∧ b.kind ≤ 3) (h : wrongMore b = true) :
    Calls Try.prog 22 #[blkV b ia ra da ic rc dc, .int .i64 n, .int .i64 d] w fun e w' => e = .returned (.int .i64 (formB b n d)) ∧ Below w.heap.size w w' := by
  have HF : Hid (formB b n d = 2) := by
    show _ = _
    have hw : wrongKind b = false := by unfold wrongKind; rw [decide_eq_false (by omega), decide_eq_false (by omega)]; rfl
    unfold formB; rw [hw, if_neg (by simp), if_pos h]
  have HB := fun o => Lib.hid (box_below w o)
  obtain ⟨kind, value, shift, index, lag, gain, part, rice, data⟩ := b
  unfold wrongMore at h
  unfold blkV
  dsimp only at *
  rw [Bool.and_eq_true] at h
  obtain ⟨h0, h⟩ := h
  have t0 : (kind != 2) = true := bne_iff_ne.2 (of_decide_eq_true h0)
  generalize index.length = il at *
  generalize rice.length = rl at *
  generalize data.length = dl at *
  clear h0
  by_cases c0 : shift = 0
  rotate_left
  · have u0 : (shift != 0) = true := bne_iff_ne.2 c0
    clear h c0
    go_enter Try.func22, Try.ntmps22
    go_wp2
    go_ret
    exact ⟨by rw [HF.out]; rfl, (HB _).out⟩
  have u0 : (shift != 0) = false := by rw [c0]; rfl
  by_cases c1 : il = 0
  rotate_left
  · have u1 : decide (0 < il) = true := decide_eq_true (by omega)
    clear h c0 c1
    go_enter Try.func22, Try.ntmps22
    go_wp2
    go_ret
    exact ⟨by rw [HF.out]; rfl, (HB _).out⟩
  have u1 : decide (0 < il) = false := decide_eq_false (by omega)
  by_cases c2 : lag = 0
  rotate_left
  · have u2 : (lag != 0) = true := bne_iff_ne.2 c2
    clear h c0 c1 c2
    go_enter Try.func22, Try.ntmps22
    go_wp2
    go_ret
    exact ⟨by rw [HF.out]; rfl, (HB _).out⟩
  have u2 : (lag != 0) = false := by rw [c2]; rfl
  by_cases c3 : gain = 0
  rotate_left
  · have u3 : (gain != 0) = true := bne_iff_ne.2 c3
    clear h c0 c1 c2 c3
    go_enter Try.func22, Try.ntmps22
    go_wp2
    go_ret
    exact ⟨by rw [HF.out]; rfl, (HB _).out⟩
  have u3 : (gain != 0) = false := by rw [c3]; rfl
  by_cases c4 : part = 0
  rotate_left
  · have u4 : (part != 0) = true := bne_iff_ne.2 c4
    clear h c0 c1 c2 c3 c4
    go_enter Try.func22, Try.ntmps22
    go_wp2
    go_ret
    exact ⟨by rw [HF.out]; rfl, (HB _).out⟩
  have u4 : (part != 0) = false := by rw [c4]; rfl
  by_cases c5 : rl = 0
  rotate_left
  · have u5 : decide (0 < rl) = true := decide_eq_true (by omega)
    clear h c0 c1 c2 c3 c4 c5
    go_enter Try.func22, Try.ntmps22
    go_wp2
    go_ret
    exact ⟨by rw [HF.out]; rfl, (HB _).out⟩
  have u5 : decide (0 < rl) = false := decide_eq_false (by omega)
  exact absurd h (by subst_vars; simp)

set_option maxHeartbeats 3200000 in
theorem rForm_few (K value : Int) (data : List Int) (ia ra da : Option Addr) (ic rc dc : Nat) (n : Nat) (d : Int) (w : World) (hdl : data.length ≤ 1000000) (hK : K = 0 ∨ K = 1 ∨ K = 3) :
    Calls Try.prog 22 #[blkV ⟨K, value, 0, [], 0, 0, 0, [], data⟩ ia ra da ic rc dc, .int .i64 n, .int .i64 d] w fun e w' => e = .returned (.int .i64 (formB ⟨K, value, 0, [], 0, 0, 0, [], data⟩ n d)) ∧ Below w.heap.size w w' := by
  have HB := fun o => Lib.hid (box_below w o)
  unfold blkV
  dsimp only [List.length_nil]
  have HFF : ∀ c, formB ⟨K, value, 0, [], 0, 0, 0, [], data⟩ n d = c → Hid (formB ⟨K, value, 0, [], 0, 0, 0, [], data⟩ n d = c) := fun _ h => h
  rcases hK with rfl | rfl | rfl
  · by_cases c1 : value = 0
    · have u1 : (value != 0) = false := by rw [c1]; rfl
      by_cases c2 : data.length = 0
      · have HF := HFF 0 (by simp [formB, wrongKind, wrongMore, wrongData, wrongNormal, c1, c2])
        have u2 : decide (0 < data.length) = false := decide_eq_false (by omega)
        generalize data.length = dl at *
        clear c1 c2 HFF
        go_enter Try.func22, Try.ntmps22
        go_wp2
        go_ret
        exact ⟨by rw [HF.out]; rfl, (HB _).out⟩
      · have HF := HFF 2 (by simp [formB, wrongKind, wrongMore, wrongData, c1]; rintro rfl; exact (c2 rfl).elim)
        have u2 : decide (0 < data.length) = true := decide_eq_true (by omega)
        generalize data.length = dl at *
        clear c1 c2 HFF
        go_enter Try.func22, Try.ntmps22
        go_wp2
        go_ret
        exact ⟨by rw [HF.out]; rfl, (HB _).out⟩
    · have u1 : (value != 0) = true := bne_iff_ne.2 c1
      have HF := HFF 2 (by simp [formB, wrongKind, wrongMore, wrongData, c1])
      generalize data.length = dl at *
      clear c1 HFF
      go_enter Try.func22, Try.ntmps22
      go_wp2
      go_ret
      exact ⟨by rw [HF.out]; rfl, (HB _).out⟩
  · by_cases c2 : data.length = 0
    · have HF := HFF 0 (by simp [formB, wrongKind, wrongMore, wrongData, wrongNormal, c2])
      have u2 : decide (0 < data.length) = false := decide_eq_false (by omega)
      generalize data.length = dl at *
      clear c2 HFF
      go_enter Try.func22, Try.ntmps22
      go_wp2
      go_ret
      exact ⟨by rw [HF.out]; rfl, (HB _).out⟩
    · have HF := HFF 2 (by simp [formB, wrongKind, wrongMore, wrongData]; rintro rfl; exact (c2 rfl).elim)
      have u2 : decide (0 < data.length) = true := decide_eq_true (by omega)
      generalize data.length = dl at *
      clear c2 HFF
      go_enter Try.func22, Try.ntmps22
      go_wp2
      go_ret
      exact ⟨by rw [HF.out]; rfl, (HB _).out⟩
  · by_cases c1 : value = 0
    · have u1 : (value != 0) = false := by rw [c1]; rfl
      by_cases c2 : (data.length : Int) = (n : Int)
      · have HF := HFF 0 (by simp [formB, wrongKind, wrongMore, wrongData, wrongNormal, c1, c2])
        have u2 : ((data.length : Int) != (n : Int)) = false := by rw [c2]; simp
        generalize data.length = dl at *
        clear c1 c2 HFF
        go_enter Try.func22, Try.ntmps22
        go_wp2
        go_ret
        exact ⟨by rw [HF.out]; rfl, (HB _).out⟩
      · have HF := HFF 2 (by simp [formB, wrongKind, wrongMore, wrongData, c1]; omega)
        have u2 : ((data.length : Int) != (n : Int)) = true := bne_iff_ne.2 c2
        generalize data.length = dl at *
        clear c1 c2 HFF
        go_enter Try.func22, Try.ntmps22
        go_wp2
        go_ret
        exact ⟨by rw [HF.out]; rfl, (HB _).out⟩
    · have u1 : (value != 0) = true := bne_iff_ne.2 c1
      have HF := HFF 2 (by simp [formB, wrongKind, wrongMore, wrongData, c1])
      generalize data.length = dl at *
      clear c1 HFF
      go_enter Try.func22, Try.ntmps22
      go_wp2
      go_ret
      exact ⟨by rw [HF.out]; rfl, (HB _).out⟩
end Go.Proofs.Ytefbakhhlonafaa
end
