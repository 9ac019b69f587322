import Derived.Test.YtpbbhebongggpaaPackA
import Derived.Deep.RegionWith
import Derived.Deep.LoopGhost
namespace Go.Proofs.Ytpbbhebongggpaa
open Go.RowKit Go.Proofs Go.Proofs.PipeM Go.Proofs.PipeA Go.Proofs.PackM
set_option maxRecDepth 100000

theorem good_split (B : Int) : (B = 8 ∨ B = 16 ∨ B = 24) ∨ ((B == 8) = false ∧ (B == 16) = false ∧ (B == 24) = false ∧ good B = false) := by
  by_cases h : B = 8 ∨ B = 16 ∨ B = 24
  · exact .inl h
  · refine .inr ⟨?_, ?_, ?_, decide_eq_false h⟩ <;> rw [beq_eq_false_iff_ne] <;> omega

set_option maxHeartbeats 400000 in
theorem cGood (B : Int) (g : Bool) (w : World) :
    Calls Try.prog 18 #[.agg #[.int .i64 B, .bool g]] w fun e w' => e = .returned (.bool (good B)) ∧ Below w.heap.size w w' := by
  have HB := fun o => Lib.hid (box_below w o)
  rcases good_split B with (rfl | rfl | rfl) | ⟨t1, t2, t3, hg⟩
  · go_enter Try.func18, Try.ntmps18
    go_wp2
    go_ret
    exact ⟨rfl, (HB _).out⟩
  · go_enter Try.func18, Try.ntmps18
    go_wp2
    go_ret
    exact ⟨rfl, (HB _).out⟩
  · go_enter Try.func18, Try.ntmps18
    go_wp2
    go_ret
    exact ⟨rfl, (HB _).out⟩
  · have HG := Lib.hid hg
    clear hg
    go_enter Try.func18, Try.ntmps18
    go_wp2
    go_ret
    exact ⟨by rw [HG.out]; rfl, (HB _).out⟩

set_option maxHeartbeats 400000 in
theorem rGood (B : Int) (g : Bool) (w : World) :
    Calls Try.prog 17 #[.agg #[.int .i64 B, .bool g]] w fun e w' => e = .returned (.bool (good B)) ∧ Below w.heap.size w w' := by
  have HB := fun o => Lib.hid (box_below w o)
  rcases good_split B with (rfl | rfl | rfl) | ⟨t1, t2, t3, hg⟩
  · go_enter Try.func17, Try.ntmps17
    go_wp2
    go_ret
    exact ⟨rfl, (HB _).out⟩
  · go_enter Try.func17, Try.ntmps17
    go_wp2
    go_ret
    exact ⟨rfl, (HB _).out⟩
  · go_enter Try.func17, Try.ntmps17
    go_wp2
    go_ret
    exact ⟨rfl, (HB _).out⟩
  · have HG := Lib.hid hg
    clear hg
    go_enter Try.func17, Try.ntmps17
    go_wp2
    go_ret
    exact ⟨by rw [HG.out]; rfl, (HB _).out⟩

theorem has_not {B : Int} (n : Int) (h : good B = false) : hasB B n = false := by
  have h : ¬ _ := of_decide_eq_false h
  exact decide_eq_false (by omega)
theorem has_8 (n : Int) : hasB 8 n = decide (-128 ≤ n ∧ n < 128) := decide_eq_decide.2 (by omega)
theorem has_16 (n : Int) : hasB 16 n = decide (-32768 ≤ n ∧ n < 32768) := decide_eq_decide.2 (by omega)
theorem has_24 (n : Int) : hasB 24 n = decide (-8388608 ≤ n ∧ n < 8388608) := decide_eq_decide.2 (by omega)
theorem in_split (a b n : Int) : (decide (a ≤ n) = false ∧ decide (a ≤ n ∧ n < b) = false) ∨ (decide (a ≤ n) = true ∧ decide (n < b) = false ∧ decide (a ≤ n ∧ n < b) = false) ∨ (decide (a ≤ n) = true ∧ decide (n < b) = true ∧ decide (a ≤ n ∧ n < b) = true) := by
  by_cases h1 : a ≤ n
  · by_cases h2 : n < b
    · exact .inr (.inr ⟨decide_eq_true h1, decide_eq_true h2, decide_eq_true ⟨h1, h2⟩⟩)
    · exact .inr (.inl ⟨decide_eq_true h1, decide_eq_false h2, decide_eq_false (fun h => h2 h.2)⟩)
  · exact .inl ⟨decide_eq_false h1, decide_eq_false (fun h => h1 h.1)⟩

set_option maxHeartbeats 800000 in
theorem cHas (B : Int) (g : Bool) (n : Int) (w : World) :
    Calls Try.prog 19 #[.agg #[.int .i64 B, .bool g], .int .i64 n] w fun e w' => e = .returned (.bool (hasB B n)) ∧ Below w.heap.size w w' := by
  have HB := fun o => Lib.hid (box_below w o)
  have HG := fun W => Lib.hid (cGood B g W)
  rcases good_split B with h | ⟨t1, t2, t3, hg⟩
  · have hgt : good B = true := decide_eq_true h
    rw [hgt] at HG
    clear hgt
    rcases h with rfl | rfl | rfl
    · rw [has_8]
      rcases in_split (-128) 128 n with ⟨t1, t2⟩ | ⟨t1, t2, t3⟩ | ⟨t1, t2, t3⟩
      all_goals
        go_enter Try.func19, Try.ntmps19
        go_wp2_with fail
        refine (HG _).out.mono ?_
        rintro e w1 ⟨rfl, hb⟩
        have c0 : w1.cell? ⟨w.heap.size, 0, none⟩ = some (.int .i64 8) := (hb.cell (p := ⟨w.heap.size, 0, none⟩) (by simp)).trans (by simp)
        have HB1 := Lib.hid ((HB _).out.trans (hb.mono (HB _).out.size))
        clear hb
        go_wp2
        go_ret
        refine ⟨?_, HB1.out⟩
        first | (rw [t3]; rfl) | (rw [t2]; rfl)
    · rw [has_16]
      rcases in_split (-32768) 32768 n with ⟨t1, t2⟩ | ⟨t1, t2, t3⟩ | ⟨t1, t2, t3⟩
      all_goals
        go_enter Try.func19, Try.ntmps19
        go_wp2_with fail
        refine (HG _).out.mono ?_
        rintro e w1 ⟨rfl, hb⟩
        have c0 : w1.cell? ⟨w.heap.size, 0, none⟩ = some (.int .i64 16) := (hb.cell (p := ⟨w.heap.size, 0, none⟩) (by simp)).trans (by simp)
        have HB1 := Lib.hid ((HB _).out.trans (hb.mono (HB _).out.size))
        clear hb
        go_wp2
        go_ret
        refine ⟨?_, HB1.out⟩
        first | (rw [t3]; rfl) | (rw [t2]; rfl)
    · rw [has_24]
      rcases in_split (-8388608) 8388608 n with ⟨t1, t2⟩ | ⟨t1, t2, t3⟩ | ⟨t1, t2, t3⟩
      all_goals
        go_enter Try.func19, Try.ntmps19
        go_wp2_with fail
        refine (HG _).out.mono ?_
        rintro e w1 ⟨rfl, hb⟩
        have c0 : w1.cell? ⟨w.heap.size, 0, none⟩ = some (.int .i64 24) := (hb.cell (p := ⟨w.heap.size, 0, none⟩) (by simp)).trans (by simp)
        have HB1 := Lib.hid ((HB _).out.trans (hb.mono (HB _).out.size))
        clear hb
        go_wp2
        go_ret
        refine ⟨?_, HB1.out⟩
        first | (rw [t3]; rfl) | (rw [t2]; rfl)
  · have HN := Lib.hid (has_not n hg)
    rw [hg] at HG
    clear hg t1 t2 t3
    go_enter Try.func19, Try.ntmps19
    go_wp2_with fail
    refine (HG _).out.mono ?_
    rintro e w1 ⟨rfl, hb⟩
    have HB1 := Lib.hid ((HB _).out.trans (hb.mono (HB _).out.size))
    clear hb
    go_wp2
    go_ret
    exact ⟨by rw [HN.out]; rfl, HB1.out⟩

set_option maxHeartbeats 800000 in
theorem rHas (B : Int) (n : Int) (w : World) (h : B = 8 ∨ B = 16 ∨ B = 24) :
    Calls Try.prog 20 #[.int .i64 B, .int .i64 n] w fun e w' => e = .returned (.bool (hasB B n)) ∧ w = w' := by
  have HP := fun k W (hk : k ≤ 62) => Lib.hid (refPower k W hk)
  rcases h with rfl | rfl | rfl
  · have H7 := fun W => Lib.hid (HP 7 W (by decide)).out
    rw [has_8]
    rcases in_split (-128) 128 n with ⟨t1, t2⟩ | ⟨t1, t2, t3⟩ | ⟨t1, t2, t3⟩
    all_goals
      go_enter Try.func20, Try.ntmps20
      go_wp2_with (go_at_call 32; refine (H7 _).out.mono ?_; rintro e w1 ⟨rfl, rfl⟩)
      go_ret
      refine ⟨?_, rfl⟩
      first | (rw [t3]; rfl) | (rw [t2]; rfl)
  · have H7 := fun W => Lib.hid (HP 15 W (by decide)).out
    rw [has_16]
    rcases in_split (-32768) 32768 n with ⟨t1, t2⟩ | ⟨t1, t2, t3⟩ | ⟨t1, t2, t3⟩
    all_goals
      go_enter Try.func20, Try.ntmps20
      go_wp2_with (go_at_call 32; refine (H7 _).out.mono ?_; rintro e w1 ⟨rfl, rfl⟩)
      go_ret
      refine ⟨?_, rfl⟩
      first | (rw [t3]; rfl) | (rw [t2]; rfl)
  · have H7 := fun W => Lib.hid (HP 23 W (by decide)).out
    rw [has_24]
    rcases in_split (-8388608) 8388608 n with ⟨t1, t2⟩ | ⟨t1, t2, t3⟩ | ⟨t1, t2, t3⟩
    all_goals
      go_enter Try.func20, Try.ntmps20
      go_wp2_with (go_at_call 32; refine (H7 _).out.mono ?_; rintro e w1 ⟨rfl, rfl⟩)
      go_ret
      refine ⟨?_, rfl⟩
      first | (rw [t3]; rfl) | (rw [t2]; rfl)

set_option maxHeartbeats 400000 in
theorem cLacks (B : Int) (g : Bool) (n : Int) (w : World) :
    Calls Try.prog 28 #[.agg #[.int .i64 B, .bool g], .int .i64 n] w fun e w' => e = .returned (.bool (!hasB B n)) ∧ Below w.heap.size w w' := by
  have HB := fun o => Lib.hid (box_below w o)
  have HH := fun W => Lib.hid (cHas B g n W)
  generalize hasB B n = hb0 at HH ⊢
  go_enter Try.func28, Try.ntmps28
  go_wp2_with fail
  refine (HH _).out.mono ?_
  rintro e w1 ⟨rfl, hb⟩
  have HB1 := Lib.hid ((HB _).out.trans (hb.mono (HB _).out.size))
  clear hb
  go_wp2
  go_ret
  exact ⟨rfl, HB1.out⟩

set_option maxHeartbeats 400000 in
theorem cSampleBytes (z : Nat) (g : Bool) (w : World) (hz : z = 1 ∨ z = 2 ∨ z = 3) :
    Calls Try.prog 33 #[.agg #[.int .i64 ((8 * z : Nat) : Int), .bool g]] w fun e w' => e = .returned (.int .i64 (z : Int)) ∧ w' = w.alloc (.cells #[.int .i64 ((8 * z : Nat) : Int), .bool g] 23) := by
  rcases hz with rfl | rfl | rfl
  all_goals
    go_enter Try.func33, Try.ntmps33
    go_wp2
    go_ret
    exact ⟨rfl, rfl⟩

set_option maxHeartbeats 400000 in
theorem cRowBytes (z ch : Nat) (g : Bool) (w : World) (hz : z = 1 ∨ z = 2 ∨ z = 3) (hc : ch ≤ 100) :
    Calls Try.prog 23 #[.agg #[.int .i64 ((8 * z : Nat) : Int), .bool g], .int .i64 (ch : Int)] w fun e w' => e = .returned (.int .i64 ((ch * z : Nat) : Int)) ∧ Below w.heap.size w w' := by
  have HB := fun o1 o2 => Lib.hid (below2 w o1 o2)
  have HS := fun W => Lib.hid (cSampleBytes z g W hz)
  rcases hz with rfl | rfl | rfl
  all_goals
    go_enter Try.func23, Try.ntmps23
    go_wp2_with fail
    refine (HS _).out.mono ?_
    rintro e w1 ⟨rfl, rfl⟩
    go_wp2
    go_ret
    exact ⟨by first | rfl | (simp; done) | go_num, (HB _ _).out⟩

set_option maxHeartbeats 400000 in
theorem cShift (z i : Nat) (g : Bool) (w : World) (hz : z = 1 ∨ z = 2 ∨ z = 3) (hi : i < z) :
    Calls Try.prog 35 #[.agg #[.int .i64 ((8 * z : Nat) : Int), .bool g], .int .i64 (i : Int)] w fun e w' => e = .returned (.int .i64 ((shiftN z g i : Nat) : Int)) ∧ Below w.heap.size w w' := by
  have HB := fun o => Lib.hid (box_below w o)
  have HB2 := fun o1 o2 => Lib.hid (below2 w o1 o2)
  have HS := fun W => Lib.hid (cSampleBytes z g W hz)
  unfold shiftN
  cases g
  · go_enter Try.func35, Try.ntmps35
    go_wp2
    go_ret
    exact ⟨by simp; omega, (HB _).out⟩
  · rcases hz with rfl | rfl | rfl
    all_goals
      go_enter Try.func35, Try.ntmps35
      go_wp2_with fail
      refine (HS _).out.mono ?_
      rintro e w1 ⟨rfl, rfl⟩
      go_wp2
      go_ret
      exact ⟨by simp; omega, (HB2 _ _).out⟩

theorem shift_cases {z i : Nat} {g : Bool} (hz : z = 1 ∨ z = 2 ∨ z = 3) (hi : i < z) : (z = 1 ∧ shiftN z g i = 0) ∨ (z = 2 ∧ shiftN z g i = 0) ∨ (z = 2 ∧ shiftN z g i = 8) ∨ (z = 3 ∧ shiftN z g i = 0) ∨ (z = 3 ∧ shiftN z g i = 8) ∨ (z = 3 ∧ shiftN z g i = 16) := by
  unfold shiftN
  cases g <;> simp <;> omega

theorem int8_of (b : Nat) (h : b < 256) : IntKind.i8.wrap (b : Int) = sg b := by
  unfold sg
  by_cases h1 : b < 128
  · rw [if_pos h1]
    simp [IntKind.wrap, IntKind.bits, IntKind.signed]
    omega
  · rw [if_neg h1]
    simp [IntKind.wrap, IntKind.bits, IntKind.signed]
    omega

set_option maxHeartbeats 800000 in
theorem cWorth (z b s : Nat) (g : Bool) (w : World) (hs : (z = 1 ∧ s = 0) ∨ (z = 2 ∧ s = 0) ∨ (z = 2 ∧ s = 8) ∨ (z = 3 ∧ s = 0) ∨ (z = 3 ∧ s = 8) ∨ (z = 3 ∧ s = 16)) (hb : b < 256) :
    Calls Try.prog 30 #[.agg #[.int .i64 ((8 * z : Nat) : Int), .bool g], .int .u8 (b : Int), .int .i64 (s : Int)] w fun e w' => e = .returned (.int .i64 (worthI z b s)) ∧ Below w.heap.size w w' := by
  have HB := fun o => Lib.hid (box_below w o)
  have hs8 : -128 ≤ sg b ∧ sg b ≤ 127 := by unfold sg; split <;> omega
  have e8 := int8_of b hb
  obtain ⟨x, hx⟩ : ∃ x, x = sg b := ⟨_, rfl⟩
  rw [← hx] at hs8 e8
  have HX := Lib.hid hx
  clear hx
  rcases hs with ⟨rfl, rfl⟩ | ⟨rfl, rfl⟩ | ⟨rfl, rfl⟩ | ⟨rfl, rfl⟩ | ⟨rfl, rfl⟩ | ⟨rfl, rfl⟩
  all_goals
    go_enter Try.func30, Try.ntmps30
    go_wp2
    go_ret
    refine ⟨?_, (HB _).out⟩
    have := HX.out
    simp [worthI, ← this]
    try omega

set_option maxHeartbeats 400000 in
theorem cIsCount (n : Int) (w : World) :
    Calls Try.prog 25 #[.int .i64 n] w fun e w' => e = .returned (.bool (decide (1 ≤ n ∧ n < 9))) ∧ w' = w := by
  rcases in_split 1 9 n with ⟨t1, t2⟩ | ⟨t1, t2, t3⟩ | ⟨t1, t2, t3⟩
  · go_enter Try.func25, Try.ntmps25
    go_wp2
    go_ret
    exact ⟨by rw [t2]; rfl, rfl⟩
  · have t4 : decide (n ≤ 8) = false := by rw [decide_eq_false_iff_not] at t2 ⊢; omega
    go_enter Try.func25, Try.ntmps25
    go_wp2
    go_ret
    exact ⟨by rw [t3]; rfl, rfl⟩
  · have t4 : decide (n ≤ 8) = true := by rw [decide_eq_true_iff] at t2 ⊢; omega
    go_enter Try.func25, Try.ntmps25
    go_wp2
    go_ret
    exact ⟨by rw [t3]; rfl, rfl⟩
end Go.Proofs.Ytpbbhebongggpaa
