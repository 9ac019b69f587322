import Derived.Test.YtnfpkjnllkkngaaGreatDoorBlkN4

namespace Go.Proofs.YtnfpkjnllkkngaaGreatDoor
open Go.RowKit Go.Proofs Go.Proofs.PipeM Go.Proofs.PipeA Go.Proofs.BlkM Go.Proofs.BlkB Go.Proofs.LatM Go.Proofs.FilM Go.Proofs.LagM
set_option maxRecDepth 100000

/-- What the document's Normal answers. -/
def NormR (l : List Int) (d : Int) (index : List Int) (a g sh : Int) (w : World) (e : Ending) (w' : World) : Prop :=
  (codeN l d index a g sh ≠ 0 ∧ e = .returned (.tuple #[.agg #[.int .i64 0, .int .i64 0, .int .i64 0, .slice none 0 0, .int .i64 0, .int .i64 0, .int .i64 0, .slice none 0 0, .slice none 0 0], .int .i64 (codeN l d index a g sh)]) ∧ Below w.heap.size w w') ∨
  (codeN l d index a g sh = 0 ∧ ∃ ia ra da ic rc dc, e = .returned (.tuple #[blkV (normN l index a g sh) ia ra da ic rc dc, .int .i64 0]) ∧ IntsAt w' ia (normN l index a g sh).index ∧ IntsAt w' ra (normN l index a g sh).rice ∧ IntsAt w' da (normN l index a g sh).data ∧ Below w.heap.size w w')

set_option maxHeartbeats 3200000 in
theorem rNormal_samples (lo io : Option Addr) (lcap icap : Nat) (l index : List Int) (d a g sh : Int) (w : World) (hl : l.length ≤ 1000) (hi : IntsAt w lo l) (hc : chkB l d ≠ 0) :
    Calls Tryz.prog 6 #[.slice lo l.length lcap, .int .i64 d, .slice io index.length icap, .int .i64 a, .int .i64 g, .int .i64 sh] w (NormR l d index a g sh w) := by
  have hb1 := box_below w (.cells #[.int .i64 0, .int .i64 0, .int .i64 0, .slice none 0 0, .int .i64 0, .int .i64 0, .int .i64 0, .slice none 0 0, .slice none 0 0] 27)
  have hB0 := box9_new w (.int .i64 0) (.int .i64 0) (.int .i64 0) (.slice none 0 0) (.int .i64 0) (.int .i64 0) (.int .i64 0) (.slice none 0 0) (.slice none 0 0) 27
  obtain ⟨W0, hW0⟩ : ∃ W0, W0 = w.alloc (.cells #[.int .i64 0, .int .i64 0, .int .i64 0, .slice none 0 0, .int .i64 0, .int .i64 0, .int .i64 0, .slice none 0 0, .slice none 0 0] 27) := ⟨_, rfl⟩
  rw [← hW0] at hb1 hB0
  have hlt1 : w.heap.size < W0.heap.size := hB0.lt
  have HBX := Lib.hid hb1
  have HW0 := Lib.hid hW0
  have HX := Lib.hid hB0
  have hr := Below.refl W0.heap.size W0
  have hcode : codeN l d index a g sh = chkB l d := by unfold codeN; rw [if_pos hc]
  unfold NormR
  rw [hcode]
  have t2 : decide ((1024 : Int) < (l.length : Int)) = false := decide_eq_false (by omega)
  have t2n : decide (1024 < l.length) = false := decide_eq_false (by omega)
  have HRD := Lib.hid (rDepth d W0)
  cases hs : (sizeN (l.length : Int) && depthB d) with
  | false =>
    have h1 : chkB l d = 1 := by unfold chkB; rw [hs]; rfl
    rw [h1]
    rcases Nat.eq_zero_or_pos l.length with h0 | h0
    · have t1 : decide ((l.length : Int) < 1) = true := decide_eq_true (by omega)
      have t1n : decide (l.length < 1) = true := decide_eq_true (by omega)
      clear hi hb1 hB0 hcode hc hs h1 h0 hW0 HRD
      go_enter Tryz.func6, Tryz.ntmps6
      go_wp2
      rw [← HW0.out]
      have c0 := HX.out.c 0 (.int .i64 0) rfl
      have c1 := HX.out.c 1 (.int .i64 0) rfl
      have c2 := HX.out.c 2 (.int .i64 0) rfl
      have c3 := HX.out.c 3 (.slice none 0 0) rfl
      have c4 := HX.out.c 4 (.int .i64 0) rfl
      have c5 := HX.out.c 5 (.int .i64 0) rfl
      have c6 := HX.out.c 6 (.int .i64 0) rfl
      have c7 := HX.out.c 7 (.slice none 0 0) rfl
      have c8 := HX.out.c 8 (.slice none 0 0) rfl
      refine bodyPost_ret (v := .tuple #[.agg #[.int .i64 0, .int .i64 0, .int .i64 0, .slice none 0 0, .int .i64 0, .int .i64 0, .int .i64 0, .slice none 0 0, .slice none 0 0], .int .i64 1]) (by simp [results, Tryz.results6, go_sem, c0, c1, c2, c3, c4, c5, c6, c7, c8]) rfl ?_
      exact .inl ⟨by decide, rfl, HBX.out⟩
    · have h2 : depthB d = false := by
        rw [show sizeN (l.length : Int) = true from decide_eq_true (by omega), Bool.true_and] at hs
        exact hs
      have t1 : decide ((l.length : Int) < 1) = false := decide_eq_false (by omega)
      have t1n : decide (l.length < 1) = false := decide_eq_false (by omega)
      rw [h2] at HRD
      clear hi hb1 hB0 hcode hc hs h1 h0 h2 hW0
      go_enter Tryz.func6, Tryz.ntmps6
      go_wp2_with fail
      rw [← HW0.out]
      refine HRD.out.mono ?_
      rintro e w1 ⟨rfl, rfl⟩
      have hx1 := HX.out.keeps (keeps_of_below hr []) (by simp)
      have c0 := hx1.c 0 (.int .i64 0) rfl
      have c1 := hx1.c 1 (.int .i64 0) rfl
      have c2 := hx1.c 2 (.int .i64 0) rfl
      have c3 := hx1.c 3 (.slice none 0 0) rfl
      have c4 := hx1.c 4 (.int .i64 0) rfl
      have c5 := hx1.c 5 (.int .i64 0) rfl
      have c6 := hx1.c 6 (.int .i64 0) rfl
      have c7 := hx1.c 7 (.slice none 0 0) rfl
      have c8 := hx1.c 8 (.slice none 0 0) rfl
      have f0 := hx1.f 0 (by decide)
      have f1 := hx1.f 1 (by decide)
      have f2 := hx1.f 2 (by decide)
      have f3 := hx1.f 3 (by decide)
      have f4 := hx1.f 4 (by decide)
      have f5 := hx1.f 5 (by decide)
      have f6 := hx1.f 6 (by decide)
      have f7 := hx1.f 7 (by decide)
      have f8 := hx1.f 8 (by decide)
      go_wp2
      obtain ⟨hX8, hk8⟩ := hx1.set9 (.int .i64 0) (.int .i64 0) (.int .i64 0) (.slice none 0 0) (.int .i64 0) (.int .i64 0) (.int .i64 0) (.slice none 0 0) (.slice none 0 0)
      unfold Go.Proofs.YtnfpkjnllkkngaaGreatDoor.set9 at hX8 hk8
      have R0 := hX8.c 0 (.int .i64 0) rfl
      have R1 := hX8.c 1 (.int .i64 0) rfl
      have R2 := hX8.c 2 (.int .i64 0) rfl
      have R3 := hX8.c 3 (.slice none 0 0) rfl
      have R4 := hX8.c 4 (.int .i64 0) rfl
      have R5 := hX8.c 5 (.int .i64 0) rfl
      have R6 := hX8.c 6 (.int .i64 0) rfl
      have R7 := hX8.c 7 (.slice none 0 0) rfl
      have R8 := hX8.c 8 (.slice none 0 0) rfl
      have HE8 := Lib.hid ((HBX.out.trans (hr.mono (Nat.le_of_lt hlt1))).trans (hk8.below (by have := hr.size; omega) (by simp)))
      refine bodyPost_ret (v := .tuple #[.agg #[.int .i64 0, .int .i64 0, .int .i64 0, .slice none 0 0, .int .i64 0, .int .i64 0, .int .i64 0, .slice none 0 0, .slice none 0 0], .int .i64 1]) (by simp [results, Tryz.results6, go_sem, R0, R1, R2, R3, R4, R5, R6, R7, R8]) rfl ?_
      exact .inl ⟨by decide, rfl, HE8.out⟩
  | true =>
    have hs' := hs
    rw [Bool.and_eq_true] at hs'
    obtain ⟨m, rfl, hm1, hm2⟩ := depthB_of hs'.2
    obtain ⟨k, hk, hk1, hk2⟩ := sizeN_of hs'.1
    have ha : l.all (hasP (halfOf (m : Int))) = false := by
      cases ha : l.all (hasP (halfOf (m : Int))) with
      | false => rfl
      | true => exact absurd (by unfold chkB; rw [hs, ha]; rfl) hc
    have h9 : chkB l m = 9 := by unfold chkB; rw [hs, ha]; rfl
    rw [h9]
    have HAL := Lib.hid (rAll lo lcap l m W0 hm1 hm2 (by omega) (hi.below hb1))
    rw [ha] at HAL
    rw [hs'.2] at HRD
    have t1 : decide ((l.length : Int) < 1) = false := decide_eq_false (by omega)
    have t1n : decide (l.length < 1) = false := decide_eq_false (by omega)
    clear hi hb1 hB0 hcode hc hs hs' h9 ha hk hk1 hk2 hm1 hm2 hW0
    go_enter Tryz.func6, Tryz.ntmps6
    go_wp2_with fail
    rw [← HW0.out]
    refine HRD.out.mono ?_
    rintro e w1 ⟨rfl, rfl⟩
    go_wp2_with fail
    refine HAL.out.mono ?_
    rintro e w1 ⟨rfl, rfl⟩
    have hx1 := HX.out.keeps (keeps_of_below hr []) (by simp)
    have c0 := hx1.c 0 (.int .i64 0) rfl
    have c1 := hx1.c 1 (.int .i64 0) rfl
    have c2 := hx1.c 2 (.int .i64 0) rfl
    have c3 := hx1.c 3 (.slice none 0 0) rfl
    have c4 := hx1.c 4 (.int .i64 0) rfl
    have c5 := hx1.c 5 (.int .i64 0) rfl
    have c6 := hx1.c 6 (.int .i64 0) rfl
    have c7 := hx1.c 7 (.slice none 0 0) rfl
    have c8 := hx1.c 8 (.slice none 0 0) rfl
    have f0 := hx1.f 0 (by decide)
    have f1 := hx1.f 1 (by decide)
    have f2 := hx1.f 2 (by decide)
    have f3 := hx1.f 3 (by decide)
    have f4 := hx1.f 4 (by decide)
    have f5 := hx1.f 5 (by decide)
    have f6 := hx1.f 6 (by decide)
    have f7 := hx1.f 7 (by decide)
    have f8 := hx1.f 8 (by decide)
    go_wp2
    obtain ⟨hX8, hk8⟩ := hx1.set9 (.int .i64 0) (.int .i64 0) (.int .i64 0) (.slice none 0 0) (.int .i64 0) (.int .i64 0) (.int .i64 0) (.slice none 0 0) (.slice none 0 0)
    unfold Go.Proofs.YtnfpkjnllkkngaaGreatDoor.set9 at hX8 hk8
    have R0 := hX8.c 0 (.int .i64 0) rfl
    have R1 := hX8.c 1 (.int .i64 0) rfl
    have R2 := hX8.c 2 (.int .i64 0) rfl
    have R3 := hX8.c 3 (.slice none 0 0) rfl
    have R4 := hX8.c 4 (.int .i64 0) rfl
    have R5 := hX8.c 5 (.int .i64 0) rfl
    have R6 := hX8.c 6 (.int .i64 0) rfl
    have R7 := hX8.c 7 (.slice none 0 0) rfl
    have R8 := hX8.c 8 (.slice none 0 0) rfl
    have HE8 := Lib.hid ((HBX.out.trans (hr.mono (Nat.le_of_lt hlt1))).trans (hk8.below (by have := hr.size; omega) (by simp)))
    refine bodyPost_ret (v := .tuple #[.agg #[.int .i64 0, .int .i64 0, .int .i64 0, .slice none 0 0, .int .i64 0, .int .i64 0, .int .i64 0, .slice none 0 0, .slice none 0 0], .int .i64 9]) (by simp [results, Tryz.results6, go_sem, R0, R1, R2, R3, R4, R5, R6, R7, R8]) rfl ?_
    exact .inl ⟨by decide, rfl, HE8.out⟩

set_option maxHeartbeats 3200000 in
theorem rNormal_form (lo io : Option Addr) (lcap icap : Nat) (l index : List Int) (d a g sh : Int) (w : World) (hl : l.length ≤ 1000) (hil : index.length ≤ 1000) (hi : IntsAt w lo l) (hj : IntsAt w io index) (hc : chkB l d = 0) (hf : (shiftB d sh && goodL index && goodT a g) = false) :
    Calls Tryz.prog 6 #[.slice lo l.length lcap, .int .i64 d, .slice io index.length icap, .int .i64 a, .int .i64 g, .int .i64 sh] w (NormR l d index a g sh w) := by
  have hb1 := box_below w (.cells #[.int .i64 0, .int .i64 0, .int .i64 0, .slice none 0 0, .int .i64 0, .int .i64 0, .int .i64 0, .slice none 0 0, .slice none 0 0] 27)
  have hB0 := box9_new w (.int .i64 0) (.int .i64 0) (.int .i64 0) (.slice none 0 0) (.int .i64 0) (.int .i64 0) (.int .i64 0) (.slice none 0 0) (.slice none 0 0) 27
  obtain ⟨W0, hW0⟩ : ∃ W0, W0 = w.alloc (.cells #[.int .i64 0, .int .i64 0, .int .i64 0, .slice none 0 0, .int .i64 0, .int .i64 0, .int .i64 0, .slice none 0 0, .slice none 0 0] 27) := ⟨_, rfl⟩
  rw [← hW0] at hb1 hB0
  have hlt1 : w.heap.size < W0.heap.size := hB0.lt
  have HBX := Lib.hid hb1
  have HW0 := Lib.hid hW0
  have HX := Lib.hid hB0
  have hr := Below.refl W0.heap.size W0
  have hs := chk_sizes (l := l) (d := d) (by omega)
  have hsz := hs
  rw [Bool.and_eq_true] at hs
  obtain ⟨m, rfl, hm1, hm2⟩ := depthB_of hs.2
  obtain ⟨k, hk, hk1, hk2⟩ := sizeN_of hs.1
  have ha : l.all (hasP (halfOf (m : Int))) = true := by
    cases ha : l.all (hasP (halfOf (m : Int))) with
    | true => rfl
    | false => unfold chkB at hc; rw [hsz, ha, if_neg (by simp)] at hc; exact absurd hc (by decide)
  have HRD := Lib.hid (rDepth m W0)
  rw [hs.2] at HRD
  have HAL := Lib.hid (rAll lo lcap l m W0 hm1 hm2 (by omega) (hi.below hb1))
  rw [ha] at HAL
  have HLG := Lib.hid (Fx.rGood io icap index W0 (by omega) (hj.below hb1))
  have HTG := Lib.hid (Gx.rGood a g W0)
  have t2 : decide ((1024 : Int) < (l.length : Int)) = false := decide_eq_false (by omega)
  have t2n : decide (1024 < l.length) = false := decide_eq_false (by omega)
  have t1 : decide ((l.length : Int) < 1) = false := decide_eq_false (by omega)
  have t1n : decide (l.length < 1) = false := decide_eq_false (by omega)
  have hcode : codeN l m index a g sh = 2 := by unfold codeN; rw [hc, if_neg (by simp), hf]; rfl
  unfold NormR
  rw [hcode]
  by_cases h0 : sh < 0
  · have t3 : decide (sh < 0) = true := decide_eq_true h0
    clear hi hj hb1 hB0 hcode hc hf ha hk hk1 hk2 hm1 hm2 hs hsz h0 HLG HTG hW0
    go_enter Tryz.func6, Tryz.ntmps6
    go_wp2_with fail
    rw [← HW0.out]
    refine HRD.out.mono ?_
    rintro e w1 ⟨rfl, rfl⟩
    go_wp2_with fail
    refine HAL.out.mono ?_
    rintro e w1 ⟨rfl, rfl⟩
    have hx1 := HX.out.keeps (keeps_of_below hr []) (by simp)
    have c0 := hx1.c 0 (.int .i64 0) rfl
    have c1 := hx1.c 1 (.int .i64 0) rfl
    have c2 := hx1.c 2 (.int .i64 0) rfl
    have c3 := hx1.c 3 (.slice none 0 0) rfl
    have c4 := hx1.c 4 (.int .i64 0) rfl
    have c5 := hx1.c 5 (.int .i64 0) rfl
    have c6 := hx1.c 6 (.int .i64 0) rfl
    have c7 := hx1.c 7 (.slice none 0 0) rfl
    have c8 := hx1.c 8 (.slice none 0 0) rfl
    have f0 := hx1.f 0 (by decide)
    have f1 := hx1.f 1 (by decide)
    have f2 := hx1.f 2 (by decide)
    have f3 := hx1.f 3 (by decide)
    have f4 := hx1.f 4 (by decide)
    have f5 := hx1.f 5 (by decide)
    have f6 := hx1.f 6 (by decide)
    have f7 := hx1.f 7 (by decide)
    have f8 := hx1.f 8 (by decide)
    go_wp2
    obtain ⟨hX8, hk8⟩ := hx1.set9 (.int .i64 0) (.int .i64 0) (.int .i64 0) (.slice none 0 0) (.int .i64 0) (.int .i64 0) (.int .i64 0) (.slice none 0 0) (.slice none 0 0)
    unfold Go.Proofs.YtnfpkjnllkkngaaGreatDoor.set9 at hX8 hk8
    have R0 := hX8.c 0 (.int .i64 0) rfl
    have R1 := hX8.c 1 (.int .i64 0) rfl
    have R2 := hX8.c 2 (.int .i64 0) rfl
    have R3 := hX8.c 3 (.slice none 0 0) rfl
    have R4 := hX8.c 4 (.int .i64 0) rfl
    have R5 := hX8.c 5 (.int .i64 0) rfl
    have R6 := hX8.c 6 (.int .i64 0) rfl
    have R7 := hX8.c 7 (.slice none 0 0) rfl
    have R8 := hX8.c 8 (.slice none 0 0) rfl
    have HE8 := Lib.hid ((HBX.out.trans (hr.mono (Nat.le_of_lt hlt1))).trans (hk8.below (by have := hr.size; omega) (by simp)))
    refine bodyPost_ret (v := .tuple #[.agg #[.int .i64 0, .int .i64 0, .int .i64 0, .slice none 0 0, .int .i64 0, .int .i64 0, .int .i64 0, .slice none 0 0, .slice none 0 0], .int .i64 2]) (by simp [results, Tryz.results6, go_sem, R0, R1, R2, R3, R4, R5, R6, R7, R8]) rfl ?_
    exact .inl ⟨by decide, rfl, HE8.out⟩
  · obtain ⟨s, rfl⟩ : ∃ s : Nat, sh = s := ⟨sh.toNat, by omega⟩
    have t3 : decide ((s : Int) < 0) = false := decide_eq_false (by omega)
    by_cases h1 : m ≤ s
    · have t4 : decide ((m : Int) ≤ (s : Int)) = true := decide_eq_true (by omega)
      have t4n : decide (m ≤ s) = true := decide_eq_true h1
      clear hi hj hb1 hB0 hcode hc hf ha hk hk1 hk2 hm1 hm2 hs hsz h0 h1 HLG HTG hW0
      go_enter Tryz.func6, Tryz.ntmps6
      go_wp2_with fail
      rw [← HW0.out]
      refine HRD.out.mono ?_
      rintro e w1 ⟨rfl, rfl⟩
      go_wp2_with fail
      refine HAL.out.mono ?_
      rintro e w1 ⟨rfl, rfl⟩
      have hx1 := HX.out.keeps (keeps_of_below hr []) (by simp)
      have c0 := hx1.c 0 (.int .i64 0) rfl
      have c1 := hx1.c 1 (.int .i64 0) rfl
      have c2 := hx1.c 2 (.int .i64 0) rfl
      have c3 := hx1.c 3 (.slice none 0 0) rfl
      have c4 := hx1.c 4 (.int .i64 0) rfl
      have c5 := hx1.c 5 (.int .i64 0) rfl
      have c6 := hx1.c 6 (.int .i64 0) rfl
      have c7 := hx1.c 7 (.slice none 0 0) rfl
      have c8 := hx1.c 8 (.slice none 0 0) rfl
      have f0 := hx1.f 0 (by decide)
      have f1 := hx1.f 1 (by decide)
      have f2 := hx1.f 2 (by decide)
      have f3 := hx1.f 3 (by decide)
      have f4 := hx1.f 4 (by decide)
      have f5 := hx1.f 5 (by decide)
      have f6 := hx1.f 6 (by decide)
      have f7 := hx1.f 7 (by decide)
      have f8 := hx1.f 8 (by decide)
      go_wp2
      obtain ⟨hX8, hk8⟩ := hx1.set9 (.int .i64 0) (.int .i64 0) (.int .i64 0) (.slice none 0 0) (.int .i64 0) (.int .i64 0) (.int .i64 0) (.slice none 0 0) (.slice none 0 0)
      unfold Go.Proofs.YtnfpkjnllkkngaaGreatDoor.set9 at hX8 hk8
      have R0 := hX8.c 0 (.int .i64 0) rfl
      have R1 := hX8.c 1 (.int .i64 0) rfl
      have R2 := hX8.c 2 (.int .i64 0) rfl
      have R3 := hX8.c 3 (.slice none 0 0) rfl
      have R4 := hX8.c 4 (.int .i64 0) rfl
      have R5 := hX8.c 5 (.int .i64 0) rfl
      have R6 := hX8.c 6 (.int .i64 0) rfl
      have R7 := hX8.c 7 (.slice none 0 0) rfl
      have R8 := hX8.c 8 (.slice none 0 0) rfl
      have HE8 := Lib.hid ((HBX.out.trans (hr.mono (Nat.le_of_lt hlt1))).trans (hk8.below (by have := hr.size; omega) (by simp)))
      refine bodyPost_ret (v := .tuple #[.agg #[.int .i64 0, .int .i64 0, .int .i64 0, .slice none 0 0, .int .i64 0, .int .i64 0, .int .i64 0, .slice none 0 0, .slice none 0 0], .int .i64 2]) (by simp [results, Tryz.results6, go_sem, R0, R1, R2, R3, R4, R5, R6, R7, R8]) rfl ?_
      exact .inl ⟨by decide, rfl, HE8.out⟩
    · have t4 : decide ((m : Int) ≤ (s : Int)) = false := decide_eq_false (by omega)
      have t4n : decide (m ≤ s) = false := decide_eq_false h1
      rw [show shiftB m s = true from decide_eq_true (by omega), Bool.true_and] at hf
      cases h3 : goodL index with
      | false =>
        rw [h3] at HLG
        clear hi hj hb1 hB0 hcode hc hf ha hk hk1 hk2 hm1 hm2 hs hsz h0 h1 h3 HTG hW0
        go_enter Tryz.func6, Tryz.ntmps6
        go_wp2_with fail
        rw [← HW0.out]
        refine HRD.out.mono ?_
        rintro e w1 ⟨rfl, rfl⟩
        go_wp2_with fail
        refine HAL.out.mono ?_
        rintro e w1 ⟨rfl, rfl⟩
        go_wp2_with fail
        refine HLG.out.mono ?_
        rintro e w1 ⟨rfl, rfl⟩
        have hx1 := HX.out.keeps (keeps_of_below hr []) (by simp)
        have c0 := hx1.c 0 (.int .i64 0) rfl
        have c1 := hx1.c 1 (.int .i64 0) rfl
        have c2 := hx1.c 2 (.int .i64 0) rfl
        have c3 := hx1.c 3 (.slice none 0 0) rfl
        have c4 := hx1.c 4 (.int .i64 0) rfl
        have c5 := hx1.c 5 (.int .i64 0) rfl
        have c6 := hx1.c 6 (.int .i64 0) rfl
        have c7 := hx1.c 7 (.slice none 0 0) rfl
        have c8 := hx1.c 8 (.slice none 0 0) rfl
        have f0 := hx1.f 0 (by decide)
        have f1 := hx1.f 1 (by decide)
        have f2 := hx1.f 2 (by decide)
        have f3 := hx1.f 3 (by decide)
        have f4 := hx1.f 4 (by decide)
        have f5 := hx1.f 5 (by decide)
        have f6 := hx1.f 6 (by decide)
        have f7 := hx1.f 7 (by decide)
        have f8 := hx1.f 8 (by decide)
        go_wp2
        obtain ⟨hX8, hk8⟩ := hx1.set9 (.int .i64 0) (.int .i64 0) (.int .i64 0) (.slice none 0 0) (.int .i64 0) (.int .i64 0) (.int .i64 0) (.slice none 0 0) (.slice none 0 0)
        unfold Go.Proofs.YtnfpkjnllkkngaaGreatDoor.set9 at hX8 hk8
        have R0 := hX8.c 0 (.int .i64 0) rfl
        have R1 := hX8.c 1 (.int .i64 0) rfl
        have R2 := hX8.c 2 (.int .i64 0) rfl
        have R3 := hX8.c 3 (.slice none 0 0) rfl
        have R4 := hX8.c 4 (.int .i64 0) rfl
        have R5 := hX8.c 5 (.int .i64 0) rfl
        have R6 := hX8.c 6 (.int .i64 0) rfl
        have R7 := hX8.c 7 (.slice none 0 0) rfl
        have R8 := hX8.c 8 (.slice none 0 0) rfl
        have HE8 := Lib.hid ((HBX.out.trans (hr.mono (Nat.le_of_lt hlt1))).trans (hk8.below (by have := hr.size; omega) (by simp)))
        refine bodyPost_ret (v := .tuple #[.agg #[.int .i64 0, .int .i64 0, .int .i64 0, .slice none 0 0, .int .i64 0, .int .i64 0, .int .i64 0, .slice none 0 0, .slice none 0 0], .int .i64 2]) (by simp [results, Tryz.results6, go_sem, R0, R1, R2, R3, R4, R5, R6, R7, R8]) rfl ?_
        exact .inl ⟨by decide, rfl, HE8.out⟩
      | true =>
        have h4 : goodT a g = false := by rw [h3] at hf; simpa using hf
        rw [h3] at HLG
        rw [h4] at HTG
        clear hi hj hb1 hB0 hcode hc hf ha hk hk1 hk2 hm1 hm2 hs hsz h0 h1 h3 h4 hW0
        go_enter Tryz.func6, Tryz.ntmps6
        go_wp2_with fail
        rw [← HW0.out]
        refine HRD.out.mono ?_
        rintro e w1 ⟨rfl, rfl⟩
        go_wp2_with fail
        refine HAL.out.mono ?_
        rintro e w1 ⟨rfl, rfl⟩
        go_wp2_with fail
        refine HLG.out.mono ?_
        rintro e w1 ⟨rfl, rfl⟩
        go_wp2_with fail
        refine HTG.out.mono ?_
        rintro e w1 ⟨rfl, rfl⟩
        have hx1 := HX.out.keeps (keeps_of_below hr []) (by simp)
        have c0 := hx1.c 0 (.int .i64 0) rfl
        have c1 := hx1.c 1 (.int .i64 0) rfl
        have c2 := hx1.c 2 (.int .i64 0) rfl
        have c3 := hx1.c 3 (.slice none 0 0) rfl
        have c4 := hx1.c 4 (.int .i64 0) rfl
        have c5 := hx1.c 5 (.int .i64 0) rfl
        have c6 := hx1.c 6 (.int .i64 0) rfl
        have c7 := hx1.c 7 (.slice none 0 0) rfl
        have c8 := hx1.c 8 (.slice none 0 0) rfl
        have f0 := hx1.f 0 (by decide)
        have f1 := hx1.f 1 (by decide)
        have f2 := hx1.f 2 (by decide)
        have f3 := hx1.f 3 (by decide)
        have f4 := hx1.f 4 (by decide)
        have f5 := hx1.f 5 (by decide)
        have f6 := hx1.f 6 (by decide)
        have f7 := hx1.f 7 (by decide)
        have f8 := hx1.f 8 (by decide)
        go_wp2
        obtain ⟨hX8, hk8⟩ := hx1.set9 (.int .i64 0) (.int .i64 0) (.int .i64 0) (.slice none 0 0) (.int .i64 0) (.int .i64 0) (.int .i64 0) (.slice none 0 0) (.slice none 0 0)
        unfold Go.Proofs.YtnfpkjnllkkngaaGreatDoor.set9 at hX8 hk8
        have R0 := hX8.c 0 (.int .i64 0) rfl
        have R1 := hX8.c 1 (.int .i64 0) rfl
        have R2 := hX8.c 2 (.int .i64 0) rfl
        have R3 := hX8.c 3 (.slice none 0 0) rfl
        have R4 := hX8.c 4 (.int .i64 0) rfl
        have R5 := hX8.c 5 (.int .i64 0) rfl
        have R6 := hX8.c 6 (.int .i64 0) rfl
        have R7 := hX8.c 7 (.slice none 0 0) rfl
        have R8 := hX8.c 8 (.slice none 0 0) rfl
        have HE8 := Lib.hid ((HBX.out.trans (hr.mono (Nat.le_of_lt hlt1))).trans (hk8.below (by have := hr.size; omega) (by simp)))
        refine bodyPost_ret (v := .tuple #[.agg #[.int .i64 0, .int .i64 0, .int .i64 0, .slice none 0 0, .int .i64 0, .int .i64 0, .int .i64 0, .slice none 0 0, .slice none 0 0], .int .i64 2]) (by simp [results, Tryz.results6, go_sem, R0, R1, R2, R3, R4, R5, R6, R7, R8]) rfl ?_
        exact .inl ⟨by decide, rfl, HE8.out⟩
end Go.Proofs.YtnfpkjnllkkngaaGreatDoor
