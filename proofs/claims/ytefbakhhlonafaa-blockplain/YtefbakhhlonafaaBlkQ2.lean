import Derived.Test.YtefbakhhlonafaaBlkQB

namespace Go.Proofs.Ytefbakhhlonafaa
open Go.RowKit Go.Proofs Go.Proofs.BlkM Go.Proofs.BlkB
set_option maxRecDepth 100000

/-- The plain block of samples. -/
def plainK (l : List Int) : Blk := if allN l 0 then ⟨0, 0, 0, [], 0, 0, 0, [], []⟩ else if allN l (l.headD 0) then ⟨1, l.headD 0, 0, [], 0, 0, 0, [], []⟩ else ⟨3, 0, 0, [], 0, 0, 0, [], l⟩
theorem allN_rep {l : List Int} {n : Int} (h : allN l n = true) : l = List.replicate l.length n := by
  unfold allN at h
  rw [List.all_eq_true] at h
  exact List.eq_replicate_iff.2 ⟨rfl, fun b hb => by simpa using h b hb⟩
theorem plain_form (l : List Int) (m : Nat) : formB (plainK l) l.length m = 0 := by
  unfold plainK
  split
  · simp [formB, wrongKind, wrongMore, wrongData, wrongNormal]
  · split
    · simp [formB, wrongKind, wrongMore, wrongData, wrongNormal]
    · simp [formB, wrongKind, wrongMore, wrongData, wrongNormal]
theorem plain_out (l : List Int) : outB (plainK l) l.length = l := by
  unfold plainK
  split
  · rename_i h; simp only [outB]; exact (allN_rep h).symm
  · split
    · rename_i h; simp only [outB]; exact (allN_rep h).symm
    · simp [outB]
theorem plain_kind2 (l : List Int) : (plainK l).kind ≠ 2 := by
  unfold plainK
  split
  · simp
  · split <;> simp
theorem chk_sizes {l : List Int} {d : Int} (h : chkB l d ≠ 1) : (sizeN (l.length : Int) && depthB d) = true := by
  cases hs : (sizeN (l.length : Int) && depthB d) with
  | true => rfl
  | false => exact absurd (by unfold chkB; rw [hs]; rfl) h
theorem plain_code {l : List Int} {d : Int} (h : chkB l d = 0) : codeB (plainK l) l.length d = 0 := by
  have hs := chk_sizes (l := l) (d := d) (by omega)
  have hs' := hs
  rw [Bool.and_eq_true] at hs'
  obtain ⟨m, rfl, h1, h2⟩ := depthB_of hs'.2
  rw [codeB_all hs (plain_form l m) (by unfold wrongOut; rw [decide_eq_false (plain_kind2 l)]; rfl)]
  rw [show ((l.length : Int)).toNat = l.length from rfl, plain_out]
  unfold chkB at h
  rw [hs, if_neg (by simp)] at h
  cases ha : l.all (hasP (halfOf (m : Int))) with
  | true => rfl
  | false => rw [ha] at h; exact absurd h (by decide)
def PlainIs (l : List Int) (w : World) (e : Ending) (w' : World) : Prop :=
  ∃ ia ra da ic rc dc, e = .returned (.tuple #[blkV (plainK l) ia ra da ic rc dc, .int .i64 0]) ∧ BlkIn w' (plainK l) ia ra da ic rc dc ∧ Below w.heap.size w w'
theorem ints_nil (w : World) (ao : Option Addr) : IntsAt w ao [] := fun j hj => absurd hj (by simp)
theorem blk_none_in (w : World) (k v : Int) : BlkIn w ⟨k, v, 0, [], 0, 0, 0, [], []⟩ none none none 0 0 0 := ⟨ints_nil _ _, ints_nil _ _, ints_nil _ _, by simp, by simp, by simp, by simp, by simp, by simp⟩

set_option maxHeartbeats 1600000 in
/-- Plain of what may not be told. -/
theorem cPlain_no (ao : Option Addr) (cap : Nat) (l : List Int) (d : Int) (w : World) (hl : l.length ≤ 1000000) (hi : IntsAt w ao l) (ck : Int) (hc : chkB l d = ck) (h0 : ck ≠ 0) :
    Calls Try.prog 10 #[.slice ao l.length cap, .int .i64 d] w fun e w' => e = .returned (.tuple #[.agg #[.int .i64 0, .int .i64 0, .int .i64 0, .slice none 0 0, .int .i64 0, .int .i64 0, .int .i64 0, .slice none 0 0, .slice none 0 0], .int .i64 ck]) ∧ Below w.heap.size w w' := by
  have hbx := box_below w (.cells #[.int .i64 0, .int .i64 0, .int .i64 0, .slice none 0 0, .int .i64 0, .int .i64 0, .int .i64 0, .slice none 0 0, .slice none 0 0] 24)
  have hB0 := box9_new w (.int .i64 0) (.int .i64 0) (.int .i64 0) (.slice none 0 0) (.int .i64 0) (.int .i64 0) (.int .i64 0) (.slice none 0 0) (.slice none 0 0) 24
  obtain ⟨W0, hW0⟩ : ∃ W0, W0 = w.alloc (.cells #[.int .i64 0, .int .i64 0, .int .i64 0, .slice none 0 0, .int .i64 0, .int .i64 0, .int .i64 0, .slice none 0 0, .slice none 0 0] 24) := ⟨_, rfl⟩
  rw [← hW0] at hbx hB0
  have hi0 := hi.below hbx
  have HCK := Lib.hid (cCheck ao cap l d W0 hl hi0)
  have HBX := Lib.hid hbx
  have HW0 := Lib.hid hW0
  have HX := Lib.hid hB0
  have hs0 : w.heap.size < W0.heap.size := hB0.lt
  have t1 : (ck != 0) = true := bne_iff_ne.2 h0
  rw [hc] at HCK
  have hb1 := Below.refl W0.heap.size W0
  clear hi hi0 hc h0 hbx hW0 hB0
  go_enter Try.func10, Try.ntmps10
  go_wp2_with fail
  rw [← HW0.out]
  refine HCK.out.mono ?_
  rintro e w1 ⟨rfl, rfl⟩
  have hx1 := HX.out.keeps (keeps_of_below hb1 []) (by simp)
  have c0 := hx1.c 0 (.int .i64 0) rfl
  have c1 := hx1.c 1 (.int .i64 0) rfl
  have c2 := hx1.c 2 (.int .i64 0) rfl
  have c3 := hx1.c 3 (.slice none 0 0) rfl
  have c4 := hx1.c 4 (.int .i64 0) rfl
  have c5 := hx1.c 5 (.int .i64 0) rfl
  have c6 := hx1.c 6 (.int .i64 0) rfl
  have c7 := hx1.c 7 (.slice none 0 0) rfl
  have c8 := hx1.c 8 (.slice none 0 0) rfl
  have f0 := hx1.f 0 (by decide)
  have f1 := hx1.f 1 (by decide)
  have f2 := hx1.f 2 (by decide)
  have f3 := hx1.f 3 (by decide)
  have f4 := hx1.f 4 (by decide)
  have f5 := hx1.f 5 (by decide)
  have f6 := hx1.f 6 (by decide)
  have f7 := hx1.f 7 (by decide)
  have f8 := hx1.f 8 (by decide)
  go_wp2
  obtain ⟨hX8, hk8⟩ := hx1.set9 (.int .i64 0) (.int .i64 0) (.int .i64 0) (.slice none 0 0) (.int .i64 0) (.int .i64 0) (.int .i64 0) (.slice none 0 0) (.slice none 0 0)
  unfold Go.Proofs.Ytefbakhhlonafaa.set9 at hX8 hk8
  have R0 := hX8.c 0 (.int .i64 0) rfl
  have R1 := hX8.c 1 (.int .i64 0) rfl
  have R2 := hX8.c 2 (.int .i64 0) rfl
  have R3 := hX8.c 3 (.slice none 0 0) rfl
  have R4 := hX8.c 4 (.int .i64 0) rfl
  have R5 := hX8.c 5 (.int .i64 0) rfl
  have R6 := hX8.c 6 (.int .i64 0) rfl
  have R7 := hX8.c 7 (.slice none 0 0) rfl
  have R8 := hX8.c 8 (.slice none 0 0) rfl
  have HE8 := Lib.hid ((HBX.out.trans (hb1.mono (Nat.le_of_lt hs0))).trans (hk8.below (by have := hb1.size; omega) (by simp)))
  refine bodyPost_ret (v := .tuple #[.agg #[.int .i64 0, .int .i64 0, .int .i64 0, .slice none 0 0, .int .i64 0, .int .i64 0, .int .i64 0, .slice none 0 0, .slice none 0 0], .int .i64 ck]) (by simp [results, Try.results10, go_sem, R0, R1, R2, R3, R4, R5, R6, R7, R8]) rfl ?_
  exact ⟨rfl, HE8.out⟩

set_option maxHeartbeats 3200000 in
theorem cPlain (ao : Option Addr) (cap : Nat) (l : List Int) (d : Int) (w : World) (hl : l.length ≤ 1000000) (hi : IntsAt w ao l) (hc : chkB l d = 0) :
    Calls Try.prog 10 #[.slice ao l.length cap, .int .i64 d] w (PlainIs l w) := by
  have hbx := box_below w (.cells #[.int .i64 0, .int .i64 0, .int .i64 0, .slice none 0 0, .int .i64 0, .int .i64 0, .int .i64 0, .slice none 0 0, .slice none 0 0] 24)
  have hB0 := box9_new w (.int .i64 0) (.int .i64 0) (.int .i64 0) (.slice none 0 0) (.int .i64 0) (.int .i64 0) (.int .i64 0) (.slice none 0 0) (.slice none 0 0) 24
  obtain ⟨W0, hW0⟩ : ∃ W0, W0 = w.alloc (.cells #[.int .i64 0, .int .i64 0, .int .i64 0, .slice none 0 0, .int .i64 0, .int .i64 0, .int .i64 0, .slice none 0 0, .slice none 0 0] 24) := ⟨_, rfl⟩
  rw [← hW0] at hbx hB0
  have hi0 := hi.below hbx
  have HCK := Lib.hid (cCheck ao cap l d W0 hl hi0)
  have HIA := fun n W (hb : Below W0.heap.size W0 W) => Lib.hid (cIsAll ao cap l n W (by omega) (hi0.below hb))
  have HBX := Lib.hid hbx
  have HW0 := Lib.hid hW0
  have HX := Lib.hid hB0
  have hs0 : w.heap.size < W0.heap.size := hB0.lt
  have hs := chk_sizes (l := l) (d := d) (by omega)
  rw [Bool.and_eq_true] at hs
  obtain ⟨k, hk, hk1, hk2⟩ := sizeN_of hs.1
  have hp : 0 < l.length := by omega
  have hl2 : l.length ≤ 1024 := by omega
  have HCL := fun W (hb : Below W0.heap.size W0 W) (g off : Nat) (ha : ao = some ⟨g, off, none⟩) => Lib.hid (Gx.cClone ⟨g, off, none⟩ cap l W (by omega) (ha ▸ hi0.below hb))
  have HI0 := Lib.hid hi0
  obtain ⟨g, off, rfl, hg, hcell⟩ := hi0 0 hp
  have HCL := fun W (hb : Below W0.heap.size W0 W) => HCL W hb g off rfl
  have HG := Lib.hid hg
  rw [Nat.add_zero] at hcell
  have hhd : l.headD 0 = l[0] := by cases l with | nil => simp at hp | cons x r => rfl
  have HHD := Lib.hid hhd
  have HC := Lib.hid hc
  rw [hc] at HCK
  unfold PlainIs
  generalize l[0] = x at hcell HHD
  have t1 : (decide (0 < l.length)) = true := decide_eq_true hp
  have HL2 := Lib.hid hl2
  clear hi hi0 hs hk hk1 hk2 hc hbx hW0 hB0 hhd hg
  cases h0 : allN l 0 with
  | true =>
    have HKK : Hid (plainK l = ⟨0, 0, 0, [], 0, 0, 0, [], []⟩) := by show _ = _; unfold plainK; rw [if_pos h0]
    have HI1 := HIA 0 W0 (Below.refl _ _)
    rw [h0] at HI1
    rw [HKK.out]
    clear h0 HIA HCL hcell HHD HI0 HC HKK
    go_enter Try.func10, Try.ntmps10
    go_wp2_with fail
    rw [← HW0.out]
    refine HCK.out.mono ?_
    rintro e w1 ⟨rfl, rfl⟩
    go_wp2_with fail
    refine HI1.out.mono ?_
    rintro e w1 ⟨rfl, hb1⟩
    have hx1 := HX.out.keeps (keeps_of_below hb1 []) (by simp)
    have c0 := hx1.c 0 (.int .i64 0) rfl
    have c1 := hx1.c 1 (.int .i64 0) rfl
    have c2 := hx1.c 2 (.int .i64 0) rfl
    have c3 := hx1.c 3 (.slice none 0 0) rfl
    have c4 := hx1.c 4 (.int .i64 0) rfl
    have c5 := hx1.c 5 (.int .i64 0) rfl
    have c6 := hx1.c 6 (.int .i64 0) rfl
    have c7 := hx1.c 7 (.slice none 0 0) rfl
    have c8 := hx1.c 8 (.slice none 0 0) rfl
    have f0 := hx1.f 0 (by decide)
    have f1 := hx1.f 1 (by decide)
    have f2 := hx1.f 2 (by decide)
    have f3 := hx1.f 3 (by decide)
    have f4 := hx1.f 4 (by decide)
    have f5 := hx1.f 5 (by decide)
    have f6 := hx1.f 6 (by decide)
    have f7 := hx1.f 7 (by decide)
    have f8 := hx1.f 8 (by decide)
    go_wp2
    obtain ⟨hX8, hk8⟩ := hx1.set9 (.int .i64 0) (.int .i64 0) (.int .i64 0) (.slice none 0 0) (.int .i64 0) (.int .i64 0) (.int .i64 0) (.slice none 0 0) (.slice none 0 0)
    unfold Go.Proofs.Ytefbakhhlonafaa.set9 at hX8 hk8
    have R0 := hX8.c 0 (.int .i64 0) rfl
    have R1 := hX8.c 1 (.int .i64 0) rfl
    have R2 := hX8.c 2 (.int .i64 0) rfl
    have R3 := hX8.c 3 (.slice none 0 0) rfl
    have R4 := hX8.c 4 (.int .i64 0) rfl
    have R5 := hX8.c 5 (.int .i64 0) rfl
    have R6 := hX8.c 6 (.int .i64 0) rfl
    have R7 := hX8.c 7 (.slice none 0 0) rfl
    have R8 := hX8.c 8 (.slice none 0 0) rfl
    have HE8 := Lib.hid ((HBX.out.trans (hb1.mono (Nat.le_of_lt hs0))).trans (hk8.below (by have := hb1.size; omega) (by simp)))
    refine bodyPost_ret (v := .tuple #[.agg #[.int .i64 0, .int .i64 0, .int .i64 0, .slice none 0 0, .int .i64 0, .int .i64 0, .int .i64 0, .slice none 0 0, .slice none 0 0], .int .i64 0]) (by simp [results, Try.results10, go_sem, R0, R1, R2, R3, R4, R5, R6, R7, R8]) rfl ?_
    exact ⟨none, none, none, 0, 0, 0, rfl, blk_none_in _ _ _, HE8.out⟩
  | false =>
    have HI1 := HIA 0 W0 (Below.refl _ _)
    rw [h0] at HI1
    have HI2 := fun W hb => HIA (l.headD 0) W hb
    cases h1 : allN l (l.headD 0) with
    | true =>
      have HKK : Hid (plainK l = ⟨1, l.headD 0, 0, [], 0, 0, 0, [], []⟩) := by show _ = _; unfold plainK; rw [h0, h1]; rfl
      rw [h1] at HI2
      rw [HKK.out, HHD.out]
      rw [HHD.out] at HI2
      clear h0 h1 HIA HCL HHD HI0 HC HKK
      have hcW : Hid (∀ W, Below W0.heap.size W0 W → W.cell? ⟨g, off, none⟩ = some (.int .i64 x)) := fun W hb => (hb.cell (p := ⟨g, off, none⟩) HG.out).trans hcell
      go_enter Try.func10, Try.ntmps10
      go_wp2_with fail
      rw [← HW0.out]
      refine HCK.out.mono ?_
      rintro e w1 ⟨rfl, rfl⟩
      go_wp2_with fail
      refine HI1.out.mono ?_
      rintro e w1 ⟨rfl, hb1⟩
      have d1 := hcW.out w1 hb1
      go_wp2_with fail
      refine (HI2 _ hb1).out.mono ?_
      rintro e w2 ⟨rfl, hb2⟩
      have hb3 := hb1.trans (hb2.mono hb1.size)
      have d2 := hcW.out w2 hb3
      have hx1 := HX.out.keeps (keeps_of_below hb3 []) (by simp)
      have c0 := hx1.c 0 (.int .i64 0) rfl
      have c1 := hx1.c 1 (.int .i64 0) rfl
      have c2 := hx1.c 2 (.int .i64 0) rfl
      have c3 := hx1.c 3 (.slice none 0 0) rfl
      have c4 := hx1.c 4 (.int .i64 0) rfl
      have c5 := hx1.c 5 (.int .i64 0) rfl
      have c6 := hx1.c 6 (.int .i64 0) rfl
      have c7 := hx1.c 7 (.slice none 0 0) rfl
      have c8 := hx1.c 8 (.slice none 0 0) rfl
      have f0 := hx1.f 0 (by decide)
      have f1 := hx1.f 1 (by decide)
      have f2 := hx1.f 2 (by decide)
      have f3 := hx1.f 3 (by decide)
      have f4 := hx1.f 4 (by decide)
      have f5 := hx1.f 5 (by decide)
      have f6 := hx1.f 6 (by decide)
      have f7 := hx1.f 7 (by decide)
      have f8 := hx1.f 8 (by decide)
      go_wp2
      obtain ⟨hX8, hk8⟩ := hx1.set9 (.int .i64 1) (.int .i64 x) (.int .i64 0) (.slice none 0 0) (.int .i64 0) (.int .i64 0) (.int .i64 0) (.slice none 0 0) (.slice none 0 0)
      unfold Go.Proofs.Ytefbakhhlonafaa.set9 at hX8 hk8
      have R0 := hX8.c 0 (.int .i64 1) rfl
      have R1 := hX8.c 1 (.int .i64 x) rfl
      have R2 := hX8.c 2 (.int .i64 0) rfl
      have R3 := hX8.c 3 (.slice none 0 0) rfl
      have R4 := hX8.c 4 (.int .i64 0) rfl
      have R5 := hX8.c 5 (.int .i64 0) rfl
      have R6 := hX8.c 6 (.int .i64 0) rfl
      have R7 := hX8.c 7 (.slice none 0 0) rfl
      have R8 := hX8.c 8 (.slice none 0 0) rfl
      have HE8 := Lib.hid ((HBX.out.trans (hb3.mono (Nat.le_of_lt hs0))).trans (hk8.below (by have := hb3.size; omega) (by simp)))
      refine bodyPost_ret (v := .tuple #[.agg #[.int .i64 1, .int .i64 x, .int .i64 0, .slice none 0 0, .int .i64 0, .int .i64 0, .int .i64 0, .slice none 0 0, .slice none 0 0], .int .i64 0]) (by simp [results, Try.results10, go_sem, R0, R1, R2, R3, R4, R5, R6, R7, R8]) rfl ?_
      exact ⟨none, none, none, 0, 0, 0, rfl, blk_none_in _ _ _, HE8.out⟩
    | false =>
      have HKK : Hid (plainK l = ⟨3, 0, 0, [], 0, 0, 0, [], l⟩) := by show _ = _; unfold plainK; rw [h0, h1]; rfl
      rw [h1] at HI2
      rw [HKK.out]
      rw [HHD.out] at HI2
      clear h0 h1 HIA HHD HI0 HC HKK
      have hcW : Hid (∀ W, Below W0.heap.size W0 W → W.cell? ⟨g, off, none⟩ = some (.int .i64 x)) := fun W hb => (hb.cell (p := ⟨g, off, none⟩) HG.out).trans hcell
      go_enter Try.func10, Try.ntmps10
      go_wp2_with fail
      rw [← HW0.out]
      refine HCK.out.mono ?_
      rintro e w1 ⟨rfl, rfl⟩
      go_wp2_with fail
      refine HI1.out.mono ?_
      rintro e w1 ⟨rfl, hb1⟩
      have d1 := hcW.out w1 hb1
      go_wp2_with fail
      refine (HI2 _ hb1).out.mono ?_
      rintro e w2 ⟨rfl, hb2⟩
      have hb3 := hb1.trans (hb2.mono hb1.size)
      go_wp2_with fail
      refine (HCL w2 hb3).out.mono ?_
      rintro e w3 ⟨H, hc2, rfl, hi3, _, hcap, hH1, _, hb4⟩
      have hb5 := hb3.trans (hb4.mono hb3.size)
      have HI3 : Hid (IntsAt w3 (some ⟨H, 0, none⟩) l) := hi3
      have hs3 := hb3.size
      have hcp := Lib.hid hcap
      clear hi3 hcap hb4
      have hx1 := HX.out.keeps (keeps_of_below hb5 []) (by simp)
      have c0 := hx1.c 0 (.int .i64 0) rfl
      have c1 := hx1.c 1 (.int .i64 0) rfl
      have c2 := hx1.c 2 (.int .i64 0) rfl
      have c3 := hx1.c 3 (.slice none 0 0) rfl
      have c4 := hx1.c 4 (.int .i64 0) rfl
      have c5 := hx1.c 5 (.int .i64 0) rfl
      have c6 := hx1.c 6 (.int .i64 0) rfl
      have c7 := hx1.c 7 (.slice none 0 0) rfl
      have c8 := hx1.c 8 (.slice none 0 0) rfl
      have f0 := hx1.f 0 (by decide)
      have f1 := hx1.f 1 (by decide)
      have f2 := hx1.f 2 (by decide)
      have f3 := hx1.f 3 (by decide)
      have f4 := hx1.f 4 (by decide)
      have f5 := hx1.f 5 (by decide)
      have f6 := hx1.f 6 (by decide)
      have f7 := hx1.f 7 (by decide)
      have f8 := hx1.f 8 (by decide)
      go_wp2
      obtain ⟨hX8, hk8⟩ := hx1.set9 (.int .i64 3) (.int .i64 0) (.int .i64 0) (.slice none 0 0) (.int .i64 0) (.int .i64 0) (.int .i64 0) (.slice none 0 0) (.slice (some ⟨H, 0, none⟩) l.length hc2)
      unfold Go.Proofs.Ytefbakhhlonafaa.set9 at hX8 hk8
      have R0 := hX8.c 0 (.int .i64 3) rfl
      have R1 := hX8.c 1 (.int .i64 0) rfl
      have R2 := hX8.c 2 (.int .i64 0) rfl
      have R3 := hX8.c 3 (.slice none 0 0) rfl
      have R4 := hX8.c 4 (.int .i64 0) rfl
      have R5 := hX8.c 5 (.int .i64 0) rfl
      have R6 := hX8.c 6 (.int .i64 0) rfl
      have R7 := hX8.c 7 (.slice none 0 0) rfl
      have R8 := hX8.c 8 (.slice (some ⟨H, 0, none⟩) l.length hc2) rfl
      have HE8 := Lib.hid ((HBX.out.trans (hb5.mono (Nat.le_of_lt hs0))).trans (hk8.below (by have := hb5.size; omega) (by simp)))
      refine bodyPost_ret (v := .tuple #[.agg #[.int .i64 3, .int .i64 0, .int .i64 0, .slice none 0 0, .int .i64 0, .int .i64 0, .int .i64 0, .slice none 0 0, .slice (some ⟨H, 0, none⟩) l.length hc2], .int .i64 0]) (by simp [results, Try.results10, go_sem, R0, R1, R2, R3, R4, R5, R6, R7, R8]) rfl ?_
      exact ⟨none, none, some ⟨H, 0, none⟩, 0, 0, hc2, rfl, ⟨ints_nil _ _, ints_nil _ _, HI3.out.keeps hk8 (by intro g2 o2 e2 hm; cases e2; simp at hm; omega), by simp, by simp, by show l.length ≤ _; have := HL2.out; omega, by simp, by simp, hcp.out⟩, HE8.out⟩
end Go.Proofs.Ytefbakhhlonafaa
