import Derived.Test.YtnfpkjnllkkngaaGreatDoorBlkQB

namespace Go.Proofs.YtnfpkjnllkkngaaGreatDoor
open Go.RowKit Go.Proofs Go.Proofs.PipeM Go.Proofs.PipeA Go.Proofs.BlkM Go.Proofs.BlkB Go.Proofs.LatM Go.Proofs.FilM Go.Proofs.LagM
set_option maxRecDepth 100000

theorem below3 (w : World) (o1 o2 o3 : Obj) : Below w.heap.size w (((w.alloc o1).alloc o2).alloc o3) := ((below2 w o1 o2).alloc (by simp; omega) o3)
set_option maxHeartbeats 1600000 in
theorem cNormalBlock (s a g p : Int) (ia ka da : Option Addr) (il ic kl kc dl dc : Nat) (w : World) :
    Calls Tryz.prog 20 #[.int .i64 s, .slice ia il ic, .agg #[.int .i64 a, .int .i64 g], .slice da dl dc, .agg #[.int .i64 p, .slice ka kl kc]] w fun e w' => e = .returned (.agg #[.int .i64 2, .int .i64 0, .int .i64 s, .slice ia il ic, .int .i64 a, .int .i64 g, .int .i64 p, .slice ka kl kc, .slice da dl dc]) ∧ Below w.heap.size w w' := by
  have HB := fun o1 o2 o3 => Lib.hid (below3 w o1 o2 o3)
  go_enter Tryz.func20, Tryz.ntmps20
  go_wp2
  refine bodyPost_ret (v := .agg #[.int .i64 2, .int .i64 0, .int .i64 s, .slice ia il ic, .int .i64 a, .int .i64 g, .int .i64 p, .slice ka kl kc, .slice da dl dc]) (by simp [results, Tryz.results20, go_sem]) rfl ?_
  exact ⟨rfl, (HB _ _ _).out⟩


/-- What the program's Normal leaves. -/
def NormIs (l : List Int) (d : Int) (index : List Int) (a g sh : Int) (w : World) (e : Ending) (w' : World) : Prop :=
  (codeN l d index a g sh ≠ 0 ∧ e = .returned (.tuple #[.agg #[.int .i64 0, .int .i64 0, .int .i64 0, .slice none 0 0, .int .i64 0, .int .i64 0, .int .i64 0, .slice none 0 0, .slice none 0 0], .int .i64 (codeN l d index a g sh)]) ∧ Below w.heap.size w w') ∨
  (codeN l d index a g sh = 0 ∧ ∃ ia ra da ic rc dc, e = .returned (.tuple #[blkV (normN l index a g sh) ia ra da ic rc dc, .int .i64 0]) ∧ BlkIn w' (normN l index a g sh) ia ra da ic rc dc ∧ Below w.heap.size w w')

theorem divs_zeros (l : List Int) {s : Nat} (hs : s ≤ 64) : (divs s l = true) ↔ s ≤ zerosL l := by
  rw [zerosL_le l hs]
  unfold divs
  rw [List.all_eq_true]
  constructor
  · intro h x hx
    have h0 : x % 2 ^ s = 0 := by simpa using h x hx
    have := Int.dvd_of_emod_eq_zero h0
    simpa using this
  · intro h x hx
    have h0 : ((2 ^ s : Nat) : Int) ∣ x := h x hx
    have h1 : (2 : Int) ^ s ∣ x := by simpa using h0
    simpa using Int.emod_eq_zero_of_dvd h1
theorem chk_sizes {l : List Int} {d : Int} (h : chkB l d ≠ 1) : (sizeN (l.length : Int) && depthB d) = true := by
  cases hs : (sizeN (l.length : Int) && depthB d) with
  | true => rfl
  | false => exact absurd (by unfold chkB; rw [hs]; rfl) h

set_option maxHeartbeats 3200000 in
theorem cNormal_samples (lo io : Option Addr) (lcap icap : Nat) (l index : List Int) (d a g sh : Int) (w : World) (hl : l.length ≤ 1000) (hi : IntsAt w lo l) (hc : chkB l d ≠ 0) :
    Calls Tryz.prog 5 #[.slice lo l.length lcap, .int .i64 d, .slice io index.length icap, .agg #[.int .i64 a, .int .i64 g], .int .i64 sh] w (NormIs l d index a g sh w) := by
  have hb0 := box_below w (.cells #[.int .i64 a, .int .i64 g] 32)
  have hn0 := World.alloc_heap_new w (.cells #[.int .i64 a, .int .i64 g] 32)
  obtain ⟨Wt, hWt⟩ : ∃ Wt, Wt = w.alloc (.cells #[.int .i64 a, .int .i64 g] 32) := ⟨_, rfl⟩
  rw [← hWt] at hb0 hn0
  have hlt0 : w.heap.size < Wt.heap.size := (Array.getElem?_eq_some_iff.1 hn0).1
  have hb1 := box_below Wt (.cells #[.int .i64 0, .int .i64 0, .int .i64 0, .slice none 0 0, .int .i64 0, .int .i64 0, .int .i64 0, .slice none 0 0, .slice none 0 0] 27)
  have hB0 := box9_new Wt (.int .i64 0) (.int .i64 0) (.int .i64 0) (.slice none 0 0) (.int .i64 0) (.int .i64 0) (.int .i64 0) (.slice none 0 0) (.slice none 0 0) 27
  obtain ⟨W0, hW0⟩ : ∃ W0, W0 = Wt.alloc (.cells #[.int .i64 0, .int .i64 0, .int .i64 0, .slice none 0 0, .int .i64 0, .int .i64 0, .int .i64 0, .slice none 0 0, .slice none 0 0] 27) := ⟨_, rfl⟩
  rw [← hW0] at hb1 hB0
  have hlt1 : Wt.heap.size < W0.heap.size := hB0.lt
  have hwt : Wt.heap.size = w.heap.size + 1 := by rw [hWt]; simp
  rw [hwt] at hB0
  have hbw : Below w.heap.size w W0 := hb0.trans (hb1.mono (Nat.le_of_lt hlt0))
  have HTB : Hid (∀ W, Below W0.heap.size W0 W → W.cell? ⟨w.heap.size, 0, none⟩ = some (.int .i64 a) ∧ W.cell? ⟨w.heap.size, 1, none⟩ = some (.int .i64 g)) := fun W hb => by
    have hbb : Below Wt.heap.size Wt W := hb1.trans (hb.mono (Nat.le_of_lt hlt1))
    exact ⟨(hbb.cell (p := ⟨w.heap.size, 0, none⟩) hlt0).trans (cell_of_heap hn0 0), (hbb.cell (p := ⟨w.heap.size, 1, none⟩) hlt0).trans (cell_of_heap hn0 1)⟩
  have HBX := Lib.hid hbw
  have HWT := Lib.hid hWt
  have HW0 := Lib.hid hW0
  have HX := Lib.hid hB0
  have hi0 := hi.below hbw
  have HCK := Lib.hid (cCheck lo lcap l d W0 (by omega) hi0)
  have hws : w.heap.size ≤ Wt.heap.size := Nat.le_of_lt hlt0
  have hcode : codeN l d index a g sh = chkB l d := by unfold codeN; rw [if_pos hc]
  unfold NormIs
  rw [hcode]
  have HC := Lib.hid hc
  have t1 : (chkB l d != 0) = true := bne_iff_ne.2 hc
  generalize chkB l d = ck at *
  have hr := Below.refl W0.heap.size W0
  clear hi hi0 hb0 hn0 hWt hb1 hB0 hW0 hbw hc hcode
  go_enter Tryz.func5, Tryz.ntmps5
  go_wp2_with fail
  rw [← HWT.out, ← HW0.out]
  refine HCK.out.mono ?_
  rintro e w1 ⟨rfl, rfl⟩
  have hx1 := HX.out.keeps (keeps_of_below hr []) (by simp)
  have c0 := hx1.c 0 (.int .i64 0) rfl
  have c1 := hx1.c 1 (.int .i64 0) rfl
  have c2 := hx1.c 2 (.int .i64 0) rfl
  have c3 := hx1.c 3 (.slice none 0 0) rfl
  have c4 := hx1.c 4 (.int .i64 0) rfl
  have c5 := hx1.c 5 (.int .i64 0) rfl
  have c6 := hx1.c 6 (.int .i64 0) rfl
  have c7 := hx1.c 7 (.slice none 0 0) rfl
  have c8 := hx1.c 8 (.slice none 0 0) rfl
  have f0 := hx1.f 0 (by decide)
  have f1 := hx1.f 1 (by decide)
  have f2 := hx1.f 2 (by decide)
  have f3 := hx1.f 3 (by decide)
  have f4 := hx1.f 4 (by decide)
  have f5 := hx1.f 5 (by decide)
  have f6 := hx1.f 6 (by decide)
  have f7 := hx1.f 7 (by decide)
  have f8 := hx1.f 8 (by decide)
  have hsz9 : w.heap.size ≤ W0.heap.size := by omega
  go_wp2
  obtain ⟨hX8, hk8⟩ := hx1.set9 (.int .i64 0) (.int .i64 0) (.int .i64 0) (.slice none 0 0) (.int .i64 0) (.int .i64 0) (.int .i64 0) (.slice none 0 0) (.slice none 0 0)
  unfold Go.Proofs.YtnfpkjnllkkngaaGreatDoor.set9 at hX8 hk8
  have R0 := hX8.c 0 (.int .i64 0) rfl
  have R1 := hX8.c 1 (.int .i64 0) rfl
  have R2 := hX8.c 2 (.int .i64 0) rfl
  have R3 := hX8.c 3 (.slice none 0 0) rfl
  have R4 := hX8.c 4 (.int .i64 0) rfl
  have R5 := hX8.c 5 (.int .i64 0) rfl
  have R6 := hX8.c 6 (.int .i64 0) rfl
  have R7 := hX8.c 7 (.slice none 0 0) rfl
  have R8 := hX8.c 8 (.slice none 0 0) rfl
  have HE8 := Lib.hid ((HBX.out.trans (hr.mono hsz9)).trans (hk8.below (by have := hr.size; omega) (by simp)))
  refine bodyPost_ret (v := .tuple #[.agg #[.int .i64 0, .int .i64 0, .int .i64 0, .slice none 0 0, .int .i64 0, .int .i64 0, .int .i64 0, .slice none 0 0, .slice none 0 0], .int .i64 ck]) (by simp [results, Tryz.results5, go_sem, R0, R1, R2, R3, R4, R5, R6, R7, R8]) rfl ?_
  exact .inl ⟨HC.out, rfl, HE8.out⟩

set_option maxHeartbeats 3200000 in
theorem cNormal_form (lo io : Option Addr) (lcap icap : Nat) (l index : List Int) (d a g sh : Int) (w : World) (hl : l.length ≤ 1000) (hil : index.length ≤ 1000) (hi : IntsAt w lo l) (hj : IntsAt w io index) (ht : TabZ w) (hc : chkB l d = 0) (hf : (shiftB d sh && goodL index && goodT a g && divs sh.toNat l) = false) :
    Calls Tryz.prog 5 #[.slice lo l.length lcap, .int .i64 d, .slice io index.length icap, .agg #[.int .i64 a, .int .i64 g], .int .i64 sh] w (NormIs l d index a g sh w) := by
  have hb0 := box_below w (.cells #[.int .i64 a, .int .i64 g] 32)
  have hn0 := World.alloc_heap_new w (.cells #[.int .i64 a, .int .i64 g] 32)
  obtain ⟨Wt, hWt⟩ : ∃ Wt, Wt = w.alloc (.cells #[.int .i64 a, .int .i64 g] 32) := ⟨_, rfl⟩
  rw [← hWt] at hb0 hn0
  have hlt0 : w.heap.size < Wt.heap.size := (Array.getElem?_eq_some_iff.1 hn0).1
  have hb1 := box_below Wt (.cells #[.int .i64 0, .int .i64 0, .int .i64 0, .slice none 0 0, .int .i64 0, .int .i64 0, .int .i64 0, .slice none 0 0, .slice none 0 0] 27)
  have hB0 := box9_new Wt (.int .i64 0) (.int .i64 0) (.int .i64 0) (.slice none 0 0) (.int .i64 0) (.int .i64 0) (.int .i64 0) (.slice none 0 0) (.slice none 0 0) 27
  obtain ⟨W0, hW0⟩ : ∃ W0, W0 = Wt.alloc (.cells #[.int .i64 0, .int .i64 0, .int .i64 0, .slice none 0 0, .int .i64 0, .int .i64 0, .int .i64 0, .slice none 0 0, .slice none 0 0] 27) := ⟨_, rfl⟩
  rw [← hW0] at hb1 hB0
  have hlt1 : Wt.heap.size < W0.heap.size := hB0.lt
  have hwt : Wt.heap.size = w.heap.size + 1 := by rw [hWt]; simp
  rw [hwt] at hB0
  have hbw : Below w.heap.size w W0 := hb0.trans (hb1.mono (Nat.le_of_lt hlt0))
  have HTB : Hid (∀ W, Below W0.heap.size W0 W → W.cell? ⟨w.heap.size, 0, none⟩ = some (.int .i64 a) ∧ W.cell? ⟨w.heap.size, 1, none⟩ = some (.int .i64 g)) := fun W hb => by
    have hbb : Below Wt.heap.size Wt W := hb1.trans (hb.mono (Nat.le_of_lt hlt1))
    exact ⟨(hbb.cell (p := ⟨w.heap.size, 0, none⟩) hlt0).trans (cell_of_heap hn0 0), (hbb.cell (p := ⟨w.heap.size, 1, none⟩) hlt0).trans (cell_of_heap hn0 1)⟩
  have HBX := Lib.hid hbw
  have HWT := Lib.hid hWt
  have HW0 := Lib.hid hW0
  have HX := Lib.hid hB0
  have hi0 := hi.below hbw
  have hj0 := hj.below hbw
  have HCK := Lib.hid (cCheck lo lcap l d W0 (by omega) hi0)
  have hws : w.heap.size ≤ Wt.heap.size := Nat.le_of_lt hlt0
  have hcode : codeN l d index a g sh = 2 := by unfold codeN; rw [hc, if_neg (by simp), hf]; rfl
  have hs := chk_sizes (l := l) (d := d) (by omega)
  rw [Bool.and_eq_true] at hs
  obtain ⟨m, rfl, hm1, hm2⟩ := depthB_of hs.2
  unfold NormIs
  rw [hcode]
  rw [hc] at HCK
  have HHS := Lib.hid (cHasShift m sh W0)
  have HZE := Lib.hid (cZeros lo lcap l W0 (by omega) hi0 (ht.below hbw))
  have HLG := Lib.hid (Fx.cGood io icap index W0 (by omega) hj0)
  have HTG := Lib.hid (Gx.cGood a g W0)
  unfold Gx.termV at HTG
  have hr := Below.refl W0.heap.size W0
  cases h1 : shiftB m sh with
  | false =>
    rw [h1] at HHS
    clear hi hj hi0 hj0 hb0 hn0 hWt hb1 hB0 hW0 hbw hc hcode hf ht hs hm1 hm2 h1
    go_enter Tryz.func5, Tryz.ntmps5
    go_wp2_with fail
    rw [← HWT.out, ← HW0.out]
    refine HCK.out.mono ?_
    rintro e w1 ⟨rfl, rfl⟩
    go_wp2_with fail
    refine HHS.out.mono ?_
    rintro e w1 ⟨rfl, rfl⟩
    have hx1 := HX.out.keeps (keeps_of_below hr []) (by simp)
    have c0 := hx1.c 0 (.int .i64 0) rfl
    have c1 := hx1.c 1 (.int .i64 0) rfl
    have c2 := hx1.c 2 (.int .i64 0) rfl
    have c3 := hx1.c 3 (.slice none 0 0) rfl
    have c4 := hx1.c 4 (.int .i64 0) rfl
    have c5 := hx1.c 5 (.int .i64 0) rfl
    have c6 := hx1.c 6 (.int .i64 0) rfl
    have c7 := hx1.c 7 (.slice none 0 0) rfl
    have c8 := hx1.c 8 (.slice none 0 0) rfl
    have f0 := hx1.f 0 (by decide)
    have f1 := hx1.f 1 (by decide)
    have f2 := hx1.f 2 (by decide)
    have f3 := hx1.f 3 (by decide)
    have f4 := hx1.f 4 (by decide)
    have f5 := hx1.f 5 (by decide)
    have f6 := hx1.f 6 (by decide)
    have f7 := hx1.f 7 (by decide)
    have f8 := hx1.f 8 (by decide)
    have hsz9 : w.heap.size ≤ W0.heap.size := by omega
    go_wp2
    obtain ⟨hX8, hk8⟩ := hx1.set9 (.int .i64 0) (.int .i64 0) (.int .i64 0) (.slice none 0 0) (.int .i64 0) (.int .i64 0) (.int .i64 0) (.slice none 0 0) (.slice none 0 0)
    unfold Go.Proofs.YtnfpkjnllkkngaaGreatDoor.set9 at hX8 hk8
    have R0 := hX8.c 0 (.int .i64 0) rfl
    have R1 := hX8.c 1 (.int .i64 0) rfl
    have R2 := hX8.c 2 (.int .i64 0) rfl
    have R3 := hX8.c 3 (.slice none 0 0) rfl
    have R4 := hX8.c 4 (.int .i64 0) rfl
    have R5 := hX8.c 5 (.int .i64 0) rfl
    have R6 := hX8.c 6 (.int .i64 0) rfl
    have R7 := hX8.c 7 (.slice none 0 0) rfl
    have R8 := hX8.c 8 (.slice none 0 0) rfl
    have HE8 := Lib.hid ((HBX.out.trans (hr.mono hsz9)).trans (hk8.below (by have := hr.size; omega) (by simp)))
    refine bodyPost_ret (v := .tuple #[.agg #[.int .i64 0, .int .i64 0, .int .i64 0, .slice none 0 0, .int .i64 0, .int .i64 0, .int .i64 0, .slice none 0 0, .slice none 0 0], .int .i64 2]) (by simp [results, Tryz.results5, go_sem, R0, R1, R2, R3, R4, R5, R6, R7, R8]) rfl ?_
    exact .inl ⟨by decide, rfl, HE8.out⟩
  | true =>
    obtain ⟨hs0, hs1⟩ : 0 ≤ sh ∧ sh < m := of_decide_eq_true h1
    obtain ⟨s, rfl⟩ : ∃ s : Nat, sh = s := ⟨sh.toNat, by omega⟩
    rw [Int.toNat_natCast] at hf
    have hzz := divs_zeros l (s := s) (by omega)
    rw [h1] at HHS hf
    generalize zerosL l = z at *
    cases h2 : divs s l with
    | false =>
      have t5 : decide ((z : Int) < (s : Int)) = true := decide_eq_true (by rw [h2] at hzz; simp at hzz; omega)
      have t6 : decide (z < s) = true := decide_eq_true (by rw [h2] at hzz; simp at hzz; omega)
      clear hi hj hi0 hj0 hb0 hn0 hWt hb1 hB0 hW0 hbw hc hcode hf ht hs hm1 hm2 h1 h2 hzz hs0 hs1
      go_enter Tryz.func5, Tryz.ntmps5
      go_wp2_with fail
      rw [← HWT.out, ← HW0.out]
      refine HCK.out.mono ?_
      rintro e w1 ⟨rfl, rfl⟩
      go_wp2_with fail
      refine HHS.out.mono ?_
      rintro e w1 ⟨rfl, rfl⟩
      go_wp2_with fail
      refine HZE.out.mono ?_
      rintro e w1 ⟨rfl, rfl⟩
      have hx1 := HX.out.keeps (keeps_of_below hr []) (by simp)
      have c0 := hx1.c 0 (.int .i64 0) rfl
      have c1 := hx1.c 1 (.int .i64 0) rfl
      have c2 := hx1.c 2 (.int .i64 0) rfl
      have c3 := hx1.c 3 (.slice none 0 0) rfl
      have c4 := hx1.c 4 (.int .i64 0) rfl
      have c5 := hx1.c 5 (.int .i64 0) rfl
      have c6 := hx1.c 6 (.int .i64 0) rfl
      have c7 := hx1.c 7 (.slice none 0 0) rfl
      have c8 := hx1.c 8 (.slice none 0 0) rfl
      have f0 := hx1.f 0 (by decide)
      have f1 := hx1.f 1 (by decide)
      have f2 := hx1.f 2 (by decide)
      have f3 := hx1.f 3 (by decide)
      have f4 := hx1.f 4 (by decide)
      have f5 := hx1.f 5 (by decide)
      have f6 := hx1.f 6 (by decide)
      have f7 := hx1.f 7 (by decide)
      have f8 := hx1.f 8 (by decide)
      have hsz9 : w.heap.size ≤ W0.heap.size := by omega
      go_wp2
      obtain ⟨hX8, hk8⟩ := hx1.set9 (.int .i64 0) (.int .i64 0) (.int .i64 0) (.slice none 0 0) (.int .i64 0) (.int .i64 0) (.int .i64 0) (.slice none 0 0) (.slice none 0 0)
      unfold Go.Proofs.YtnfpkjnllkkngaaGreatDoor.set9 at hX8 hk8
      have R0 := hX8.c 0 (.int .i64 0) rfl
      have R1 := hX8.c 1 (.int .i64 0) rfl
      have R2 := hX8.c 2 (.int .i64 0) rfl
      have R3 := hX8.c 3 (.slice none 0 0) rfl
      have R4 := hX8.c 4 (.int .i64 0) rfl
      have R5 := hX8.c 5 (.int .i64 0) rfl
      have R6 := hX8.c 6 (.int .i64 0) rfl
      have R7 := hX8.c 7 (.slice none 0 0) rfl
      have R8 := hX8.c 8 (.slice none 0 0) rfl
      have HE8 := Lib.hid ((HBX.out.trans (hr.mono hsz9)).trans (hk8.below (by have := hr.size; omega) (by simp)))
      refine bodyPost_ret (v := .tuple #[.agg #[.int .i64 0, .int .i64 0, .int .i64 0, .slice none 0 0, .int .i64 0, .int .i64 0, .int .i64 0, .slice none 0 0, .slice none 0 0], .int .i64 2]) (by simp [results, Tryz.results5, go_sem, R0, R1, R2, R3, R4, R5, R6, R7, R8]) rfl ?_
      exact .inl ⟨by decide, rfl, HE8.out⟩
    | true =>
      have t5 : decide ((z : Int) < (s : Int)) = false := decide_eq_false (by rw [h2] at hzz; simp at hzz; omega)
      have t6 : decide (z < s) = false := decide_eq_false (by rw [h2] at hzz; simp at hzz; omega)
      rw [h2] at hf
      cases h3 : goodL index with
      | false =>
        rw [h3] at HLG
        clear hi hj hi0 hj0 hb0 hn0 hWt hb1 hB0 hW0 hbw hc hcode hf ht hs hm1 hm2 h1 h2 hzz hs0 hs1 h3
        go_enter Tryz.func5, Tryz.ntmps5
        go_wp2_with fail
        rw [← HWT.out, ← HW0.out]
        refine HCK.out.mono ?_
        rintro e w1 ⟨rfl, rfl⟩
        go_wp2_with fail
        refine HHS.out.mono ?_
        rintro e w1 ⟨rfl, rfl⟩
        go_wp2_with fail
        refine HZE.out.mono ?_
        rintro e w1 ⟨rfl, rfl⟩
        go_wp2_with fail
        refine HLG.out.mono ?_
        rintro e w1 ⟨rfl, rfl⟩
        have hx1 := HX.out.keeps (keeps_of_below hr []) (by simp)
        have c0 := hx1.c 0 (.int .i64 0) rfl
        have c1 := hx1.c 1 (.int .i64 0) rfl
        have c2 := hx1.c 2 (.int .i64 0) rfl
        have c3 := hx1.c 3 (.slice none 0 0) rfl
        have c4 := hx1.c 4 (.int .i64 0) rfl
        have c5 := hx1.c 5 (.int .i64 0) rfl
        have c6 := hx1.c 6 (.int .i64 0) rfl
        have c7 := hx1.c 7 (.slice none 0 0) rfl
        have c8 := hx1.c 8 (.slice none 0 0) rfl
        have f0 := hx1.f 0 (by decide)
        have f1 := hx1.f 1 (by decide)
        have f2 := hx1.f 2 (by decide)
        have f3 := hx1.f 3 (by decide)
        have f4 := hx1.f 4 (by decide)
        have f5 := hx1.f 5 (by decide)
        have f6 := hx1.f 6 (by decide)
        have f7 := hx1.f 7 (by decide)
        have f8 := hx1.f 8 (by decide)
        have hsz9 : w.heap.size ≤ W0.heap.size := by omega
        go_wp2
        obtain ⟨hX8, hk8⟩ := hx1.set9 (.int .i64 0) (.int .i64 0) (.int .i64 0) (.slice none 0 0) (.int .i64 0) (.int .i64 0) (.int .i64 0) (.slice none 0 0) (.slice none 0 0)
        unfold Go.Proofs.YtnfpkjnllkkngaaGreatDoor.set9 at hX8 hk8
        have R0 := hX8.c 0 (.int .i64 0) rfl
        have R1 := hX8.c 1 (.int .i64 0) rfl
        have R2 := hX8.c 2 (.int .i64 0) rfl
        have R3 := hX8.c 3 (.slice none 0 0) rfl
        have R4 := hX8.c 4 (.int .i64 0) rfl
        have R5 := hX8.c 5 (.int .i64 0) rfl
        have R6 := hX8.c 6 (.int .i64 0) rfl
        have R7 := hX8.c 7 (.slice none 0 0) rfl
        have R8 := hX8.c 8 (.slice none 0 0) rfl
        have HE8 := Lib.hid ((HBX.out.trans (hr.mono hsz9)).trans (hk8.below (by have := hr.size; omega) (by simp)))
        refine bodyPost_ret (v := .tuple #[.agg #[.int .i64 0, .int .i64 0, .int .i64 0, .slice none 0 0, .int .i64 0, .int .i64 0, .int .i64 0, .slice none 0 0, .slice none 0 0], .int .i64 2]) (by simp [results, Tryz.results5, go_sem, R0, R1, R2, R3, R4, R5, R6, R7, R8]) rfl ?_
        exact .inl ⟨by decide, rfl, HE8.out⟩
      | true =>
        have h4 : goodT a g = false := by rw [h3] at hf; simpa using hf
        rw [h3] at HLG
        rw [h4] at HTG
        obtain ⟨b0, b1⟩ := HTB.out W0 hr
        clear hi hj hi0 hj0 hb0 hn0 hWt hb1 hB0 hW0 hbw hc hcode hf ht hs hm1 hm2 h1 h2 hzz hs0 hs1 h3 h4 hr
        go_enter Tryz.func5, Tryz.ntmps5
        go_wp2_with fail
        rw [← HWT.out, ← HW0.out]
        refine HCK.out.mono ?_
        rintro e w1 ⟨rfl, rfl⟩
        go_wp2_with fail
        refine HHS.out.mono ?_
        rintro e w1 ⟨rfl, rfl⟩
        go_wp2_with fail
        refine HZE.out.mono ?_
        rintro e w1 ⟨rfl, rfl⟩
        go_wp2_with fail
        refine HLG.out.mono ?_
        rintro e w1 ⟨rfl, rfl⟩
        go_wp2_with fail
        refine HTG.out.mono ?_
        rintro e w2 ⟨rfl, hr2⟩
        have hx1 := HX.out.keeps (keeps_of_below hr2 []) (by simp)
        have c0 := hx1.c 0 (.int .i64 0) rfl
        have c1 := hx1.c 1 (.int .i64 0) rfl
        have c2 := hx1.c 2 (.int .i64 0) rfl
        have c3 := hx1.c 3 (.slice none 0 0) rfl
        have c4 := hx1.c 4 (.int .i64 0) rfl
        have c5 := hx1.c 5 (.int .i64 0) rfl
        have c6 := hx1.c 6 (.int .i64 0) rfl
        have c7 := hx1.c 7 (.slice none 0 0) rfl
        have c8 := hx1.c 8 (.slice none 0 0) rfl
        have f0 := hx1.f 0 (by decide)
        have f1 := hx1.f 1 (by decide)
        have f2 := hx1.f 2 (by decide)
        have f3 := hx1.f 3 (by decide)
        have f4 := hx1.f 4 (by decide)
        have f5 := hx1.f 5 (by decide)
        have f6 := hx1.f 6 (by decide)
        have f7 := hx1.f 7 (by decide)
        have f8 := hx1.f 8 (by decide)
        have hsz9 : w.heap.size ≤ W0.heap.size := by omega
        go_wp2
        obtain ⟨hX8, hk8⟩ := hx1.set9 (.int .i64 0) (.int .i64 0) (.int .i64 0) (.slice none 0 0) (.int .i64 0) (.int .i64 0) (.int .i64 0) (.slice none 0 0) (.slice none 0 0)
        unfold Go.Proofs.YtnfpkjnllkkngaaGreatDoor.set9 at hX8 hk8
        have R0 := hX8.c 0 (.int .i64 0) rfl
        have R1 := hX8.c 1 (.int .i64 0) rfl
        have R2 := hX8.c 2 (.int .i64 0) rfl
        have R3 := hX8.c 3 (.slice none 0 0) rfl
        have R4 := hX8.c 4 (.int .i64 0) rfl
        have R5 := hX8.c 5 (.int .i64 0) rfl
        have R6 := hX8.c 6 (.int .i64 0) rfl
        have R7 := hX8.c 7 (.slice none 0 0) rfl
        have R8 := hX8.c 8 (.slice none 0 0) rfl
        have HE8 := Lib.hid ((HBX.out.trans (hr2.mono hsz9)).trans (hk8.below (by have := hr2.size; omega) (by simp)))
        refine bodyPost_ret (v := .tuple #[.agg #[.int .i64 0, .int .i64 0, .int .i64 0, .slice none 0 0, .int .i64 0, .int .i64 0, .int .i64 0, .slice none 0 0, .slice none 0 0], .int .i64 2]) (by simp [results, Tryz.results5, go_sem, R0, R1, R2, R3, R4, R5, R6, R7, R8]) rfl ?_
        exact .inl ⟨by decide, rfl, HE8.out⟩
end Go.Proofs.YtnfpkjnllkkngaaGreatDoor
