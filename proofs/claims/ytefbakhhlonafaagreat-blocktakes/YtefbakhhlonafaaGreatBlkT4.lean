import Derived.Test.YtefbakhhlonafaaGreatBlkT2
import Derived.Test.YtefbakhhlonafaaGreatSlideT5
import Derived.Test.YtefbakhhlonafaaGreatBlkH6

section
namespace Go.Proofs.YtefbakhhlonafaaGreat
open Go.RowKit Go.Proofs Go.Proofs.PipeM Go.Proofs.PipeA Go.Proofs.BlkM Go.Proofs.BlkB
set_option maxRecDepth 100000

/-- A block of two cells. -/
structure BoxT (W : World) (B : Nat) (v0 v1 : Value) : Prop where
  lt : B < W.heap.size
  c0 : W.cell? ⟨B, 0, none⟩ = some v0
  c1 : W.cell? ⟨B, 1, none⟩ = some v1
  f0 : W.frozen? ⟨B, 0, none⟩ = false
  f1 : W.frozen? ⟨B, 1, none⟩ = false
theorem BoxT.new (w : World) (v0 v1 : Value) (t : TypeId) : BoxT (w.alloc (.cells #[v0, v1] t)) w.heap.size v0 v1 := by
  have h := World.alloc_heap_new w (.cells #[v0, v1] t)
  exact ⟨(Array.getElem?_eq_some_iff.1 h).1, (cell_of_heap h 0).trans rfl, (cell_of_heap h 1).trans rfl, frozen_of_heap h _, frozen_of_heap h _⟩
theorem BoxT.keeps {W W' : World} {B : Nat} {v0 v1 : Value} {bs : List Nat} (h : BoxT W B v0 v1) (hk : Keeps bs W W') (hb : B ∉ bs) : BoxT W' B v0 v1 :=
  ⟨Nat.lt_of_lt_of_le h.lt hk.size, (hk.cell (p := ⟨B, 0, none⟩) h.lt hb).trans h.c0, (hk.cell (p := ⟨B, 1, none⟩) h.lt hb).trans h.c1, (hk.frozen (p := ⟨B, 0, none⟩) h.lt hb).trans h.f0, (hk.frozen (p := ⟨B, 1, none⟩) h.lt hb).trans h.f1⟩
theorem BoxT.set {W : World} {B : Nat} {v0 v1 : Value} (h : BoxT W B v0 v1) (x0 x1 : Value) : BoxT ((W.setCell ⟨B, 0, none⟩ x0).setCell ⟨B, 1, none⟩ x1) B x0 x1 := by
  refine ⟨by simpa using h.lt, ?_, ?_, by simpa using h.f0, by simpa using h.f1⟩
  · rw [World.cell?_setCell_other _ _ _ _ (by simp)]
    exact World.cell?_setCell_same' _ _ _ (by rw [h.c0]; rfl)
  · exact World.cell?_setCell_same' _ _ _ (by rw [World.cell?_setCell_other _ _ _ _ (by simp), h.c1]; rfl)
theorem keeps_set2 (W : World) (B : Nat) (x0 x1 : Value) : Keeps [B] W ((W.setCell ⟨B, 0, none⟩ x0).setCell ⟨B, 1, none⟩ x1) := (keeps_setCell_b _ _ _ _).trans (keeps_setCell_b _ _ _ _)

set_option maxHeartbeats 3200000 in
theorem cTakeTerm (b : Nat) (ao : Option Addr) (s : RS) (w : World) (h : RdA w b ao s) (ha : ∀ g off, ao = some ⟨g, off, none⟩ → g < w.heap.size) :
    Calls Tryz.prog 89 #[.pointer (some ⟨b, 0, none⟩)] w fun e w' => e = .returned (.agg #[.int .i64 (s.term.2.1 : Int), .int .i64 (s.term.2.2 : Int)]) ∧ RdA w' b ao s.term.1 ∧ Keeps [b] w w' := by
  have hlt := h.lt
  have hbx := box_below w (.cells #[.int .i64 0, .int .i64 0] 98)
  obtain ⟨W0, hW0⟩ : ∃ W0, W0 = w.alloc (.cells #[.int .i64 0, .int .i64 0] 98) := ⟨_, rfl⟩
  have hB0 := BoxT.new w (.int .i64 0) (.int .i64 0) 98
  rw [← hW0] at hbx hB0
  have hR0 : RdA W0 b ao s := h.keeps (keeps_of_below hbx []) (by simp) (by simp)
  have HT1 := Lib.hid (aTake b ao s 1 W0 hR0)
  have HT2 := fun W (hr : RdA W b ao (s.takeS 1)) => Lib.hid (aTake b ao (s.takeS 1) 8 W hr)
  have HT3 := fun W (hr : RdA W b ao ((s.takeS 1).takeS 8)) => Lib.hid (aTake b ao ((s.takeS 1).takeS 8) 4 W hr)
  have HGV := fun W (hr : RdA W b ao (((s.takeS 1).takeS 8).takeS 4)) => Lib.hid (aGive b ao (((s.takeS 1).takeS 8).takeS 4) 2 W hr)
  have hl8 : (s.takeS 1).takeV 8 < 2 ^ 8 := takeV_lt2 _ 8
  have hl4 : ((s.takeS 1).takeS 8).takeV 4 < 2 ^ 4 := takeV_lt2 _ 4
  have HE : Hid (s.term = if s.takeV 1 = 0 then (s.takeS 1, 0, 0) else (if (s.takeS 1).takeV 8 = 0 ∨ ((s.takeS 1).takeS 8).takeV 4 = 0 then (((s.takeS 1).takeS 8).takeS 4).give 2 else ((s.takeS 1).takeS 8).takeS 4, (s.takeS 1).takeV 8, ((s.takeS 1).takeS 8).takeV 4)) := rfl
  have HB0 := Lib.hid hB0
  have HBX := Lib.hid hbx
  have HW0 := Lib.hid hW0
  have HA := Lib.hid ha
  have hbn : b ≠ w.heap.size := by omega
  generalize s.takeV 1 = v1 at *
  generalize (s.takeS 1).takeV 8 = v8 at *
  generalize ((s.takeS 1).takeS 8).takeV 4 = v4 at *
  generalize s.term = R at *
  have HKP : Hid (∀ W, Keeps [b, w.heap.size] W0 W → Keeps [b] w W) := fun W hk => (keeps_of_below HBX.out [b]).trans_new hk (by intro x hx; simp at hx; rcases hx with rfl | rfl; exact .inl (by simp); exact .inr (Nat.le_refl _))
  have hv8 : IntKind.i64.wrap (v8 : Int) = (v8 : Int) := IntWalk.i64_in _ (by omega)
  have hv4 : IntKind.i64.wrap (v4 : Int) = (v4 : Int) := IntWalk.i64_in _ (by omega)
  clear h ha hbx hB0 hR0 hW0
  by_cases h1 : v1 = 0
  · have hR : R = (s.takeS 1, 0, 0) := by rw [HE.out, if_pos h1]
    subst hR
    subst h1
    clear HE HT2 HT3 HGV hl8 hl4 hv8 hv4
    go_enter Tryz.func89, Tryz.ntmps89
    go_wp2_with fail
    rw [← HW0.out]
    refine HT1.out.mono ?_
    rintro e w1 ⟨rfl, hr1, hk1⟩
    have HB1 := Lib.hid (HB0.out.keeps hk1 (by simp; omega))
    have HR1 := Lib.hid hr1
    have HK1 := Lib.hid hk1
    have c0 := HB1.out.c0
    have c1 := HB1.out.c1
    have f0 := HB1.out.f0
    have f1 := HB1.out.f1
    clear hr1 hk1
    go_wp2
    have HB2 := Lib.hid (HB1.out.set (.int .i64 0) (.int .i64 0))
    have HK2 := Lib.hid (HKP.out _ ((HK1.out.mono (by simp)).trans ((keeps_set2 w1 w.heap.size (.int .i64 0) (.int .i64 0)).mono (by simp))))
    have HR2 := Lib.hid (HR1.out.keeps (keeps_set2 w1 w.heap.size (.int .i64 0) (.int .i64 0)) (by simp; omega) (fun g off e => by have := HA.out g off e; simp; omega))
    have R0 := HB2.out.c0
    have R1 := HB2.out.c1
    refine bodyPost_ret (v := .agg #[.int .i64 0, .int .i64 0]) (by simp [results, Tryz.results89, go_sem, R0, R1]) rfl ?_
    exact ⟨rfl, HR2.out, HK2.out⟩
  · have t1 : ((v1 : Int) == 0) = false := beq_eq_false_iff_ne.2 (by omega)
    have t1n : (v1 == 0) = false := beq_eq_false_iff_ne.2 h1
    have hR : R = (if v8 = 0 ∨ v4 = 0 then (((s.takeS 1).takeS 8).takeS 4).give 2 else ((s.takeS 1).takeS 8).takeS 4, v8, v4) := by rw [HE.out, if_neg h1]
    have HR := Lib.hid hR
    rw [hR]
    dsimp only
    have hcase : (v8 = 0) ∨ (v8 ≠ 0 ∧ v4 = 0) ∨ (v8 ≠ 0 ∧ v4 ≠ 0) := by omega
    clear hR HE h1 HR
    have HFIN : Hid (∀ W, Keeps [b, w.heap.size, W0.heap.size] W0 W → Keeps [b] w W) := fun W hk => (keeps_of_below HBX.out [b]).trans_new hk (by
      intro x hx
      have := HBX.out.size
      simp at hx
      rcases hx with rfl | rfl | rfl
      · exact .inl (by simp)
      · exact .inr (Nat.le_refl _)
      · exact .inr (by omega))
    have hsz0 : w.heap.size < W0.heap.size := HB0.out.lt
    have hbn0 : b ≠ W0.heap.size := by omega
    have HAF : Hid (∀ g off, ao = some ⟨g, off, none⟩ → g ≠ w.heap.size ∧ g < w.heap.size) := fun g off e => ⟨by have := HA.out g off e; omega, HA.out g off e⟩
    rcases hcase with h8 | ⟨h8, h4⟩ | ⟨h8, h4⟩
    · have u8 : ((v8 : Int) == 0) = true := beq_iff_eq.2 (by omega)
      rw [if_pos (Or.inl h8)]
      subst h8
      go_enter Tryz.func89, Tryz.ntmps89
      go_wp2_with fail
      rw [← HW0.out]
      refine HT1.out.mono ?_
      rintro e w1 ⟨rfl, hr1, hk1⟩
      have HB1 := Lib.hid (HB0.out.keeps hk1 (by simp; omega))
      have HC1 := HT2 w1 hr1
      have HK1 := Lib.hid hk1
      clear hr1 hk1
      go_wp2_with fail
      refine HC1.out.mono ?_
      rintro e w2 ⟨rfl, hr2, hk2⟩
      have HB2 := Lib.hid (HB1.out.keeps hk2 (by simp; omega))
      have HC2 := HT3 w2 hr2
      have HK2 := Lib.hid (HK1.out.trans hk2)
      clear hr2 hk2
      go_wp2_with fail
      refine HC2.out.mono ?_
      rintro e w3 ⟨rfl, hr3, hk3⟩
      have hsz3 : W0.heap.size ≤ w3.heap.size := Nat.le_trans HK2.out.size hk3.size
      have HB3 := Lib.hid (HB2.out.keeps hk3 (by simp; omega))
      have HR3 := Lib.hid hr3
      have HK3 := Lib.hid (HK2.out.trans hk3)
      clear hr3 hk3
      have hb4 := box_below w3 (.cells #[.int .i64 0, .int .i64 (v4 : Int)] 98)
      have HT4 := Lib.hid (BoxT.new w3 (.int .i64 0) (.int .i64 (v4 : Int)) 98)
      have HB4 := Lib.hid (HB3.out.keeps (keeps_of_below hb4 []) (by simp))
      have HR4 := Lib.hid (HR3.out.keeps (keeps_of_below hb4 []) (by simp) (by simp))
      have HK4 : Hid (Keeps [b, w.heap.size, W0.heap.size] W0 (w3.alloc (.cells #[.int .i64 0, .int .i64 (v4 : Int)] 98))) := (HK3.out.mono (by simp)).trans (keeps_of_below hb4 _)
      clear hb4
      obtain ⟨w4, hw4⟩ : ∃ w4, w4 = w3.alloc (.cells #[.int .i64 0, .int .i64 (v4 : Int)] 98) := ⟨_, rfl⟩
      rw [← hw4] at HT4 HB4 HR4 HK4
      have HW4 := Lib.hid hw4
      clear hw4
      have HG4 := HGV w4 HR4.out
      have hbn3 : b ≠ w3.heap.size := by omega
      go_wp2_with fail
      rw [← HW4.out]
      refine HG4.out.mono ?_
      rintro e w5 ⟨rfl, hr5, hk5⟩
      have HB5 := Lib.hid (HB4.out.keeps hk5 (by simp; omega))
      have HT5 := Lib.hid (HT4.out.keeps hk5 (by simp; omega))
      have HR5 := Lib.hid hr5
      have HK5 := Lib.hid (HK4.out.trans (hk5.mono (by simp)))
      clear hr5 hk5
      have HB6 := Lib.hid (HB5.out.set (.int .i64 0) (.int .i64 (v4 : Int)))
      have HR6 := Lib.hid (HR5.out.keeps (keeps_set2 w5 w.heap.size (.int .i64 0) (.int .i64 (v4 : Int))) (by simp; omega) (fun g off e => by have := HAF.out g off e; simp; omega))
      have HK6 := Lib.hid (HFIN.out _ (HK5.out.trans ((keeps_set2 w5 w.heap.size (.int .i64 0) (.int .i64 (v4 : Int))).mono (by simp))))
      have R0 := HB6.out.c0
      have R1 := HB6.out.c1
      have d0 := HT5.out.c0
      have d1 := HT5.out.c1
      have f0 := HB5.out.f0
      have f1 := HB5.out.f1
      have c0 := HB5.out.c0
      have c1 := HB5.out.c1
      go_wp2
      refine bodyPost_ret (v := .agg #[.int .i64 0, .int .i64 (v4 : Int)]) (by simp [results, Tryz.results89, go_sem, R0, R1]) rfl ?_
      exact ⟨rfl, HR6.out, HK6.out⟩
    · have u8 : ((v8 : Int) == 0) = false := beq_eq_false_iff_ne.2 (by omega)
      have u8n : (v8 == 0) = false := beq_eq_false_iff_ne.2 h8
      rw [if_pos (Or.inr h4)]
      subst h4
      go_enter Tryz.func89, Tryz.ntmps89
      go_wp2_with fail
      rw [← HW0.out]
      refine HT1.out.mono ?_
      rintro e w1 ⟨rfl, hr1, hk1⟩
      have HB1 := Lib.hid (HB0.out.keeps hk1 (by simp; omega))
      have HC1 := HT2 w1 hr1
      have HK1 := Lib.hid hk1
      clear hr1 hk1
      go_wp2_with fail
      refine HC1.out.mono ?_
      rintro e w2 ⟨rfl, hr2, hk2⟩
      have HB2 := Lib.hid (HB1.out.keeps hk2 (by simp; omega))
      have HC2 := HT3 w2 hr2
      have HK2 := Lib.hid (HK1.out.trans hk2)
      clear hr2 hk2
      go_wp2_with fail
      refine HC2.out.mono ?_
      rintro e w3 ⟨rfl, hr3, hk3⟩
      have hsz3 : W0.heap.size ≤ w3.heap.size := Nat.le_trans HK2.out.size hk3.size
      have HB3 := Lib.hid (HB2.out.keeps hk3 (by simp; omega))
      have HR3 := Lib.hid hr3
      have HK3 := Lib.hid (HK2.out.trans hk3)
      clear hr3 hk3
      have hb4 := box_below w3 (.cells #[.int .i64 (v8 : Int), .int .i64 0] 98)
      have HT4 := Lib.hid (BoxT.new w3 (.int .i64 (v8 : Int)) (.int .i64 0) 98)
      have HB4 := Lib.hid (HB3.out.keeps (keeps_of_below hb4 []) (by simp))
      have HR4 := Lib.hid (HR3.out.keeps (keeps_of_below hb4 []) (by simp) (by simp))
      have HK4 : Hid (Keeps [b, w.heap.size, W0.heap.size] W0 (w3.alloc (.cells #[.int .i64 (v8 : Int), .int .i64 0] 98))) := (HK3.out.mono (by simp)).trans (keeps_of_below hb4 _)
      clear hb4
      obtain ⟨w4, hw4⟩ : ∃ w4, w4 = w3.alloc (.cells #[.int .i64 (v8 : Int), .int .i64 0] 98) := ⟨_, rfl⟩
      rw [← hw4] at HT4 HB4 HR4 HK4
      have HW4 := Lib.hid hw4
      clear hw4
      have HG4 := HGV w4 HR4.out
      have hbn3 : b ≠ w3.heap.size := by omega
      go_wp2_with fail
      rw [← HW4.out]
      refine HG4.out.mono ?_
      rintro e w5 ⟨rfl, hr5, hk5⟩
      have HB5 := Lib.hid (HB4.out.keeps hk5 (by simp; omega))
      have HT5 := Lib.hid (HT4.out.keeps hk5 (by simp; omega))
      have HR5 := Lib.hid hr5
      have HK5 := Lib.hid (HK4.out.trans (hk5.mono (by simp)))
      clear hr5 hk5
      have HB6 := Lib.hid (HB5.out.set (.int .i64 (v8 : Int)) (.int .i64 0))
      have HR6 := Lib.hid (HR5.out.keeps (keeps_set2 w5 w.heap.size (.int .i64 (v8 : Int)) (.int .i64 0)) (by simp; omega) (fun g off e => by have := HAF.out g off e; simp; omega))
      have HK6 := Lib.hid (HFIN.out _ (HK5.out.trans ((keeps_set2 w5 w.heap.size (.int .i64 (v8 : Int)) (.int .i64 0)).mono (by simp))))
      have R0 := HB6.out.c0
      have R1 := HB6.out.c1
      have d0 := HT5.out.c0
      have d1 := HT5.out.c1
      have f0 := HB5.out.f0
      have f1 := HB5.out.f1
      have c0 := HB5.out.c0
      have c1 := HB5.out.c1
      go_wp2
      refine bodyPost_ret (v := .agg #[.int .i64 (v8 : Int), .int .i64 0]) (by simp [results, Tryz.results89, go_sem, R0, R1]) rfl ?_
      exact ⟨rfl, HR6.out, HK6.out⟩
    · have u8 : ((v8 : Int) == 0) = false := beq_eq_false_iff_ne.2 (by omega)
      have u8n : (v8 == 0) = false := beq_eq_false_iff_ne.2 h8
      have u4 : ((v4 : Int) == 0) = false := beq_eq_false_iff_ne.2 (by omega)
      have u4n : (v4 == 0) = false := beq_eq_false_iff_ne.2 h4
      rw [if_neg (by omega)]
      clear h8 h4
      go_enter Tryz.func89, Tryz.ntmps89
      go_wp2_with fail
      rw [← HW0.out]
      refine HT1.out.mono ?_
      rintro e w1 ⟨rfl, hr1, hk1⟩
      have HB1 := Lib.hid (HB0.out.keeps hk1 (by simp; omega))
      have HC1 := HT2 w1 hr1
      have HK1 := Lib.hid hk1
      clear hr1 hk1
      go_wp2_with fail
      refine HC1.out.mono ?_
      rintro e w2 ⟨rfl, hr2, hk2⟩
      have HB2 := Lib.hid (HB1.out.keeps hk2 (by simp; omega))
      have HC2 := HT3 w2 hr2
      have HK2 := Lib.hid (HK1.out.trans hk2)
      clear hr2 hk2
      go_wp2_with fail
      refine HC2.out.mono ?_
      rintro e w3 ⟨rfl, hr3, hk3⟩
      have hsz3 : W0.heap.size ≤ w3.heap.size := Nat.le_trans HK2.out.size hk3.size
      have HB3 := Lib.hid (HB2.out.keeps hk3 (by simp; omega))
      have HR3 := Lib.hid hr3
      have HK3 := Lib.hid (HK2.out.trans hk3)
      clear hr3 hk3
      have hb4 := box_below w3 (.cells #[.int .i64 (v8 : Int), .int .i64 (v4 : Int)] 98)
      have HT4 := Lib.hid (BoxT.new w3 (.int .i64 (v8 : Int)) (.int .i64 (v4 : Int)) 98)
      have HB4 := Lib.hid (HB3.out.keeps (keeps_of_below hb4 []) (by simp))
      have HR4 := Lib.hid (HR3.out.keeps (keeps_of_below hb4 []) (by simp) (by simp))
      have HK4 : Hid (Keeps [b, w.heap.size, W0.heap.size] W0 (w3.alloc (.cells #[.int .i64 (v8 : Int), .int .i64 (v4 : Int)] 98))) := (HK3.out.mono (by simp)).trans (keeps_of_below hb4 _)
      clear hb4
      obtain ⟨w4, hw4⟩ : ∃ w4, w4 = w3.alloc (.cells #[.int .i64 (v8 : Int), .int .i64 (v4 : Int)] 98) := ⟨_, rfl⟩
      rw [← hw4] at HT4 HB4 HR4 HK4
      have HW4 := Lib.hid hw4
      clear hw4
      have HB6 := Lib.hid (HB4.out.set (.int .i64 (v8 : Int)) (.int .i64 (v4 : Int)))
      have HR6 := Lib.hid (HR4.out.keeps (keeps_set2 w4 w.heap.size (.int .i64 (v8 : Int)) (.int .i64 (v4 : Int))) (by simp; omega) (fun g off e => by have := HAF.out g off e; simp; omega))
      have HK6 := Lib.hid (HFIN.out _ (HK4.out.trans ((keeps_set2 w4 w.heap.size (.int .i64 (v8 : Int)) (.int .i64 (v4 : Int))).mono (by simp))))
      have R0 := HB6.out.c0
      have R1 := HB6.out.c1
      have d0 := HT4.out.c0
      have d1 := HT4.out.c1
      have f0 := HB4.out.f0
      have f1 := HB4.out.f1
      have c0 := HB4.out.c0
      have c1 := HB4.out.c1
      rw [HW4.out] at R0 R1 d0 d1 f0 f1 c0 c1 HR6 HK6
      go_wp2
      refine bodyPost_ret (v := .agg #[.int .i64 (v8 : Int), .int .i64 (v4 : Int)]) (by simp [results, Tryz.results89, go_sem, R0, R1]) rfl ?_
      exact ⟨rfl, HR6.out, HK6.out⟩
end Go.Proofs.YtefbakhhlonafaaGreat
end

section
namespace Go.Proofs.YtefbakhhlonafaaGreat
open Go.RowKit Go.Proofs Go.Proofs.PipeM Go.Proofs.PipeA Go.Proofs.BlkM Go.Proofs.BlkB
set_option maxRecDepth 100000

theorem below3 (w : World) (o1 o2 o3 : Obj) : Below w.heap.size w (((w.alloc o1).alloc o2).alloc o3) := ((below2 w o1 o2).alloc (by simp; omega) o3)
set_option maxHeartbeats 1600000 in
theorem cNormalBlock (s a g p : Int) (ia ka da : Option Addr) (il ic kl kc dl dc : Nat) (w : World) :
    Calls Tryz.prog 91 #[.int .i64 s, .slice ia il ic, .agg #[.int .i64 a, .int .i64 g], .slice da dl dc, .agg #[.int .i64 p, .slice ka kl kc]] w fun e w' => e = .returned (.agg #[.int .i64 2, .int .i64 0, .int .i64 s, .slice ia il ic, .int .i64 a, .int .i64 g, .int .i64 p, .slice ka kl kc, .slice da dl dc]) ∧ Below w.heap.size w w' := by
  have HB := fun o1 o2 o3 => Lib.hid (below3 w o1 o2 o3)
  go_enter Tryz.func91, Tryz.ntmps91
  go_wp2
  refine bodyPost_ret (v := .agg #[.int .i64 2, .int .i64 0, .int .i64 s, .slice ia il ic, .int .i64 a, .int .i64 g, .int .i64 p, .slice ka kl kc, .slice da dl dc]) (by simp [results, Tryz.results91, go_sem]) rfl ?_
  exact ⟨rfl, (HB _ _ _).out⟩

/-- A block's fields that came, in memory that is new. -/
def FieldsIs (w : World) (b : Nat) (ao : Option Addr) (r : RS × Blk) (e : Ending) (w' : World) : Prop :=
  ∃ ia ka la ic kc lc, e = .returned (blkV r.2 ia ka la ic kc lc) ∧ RdA w' b ao r.1 ∧ BlkIn w' r.2 ia ka la ic kc lc ∧ FreshOf w ia ∧ FreshOf w ka ∧ FreshOf w la ∧ Keeps [b] w w'
theorem body_lengths (sz : Nat) : ∀ c (s : RS), (RS.body sz c s).2.1.length ≤ sz * c ∧ (RS.body sz c s).2.2.length ≤ c
  | 0, s => by simp [RS.body]
  | c + 1, s => by
    rw [RS.body]
    split
    · simp
    · have := body_lengths sz c (s.partS sz).1
      constructor
      · rw [List.length_append, partS_length, Nat.mul_succ]; omega
      · rw [List.length_cons]; omega
theorem slide_lengths (s : RS) (n : Nat) (hn : n ≤ 1024) : (s.slide n).2.1.length ≤ 1024 ∧ (s.slide n).2.2.1 ≤ 3 ∧ (s.slide n).2.2.2.length ≤ 8 := by
  have hv : s.takeV 2 < 2 ^ 2 := takeV_lt2 s 2
  unfold RS.slide
  split
  · simp
  · split
    · simp
    · unfold RS.slideB
      split
      · simp
      · have h := body_lengths ((n : Int).toNat / 2 ^ s.takeV 2) (2 ^ s.takeV 2) (s.takeS 2)
        dsimp only
        have h2 : (n : Int).toNat / 2 ^ s.takeV 2 * 2 ^ s.takeV 2 ≤ (n : Int).toNat := Nat.div_mul_le_self _ _
        have h3 : 2 ^ s.takeV 2 ≤ 2 ^ 3 := Nat.pow_le_pow_right (by decide) (by omega)
        refine ⟨by omega, by omega, by omega⟩
theorem idx_length (s : RS) : s.idx.2.length ≤ 31 := by
  have hv : s.takeV 5 < 2 ^ 5 := takeV_lt2 s 5
  unfold RS.idx
  split
  · simp
  · rw [intsS_length]; omega
theorem box9_new (w : World) (v0 v1 v2 v3 v4 v5 v6 v7 v8 : Value) (t : TypeId) : Box9 (w.alloc (.cells #[v0, v1, v2, v3, v4, v5, v6, v7, v8] t)) w.heap.size #[v0, v1, v2, v3, v4, v5, v6, v7, v8] := by
  have h := World.alloc_heap_new w (.cells #[v0, v1, v2, v3, v4, v5, v6, v7, v8] t)
  exact ⟨(Array.getElem?_eq_some_iff.1 h).1, fun j v hj => by rw [cell_of_heap h]; exact hj, fun j _ => frozen_of_heap h _⟩
theorem IntsAt.far {W W' : World} {bs : List Nat} {ao : Option Addr} {l : List Int} {w : World} (h : IntsAt W ao l) (hf : FreshOf w ao) (hk : Keeps bs W W') (hb : ∀ x ∈ bs, x < w.heap.size) : IntsAt W' ao l :=
  h.keeps hk fun g off e hm => by have := hf g off e; have := hb g hm; omega

set_option maxHeartbeats 6400000 in
theorem cTakeNormal (b : Nat) (ao : Option Addr) (s : RS) (n : Nat) (w : World) (hn : n ≤ 1024) (h : RdA w b ao s) (ha : ∀ g off, ao = some ⟨g, off, none⟩ → g < w.heap.size) :
    Calls Tryz.prog 72 #[.pointer (some ⟨b, 0, none⟩), .int .i64 n] w (FieldsIs w b ao (s.normB n)) := by
  have hlt := h.lt
  have hbx := box_below w (.cells #[.int .i64 0, .int .i64 0, .int .i64 0, .slice none 0 0, .int .i64 0, .int .i64 0, .int .i64 0, .slice none 0 0, .slice none 0 0] 24)
  have hB0 := box9_new w (.int .i64 0) (.int .i64 0) (.int .i64 0) (.slice none 0 0) (.int .i64 0) (.int .i64 0) (.int .i64 0) (.slice none 0 0) (.slice none 0 0) 24
  obtain ⟨W0, hW0⟩ : ∃ W0, W0 = w.alloc (.cells #[.int .i64 0, .int .i64 0, .int .i64 0, .slice none 0 0, .int .i64 0, .int .i64 0, .int .i64 0, .slice none 0 0, .slice none 0 0] 24) := ⟨_, rfl⟩
  rw [← hW0] at hbx hB0
  have hR0 : RdA W0 b ao s := h.keeps (keeps_of_below hbx []) (by simp) (by simp)
  have HT1 := Lib.hid (aTake b ao s 5 W0 hR0)
  have HTI := fun W (hr : RdA W b ao (s.takeS 5)) (hg : ∀ g off, ao = some ⟨g, off, none⟩ → g < W.heap.size) => Lib.hid (cTakeIndex b ao (s.takeS 5) W hr hg)
  have HTT := fun W (hr : RdA W b ao (s.takeS 5).idx.1) (hg : ∀ g off, ao = some ⟨g, off, none⟩ → g < W.heap.size) => Lib.hid (cTakeTerm b ao (s.takeS 5).idx.1 W hr hg)
  have HTS := fun W (hr : RdA W b ao (s.takeS 5).idx.1.term.1) (hg : ∀ g off, ao = some ⟨g, off, none⟩ → g < W.heap.size) => Lib.hid (cSTake b ao (s.takeS 5).idx.1.term.1 n W hr hg)
  have hl5 : s.takeV 5 < 2 ^ 5 := takeV_lt2 _ 5
  have hil := idx_length (s.takeS 5)
  obtain ⟨hdl, hpl, hkl⟩ := slide_lengths (s.takeS 5).idx.1.term.1 n hn
  have HE : Hid (s.normB n = (((s.takeS 5).idx.1.term.1.slide n).1, ⟨2, 0, (s.takeV 5 : Nat), (s.takeS 5).idx.2, ((s.takeS 5).idx.1.term.2.1 : Nat), ((s.takeS 5).idx.1.term.2.2 : Nat), (((s.takeS 5).idx.1.term.1.slide n).2.2.1 : Nat), ((s.takeS 5).idx.1.term.1.slide n).2.2.2, ((s.takeS 5).idx.1.term.1.slide n).2.1⟩)) := rfl
  rw [HE.out]
  have HB0 := Lib.hid hB0
  have HBX := Lib.hid hbx
  have HW0 := Lib.hid hW0
  have HA := Lib.hid ha
  have hbn : b ≠ w.heap.size := by omega
  generalize s.takeV 5 = v5 at *
  generalize (s.takeS 5).idx = X at *
  obtain ⟨X1, X2⟩ := X
  dsimp only at *
  generalize X1.term = T at *
  obtain ⟨T1, ta, tg⟩ := T
  dsimp only at *
  generalize T1.slide n = S at *
  obtain ⟨S1, S2, S3, S4⟩ := S
  dsimp only at *
  have HIL := Lib.hid hil
  have HDL := Lib.hid hdl
  have HKL := Lib.hid hkl
  have HKP : Hid (∀ W, Keeps [b, w.heap.size] W0 W → Keeps [b] w W) := fun W hk => (keeps_of_below HBX.out [b]).trans_new hk (by intro x hx; simp at hx; rcases hx with rfl | rfl; exact .inl (by simp); exact .inr (Nat.le_refl _))
  have hv5 : IntKind.i64.wrap (v5 : Int) = (v5 : Int) := IntWalk.i64_in _ (by omega)
  have hsz0 : w.heap.size < W0.heap.size := HB0.out.lt
  have HAO : Hid (∀ W : World, W0.heap.size ≤ W.heap.size → ∀ g off, ao = some ⟨g, off, none⟩ → g < W.heap.size) := fun W hW g off e => Nat.lt_of_lt_of_le (HA.out g off e) (by omega)
  have HBS : Hid (∀ x ∈ [b, w.heap.size], x < W0.heap.size) := by intro x hx; simp at hx; rcases hx with rfl | rfl <;> omega
  clear h ha hbx hB0 hR0 hW0 hl5 HE hil hdl hpl hkl
  go_enter Tryz.func72, Tryz.ntmps72
  go_wp2_with fail
  rw [← HW0.out]
  refine HT1.out.mono ?_
  rintro e w1 ⟨rfl, hr1, hk1⟩
  have HC1 := HTI w1 hr1 (HAO.out w1 hk1.size)
  have HK1 : Hid (Keeps [b, w.heap.size] W0 w1) := hk1.mono (by simp)
  have HX1 := Lib.hid (HB0.out.keeps hk1 (by simp; omega))
  clear hr1 hk1 HTI HT1
  go_wp2_with fail
  refine HC1.out.mono ?_
  rintro e w2 ⟨la, lc, rfl, hr2, hi2, hf2, hc2, hk2⟩
  have HK2 : Hid (Keeps [b, w.heap.size] W0 w2) := HK1.out.trans (hk2.mono (by simp))
  have HX2 := Lib.hid (HX1.out.keeps hk2 (by simp; omega))
  have HF2 : Hid (FreshOf W0 la) := fun g off e => Nat.le_trans HK1.out.size (hf2 g off e)
  have HI2 := Lib.hid hi2
  have HCP2 := Lib.hid hc2
  have HC2 := HTT w2 hr2 (HAO.out w2 HK2.out.size)
  clear hr2 hi2 hf2 hc2 hk2 HC1 HTT
  generalize hie : X2.length = il at *
  have HIE := Lib.hid hie
  clear hie
  go_wp2_with fail
  refine HC2.out.mono ?_
  rintro e w3 ⟨rfl, hr3, hk3⟩
  have HK3 : Hid (Keeps [b, w.heap.size] W0 w3) := HK2.out.trans (hk3.mono (by simp))
  have HX3 := Lib.hid (HX2.out.keeps hk3 (by simp; omega))
  have HI3 := Lib.hid (HI2.out.far HF2.out (hk3.mono (by simp) : Keeps [b, w.heap.size] w2 w3) HBS.out)
  have hb4 := box_below w3 (.cells #[.int .i64 (ta : Int), .int .i64 (tg : Int)] 98)
  have HT4 := Lib.hid (BoxT.new w3 (.int .i64 (ta : Int)) (.int .i64 (tg : Int)) 98)
  have hr4 : RdA (w3.alloc (.cells #[.int .i64 (ta : Int), .int .i64 (tg : Int)] 98)) b ao T1 := hr3.keeps (keeps_of_below hb4 []) (by simp) (by simp)
  have HK4 : Hid (Keeps [b, w.heap.size] W0 (w3.alloc (.cells #[.int .i64 (ta : Int), .int .i64 (tg : Int)] 98))) := HK3.out.trans (keeps_of_below hb4 _)
  have HI4 := Lib.hid (HI3.out.below hb4)
  have HX4 := Lib.hid (HX3.out.keeps (keeps_of_below hb4 []) (by simp))
  have hw30 : W0.heap.size ≤ w3.heap.size := HK3.out.size
  have HC4 := HTS _ hr4 (HAO.out _ HK4.out.size)
  have hz4 : (w3.alloc (.cells #[.int .i64 (ta : Int), .int .i64 (tg : Int)] 98)).heap.size = w3.heap.size + 1 := by simp
  obtain ⟨w4, hw4⟩ : ∃ w4, w4 = w3.alloc (.cells #[.int .i64 (ta : Int), .int .i64 (tg : Int)] 98) := ⟨_, rfl⟩
  rw [← hw4] at HT4 HK4 HI4 HC4 hz4 HX4
  have HW4 := Lib.hid hw4
  clear hr3 hk3 hb4 hr4 hw4 HC2 HTS HI2 HI3
  go_wp2_with fail
  rw [← HW4.out]
  refine HC4.out.mono ?_
  rintro e w5 ⟨da, dc, ka, kc, rfl, hr5, hd5, hq5, hfd, hfk, hcd, hck, hk5⟩
  have HK5 : Hid (Keeps [b, w.heap.size] W0 w5) := HK4.out.trans (hk5.mono (by simp))
  have hb3 : b ≠ w3.heap.size := by omega
  have HX5 := Lib.hid (HX4.out.keeps hk5 (by simp; omega))
  have HT5 := Lib.hid (HT4.out.keeps hk5 (by simp; omega))
  have HI5 := Lib.hid (HI4.out.far HF2.out (hk5.mono (by simp) : Keeps [b, w.heap.size] w4 w5) HBS.out)
  have HFD : Hid (FreshOf W0 da) := fun g off e => Nat.le_trans HK4.out.size (hfd g off e)
  have HFK : Hid (FreshOf W0 ka) := fun g off e => Nat.le_trans HK4.out.size (hfk g off e)
  have HR5 := Lib.hid hr5
  have HD5 := Lib.hid hd5
  have HQ5 := Lib.hid hq5
  have HCD := Lib.hid hcd
  have HCK := Lib.hid hck
  dsimp only at HR5 HD5 HQ5 HCD HCK
  clear hr5 hd5 hq5 hfd hfk hcd hck hk5 HC4 HI4 HT4
  generalize hdl : S2.length = dl at *
  generalize hkl : S4.length = kl at *
  have HDE := Lib.hid hdl
  have HKE := Lib.hid hkl
  clear hdl hkl
  have d0 := HT5.out.c0
  have d1 := HT5.out.c1
  have hb6 := box_below w5 (.cells #[.int .i64 (S3 : Int), .slice ka kl kc] 101)
  have HT6 := Lib.hid (BoxT.new w5 (.int .i64 (S3 : Int)) (.slice ka kl kc) 101)
  have HU6 := Lib.hid (HT5.out.keeps (keeps_of_below hb6 []) (by simp))
  have HK6 : Hid (Keeps [b, w.heap.size] W0 (w5.alloc (.cells #[.int .i64 (S3 : Int), .slice ka kl kc] 101))) := HK5.out.trans (keeps_of_below hb6 _)
  have HI6 := Lib.hid (HI5.out.below hb6)
  have HX6 := Lib.hid (HX5.out.keeps (keeps_of_below hb6 []) (by simp))
  have HD6 := Lib.hid (HD5.out.below hb6)
  have HQ6 := Lib.hid (HQ5.out.below hb6)
  have HR6 := Lib.hid (HR5.out.keeps (keeps_of_below hb6 []) (by simp) (by simp))
  have HNB := fun W => Lib.hid (cNormalBlock v5 ta tg S3 la ka da il lc kl kc dl dc W)
  have q0 := HU6.out.c0
  have q1 := HU6.out.c1
  obtain ⟨w6, hw6⟩ : ∃ w6, w6 = w5.alloc (.cells #[.int .i64 (S3 : Int), .slice ka kl kc] 101) := ⟨_, rfl⟩
  rw [← hw6] at HT6 HU6 HK6 HI6 HD6 HQ6 HR6 HX6
  have HW6 := Lib.hid hw6
  clear hb6 hw6 d0 d1 HR5 HD5 HQ5 HI5 HT5
  go_wp2_with fail
  rw [← HW6.out]
  refine (HNB _).out.mono ?_
  rintro e w7 ⟨rfl, hb7⟩
  have HK7 : Hid (Keeps [b, w.heap.size] W0 w7) := HK6.out.trans (keeps_of_below hb7 _)
  have HI7 := Lib.hid (HI6.out.below hb7)
  have HD7 := Lib.hid (HD6.out.below hb7)
  have HQ7 := Lib.hid (HQ6.out.below hb7)
  have HR7 := Lib.hid (HR6.out.keeps (keeps_of_below hb7 []) (by simp) (by simp))
  have HX7 := Lib.hid (HX6.out.keeps (keeps_of_below hb7 []) (by simp))
  clear hb7 q0 q1 HI6 HD6 HQ6 HR6 HU6 HT6
  have c0 := HX7.out.c 0 (.int .i64 0) rfl
  have c1 := HX7.out.c 1 (.int .i64 0) rfl
  have c2 := HX7.out.c 2 (.int .i64 0) rfl
  have c3 := HX7.out.c 3 (.slice none 0 0) rfl
  have c4 := HX7.out.c 4 (.int .i64 0) rfl
  have c5 := HX7.out.c 5 (.int .i64 0) rfl
  have c6 := HX7.out.c 6 (.int .i64 0) rfl
  have c7 := HX7.out.c 7 (.slice none 0 0) rfl
  have c8 := HX7.out.c 8 (.slice none 0 0) rfl
  have f0 := HX7.out.f 0 (by decide)
  have f1 := HX7.out.f 1 (by decide)
  have f2 := HX7.out.f 2 (by decide)
  have f3 := HX7.out.f 3 (by decide)
  have f4 := HX7.out.f 4 (by decide)
  have f5 := HX7.out.f 5 (by decide)
  have f6 := HX7.out.f 6 (by decide)
  have f7 := HX7.out.f 7 (by decide)
  have f8 := HX7.out.f 8 (by decide)
  go_wp2
  obtain ⟨hX8, hk8⟩ := HX7.out.set9 (.int .i64 2) (.int .i64 0) (.int .i64 v5) (.slice la il lc) (.int .i64 ta) (.int .i64 tg) (.int .i64 S3) (.slice ka kl kc) (.slice da dl dc)
  have HK8 := Lib.hid (HKP.out _ (HK7.out.trans (hk8.mono (by simp))))
  have HI8 := Lib.hid (HI7.out.far HF2.out hk8 (fun x hx => HBS.out x (by simp at hx ⊢; exact .inr hx)))
  have HD8 := Lib.hid (HD7.out.far HFD.out hk8 (fun x hx => HBS.out x (by simp at hx ⊢; exact .inr hx)))
  have HQ8 := Lib.hid (HQ7.out.far HFK.out hk8 (fun x hx => HBS.out x (by simp at hx ⊢; exact .inr hx)))
  have HR8 := Lib.hid (HR7.out.keeps hk8 (by simp; omega) (fun g off e => by have := HA.out g off e; simp; omega))
  unfold Go.Proofs.YtefbakhhlonafaaGreat.set9 at hX8 hk8 HK8 HI8 HD8 HQ8 HR8
  have R0 := hX8.c 0 (.int .i64 2) rfl
  have R1 := hX8.c 1 (.int .i64 0) rfl
  have R2 := hX8.c 2 (.int .i64 v5) rfl
  have R3 := hX8.c 3 (.slice la il lc) rfl
  have R4 := hX8.c 4 (.int .i64 ta) rfl
  have R5 := hX8.c 5 (.int .i64 tg) rfl
  have R6 := hX8.c 6 (.int .i64 S3) rfl
  have R7 := hX8.c 7 (.slice ka kl kc) rfl
  have R8 := hX8.c 8 (.slice da dl dc) rfl
  refine bodyPost_ret (v := .agg #[.int .i64 2, .int .i64 0, .int .i64 v5, .slice la il lc, .int .i64 ta, .int .i64 tg, .int .i64 S3, .slice ka kl kc, .slice da dl dc]) (by simp [results, Tryz.results72, go_sem, R0, R1, R2, R3, R4, R5, R6, R7, R8]) rfl ?_
  have hsz : w.heap.size ≤ W0.heap.size := by omega
  refine ⟨la, ka, da, lc, kc, dc, ?_, HR8.out, ⟨HI8.out, HQ8.out, HD8.out, ?_, ?_, ?_, ?_, ?_, ?_⟩, fun g off e => Nat.le_trans hsz (HF2.out g off e), fun g off e => Nat.le_trans hsz (HFK.out g off e), fun g off e => Nat.le_trans hsz (HFD.out g off e), HK8.out⟩
  · unfold blkV
    dsimp only
    rw [HIE.out, HDE.out, HKE.out]
  · dsimp only; rw [HIE.out]; have := HIL.out; omega
  · dsimp only; rw [HKE.out]; have := HKL.out; omega
  · dsimp only; rw [HDE.out]; have := HDL.out; omega
  · dsimp only; rw [HIE.out]; exact HCP2.out
  · dsimp only; rw [HKE.out]; exact HCK.out
  · dsimp only; rw [HDE.out]; exact HCD.out
end Go.Proofs.YtefbakhhlonafaaGreat
end
