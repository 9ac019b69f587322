import Derived.Test.YtnpngahpadchpaaSlideM
namespace Go.Proofs.Ytnpngahpadchpaa
open Go.RowKit Go.Proofs Go.Proofs.PipeM Go.Proofs.PipeA
set_option maxRecDepth 100000

set_option maxHeartbeats 800000 in
theorem cSBest_no (lo : Option Addr) (lcap : Nat) (l : List Int) (w : World) (hl : l.length ≤ 1000000) (hi : IntsAt w lo l) (h : listOk l = false) :
    Calls Try.prog 28 #[.slice lo l.length lcap] w fun e w' => e = .returned (.tuple #[.agg #[.int .i64 0, .slice none 0 0], .int .i64 0]) ∧ Below w.heap.size w w' := by
  have HL := fun o => Lib.hid (cIsList lo lcap l (w.alloc o) (by omega) (hi.below (box_below w o)))
  rw [h] at HL
  generalize l.length = len at HL hl ⊢
  clear h hi
  go_enter Try.func28, Try.ntmps28
  go_wp2_with fail
  refine (HL _).out.mono ?_
  rintro e w1 ⟨rfl, hb1⟩
  have HB1 := Lib.hid ((box_below w _).trans (hb1.mono (box_below w _).size))
  have r0 : w1.cell? ⟨w.heap.size, 0, none⟩ = some (.int .i64 0) := (hb1.cell (p := ⟨w.heap.size, 0, none⟩) (by simp)).trans (by simp)
  have r1 : w1.cell? ⟨w.heap.size, 1, none⟩ = some (.slice none 0 0) := (hb1.cell (p := ⟨w.heap.size, 1, none⟩) (by simp)).trans (by simp)
  have r2 : w1.frozen? ⟨w.heap.size, 0, none⟩ = false := (hb1.frozen (p := ⟨w.heap.size, 0, none⟩) (by simp)).trans (by simp)
  have r3 : w1.frozen? ⟨w.heap.size, 1, none⟩ = false := (hb1.frozen (p := ⟨w.heap.size, 1, none⟩) (by simp)).trans (by simp)
  have kk : Keeps [w.heap.size] w1 ((w1.setCell ⟨w.heap.size, 0, none⟩ (.int .i64 0)).setCell ⟨w.heap.size, 1, none⟩ (.slice none 0 0)) := (keeps_setCell w1 w.heap.size 0 _).trans (keeps_setCell _ w.heap.size 1 _)
  have y0 : ((w1.setCell ⟨w.heap.size, 0, none⟩ (.int .i64 0)).setCell ⟨w.heap.size, 1, none⟩ (.slice none 0 0)).cell? ⟨w.heap.size, 0, none⟩ = some (.int .i64 0) := (World.cell?_setCell_other _ _ _ _ (by simp)).trans (World.cell?_setCell_same' _ _ _ (by rw [r0]; rfl))
  have y1 : ((w1.setCell ⟨w.heap.size, 0, none⟩ (.int .i64 0)).setCell ⟨w.heap.size, 1, none⟩ (.slice none 0 0)).cell? ⟨w.heap.size, 1, none⟩ = some (.slice none 0 0) := World.cell?_setCell_same' _ _ _ (by rw [World.cell?_setCell_other _ _ _ _ (by simp), r1]; rfl)
  have HKK := Lib.hid kk
  clear hb1 kk
  go_wp2_with fail
  refine bodyPost_ret (v := .tuple #[.agg #[.int .i64 0, .slice none 0 0], .int .i64 0]) ?res rfl ?_
  · simp [results, Try.results28, go_sem, y0, y1]
  · exact ⟨rfl, HB1.out.trans (HKK.out.below HB1.out.size (by simp))⟩

def fewOk (len kl : Nat) : Bool := decide (len ≤ 64 ∧ kl ≤ 12)
set_option maxHeartbeats 800000 in
theorem cFew (lo ao : Option Addr) (len lcap kl cap : Nat) (P : Int) (w : World) :
    Calls Try.prog 10 #[.slice lo len lcap, .agg #[.int .i64 P, .slice ao kl cap]] w fun e w' => e = .returned (.bool (fewOk len kl)) ∧ Below w.heap.size w w' := by
  have HB := fun o => Lib.hid (box_below w o)
  by_cases h1 : len ≤ 64
  · have t1 : decide ((len : Int) ≤ 64) = true := decide_eq_true (by omega)
    by_cases h2 : kl ≤ 12
    · have t2 : decide ((kl : Int) ≤ 12) = true := decide_eq_true (by omega)
      have HP : Hid (fewOk len kl = true) := decide_eq_true (⟨h1, h2⟩ : len ≤ 64 ∧ kl ≤ 12)
      clear h1 h2
      go_enter Try.func10, Try.ntmps10
      go_wp2
      go_ret
      exact ⟨by rw [HP.out]; rfl, (HB _).out⟩
    · have t2 : decide ((kl : Int) ≤ 12) = false := decide_eq_false (by omega)
      have HP : Hid (fewOk len kl = false) := decide_eq_false (fun hc => h2 hc.2 : ¬ (len ≤ 64 ∧ kl ≤ 12))
      clear h1 h2
      go_enter Try.func10, Try.ntmps10
      go_wp2
      go_ret
      exact ⟨by rw [HP.out]; rfl, (HB _).out⟩
  · have t1 : decide ((len : Int) ≤ 64) = false := decide_eq_false (by omega)
    have HP : Hid (fewOk len kl = false) := decide_eq_false (fun hc => h1 hc.1 : ¬ (len ≤ 64 ∧ kl ≤ 12))
    clear h1
    go_enter Try.func10, Try.ntmps10
    go_wp2
    go_ret
    exact ⟨by rw [HP.out]; rfl, (HB _).out⟩

theorem ints_one (W : World) (b : Nat) (z : Int) (t : TypeId) (h : W.heap[b]? = some (.cells #[.int .i64 z] t)) : IntsAt W (some ⟨b, 0, none⟩) [z] := by
  intro j hj
  have : j = 0 := by simp at hj; omega
  subst this
  exact ⟨b, 0, rfl, (Array.getElem?_eq_some_iff.1 h).1, (cell_of_heap h 0).trans rfl⟩

theorem alloc3 (w : World) (o1 o2 o3 : Obj) : (((w.alloc o1).alloc o2).alloc o3).heap[w.heap.size + 1]? = some o2 ∧ (((w.alloc o1).alloc o2).alloc o3).heap[w.heap.size + 1 + 1]? = some o3 ∧ Below (w.alloc o1).heap.size (w.alloc o1) (((w.alloc o1).alloc o2).alloc o3) := by
  have h2 := World.alloc_heap_new (w.alloc o1) o2
  have h3 := World.alloc_heap_new ((w.alloc o1).alloc o2) o3
  have z1 : (w.alloc o1).heap.size = w.heap.size + 1 := by simp
  have z2 : ((w.alloc o1).alloc o2).heap.size = w.heap.size + 1 + 1 := by simp
  rw [z1] at h2
  rw [z2] at h3
  exact ⟨(Below.heap_alloc _ _ _ (by simp)).trans h2, h3, ((Below.refl _ _).alloc (Nat.le_refl _) _).alloc (by simp) _⟩

set_option maxHeartbeats 1600000 in
theorem awake3 (w : World) : Calls Try.prog 9 #[] w fun e w' => e = .returned (.bool true) ∧ Below w.heap.size w w' := by
  go_enter Try.func9, Try.ntmps9
  go_wp2_with fail
  obtain ⟨h1, h2, hb⟩ := alloc3 w (.cells #[.slice none 0 0, .int .i64 0] 32) (.cells #[.int .i64 0] 3) (.cells #[.int .i64 0] 3)
  have hw := (wr_fresh w).keeps (keeps_of_below hb []) (by simp) (by simp)
  have hbw := (box_below w (.cells #[.slice none 0 0, .int .i64 0] 32)).trans (hb.mono (box_below w _).size)
  generalize ((w.alloc (.cells #[.slice none 0 0, .int .i64 0] 32)).alloc (.cells #[.int .i64 0] 3)).alloc (.cells #[.int .i64 0] 3) = wa at h1 h2 hw hbw ⊢
  clear hb
  have HP := cSPut_yes w.heap.size (.slice none 0 0) [] [] (some ⟨w.heap.size + 1, 0, none⟩) (some ⟨w.heap.size + 1 + 1, 0, none⟩) 1 1 [0] 0 [0] wa (by simp) (by simp) hw (ints_one wa _ 0 _ h1) (ints_one wa _ 0 _ h2) (by intro g off e; cases e; simp [Off, Value.ownBlock]) (by intro g off e; cases e; simp [Off, Value.ownBlock]; omega) (by decide)
  rw [show slideOk [0] 0 [0] = true from by decide, show slideBits [0] 0 [0] = [false, false, false, false, false, false, false, true] from by decide] at HP
  refine HP.mono ?_
  rintro e w2 ⟨rfl, v2, zs2, hi2, hk2, ho2⟩
  have HB2 : Hid (Below w.heap.size w w2) := hbw.trans (hk2.below hbw.size (by intro x hx; simp [Value.ownBlock] at hx; omega))
  have H2 := Lib.hid hi2
  have c1 : w2.cell? ⟨w.heap.size, 1, none⟩ = some (.int .i64 8) := hi2.c1
  clear hi2 hk2 ho2 HP hw hbw h1 h2
  go_wp2_with fail
  refine (wLen _ _ _ c1).mono ?_
  rintro e w3 ⟨rfl, rfl⟩
  go_wp2_with fail
  refine (wBytes w.heap.size v2 _ zs2 _ (by decide) H2.out).mono ?_
  rintro e w4 ⟨g, rfl, hown4, hb4⟩
  have hcv := conv_row hown4
  have hzs : zs2 = [1] := H2.out.packs.unique ⟨by simp, by decide⟩
  have hstr : bstr zs2 = ⟨#[1]⟩ := by rw [hzs]; rfl
  rw [hstr] at hcv
  have HB4 := Lib.hid hb4
  clear hown4 hb4 hzs hstr
  go_wp2
  go_ret
  exact ⟨rfl, HB2.out.trans (HB4.out.mono HB2.out.size)⟩
end Go.Proofs.Ytnpngahpadchpaa
