import Derived.Test.YtmkchnanmmjboaaRef3h
import Derived.Test.YtmkchnanmmjboaaRef3g
import Derived.Test.YtmkchnanmmjboaaRef3e
namespace Go.Proofs.Ytmkchnanmmjboaa
open Go.RowKit Go.Proofs Go.Proofs.PipeM Go.Proofs.PipeA
set_option maxRecDepth 100000

set_option maxHeartbeats 800000 in
theorem sbest_much (lo ao : Option Addr) (len lcap kl cap : Nat) (P : Int) (w : World) (h : fewOk len kl = false) :
    Calls Try.prog 5 #[.slice lo len lcap, .agg #[.int .i64 P, .slice ao kl cap]] w fun e w' => e = .returned (.bool true) ∧ Below w.heap.size w w' := by
  have HF := fun W => Lib.hid (cFew lo ao len lcap kl cap P W)
  rw [h] at HF
  have HA := fun W => Lib.hid (awake3 W)
  have HB := fun o => Lib.hid (box_below w o)
  clear h
  go_enter Try.func5, Try.ntmps5
  go_wp2_with fail
  refine (HA _).out.mono ?_
  rintro e w1 ⟨rfl, hb1⟩
  have c0 : w1.cell? ⟨w.heap.size, 0, none⟩ = some (.int .i64 P) := (hb1.cell (p := ⟨w.heap.size, 0, none⟩) (by simp)).trans (by simp)
  have c1 : w1.cell? ⟨w.heap.size, 1, none⟩ = some (.slice ao kl cap) := (hb1.cell (p := ⟨w.heap.size, 1, none⟩) (by simp)).trans (by simp)
  have HB1 := Lib.hid ((HB _).out.trans (hb1.mono (HB _).out.size))
  clear hb1
  go_wp2_with fail
  refine (HF _).out.mono ?_
  rintro e w2 ⟨rfl, hb2⟩
  have HB2 := Lib.hid (HB1.out.trans (hb2.mono HB1.out.size))
  clear hb2 c0 c1
  go_wp2_with fail
  refine (HA _).out.mono ?_
  rintro e w3 ⟨rfl, hb3⟩
  have HB3 := Lib.hid (HB2.out.trans (hb3.mono HB2.out.size))
  clear hb3
  go_wp2
  go_ret
  exact ⟨rfl, HB3.out⟩

set_option maxHeartbeats 1600000 in
theorem sbest_few (lo ao : Option Addr) (lcap cap : Nat) (P : Int) (l ks : List Int) (w : World) (hcap : l.length ≤ lcap) (h : fewOk l.length ks.length = true) (hi : IntsAt w lo l) (hj : IntsAt w ao ks) :
    Calls Try.prog 5 #[.slice lo l.length lcap, .agg #[.int .i64 P, .slice ao ks.length cap]] w fun e w' => e = .returned (.bool true) ∧ Below w.heap.size w w' := by
  have hf : l.length ≤ 64 ∧ ks.length ≤ 12 := of_decide_eq_true h
  have HF := fun W => Lib.hid (cFew lo ao l.length lcap ks.length cap P W)
  rw [h] at HF
  have HA := fun W => Lib.hid (awake3 W)
  have HB := fun o => Lib.hid (box_below w o)
  have HL := fun W (hb : Below w.heap.size w W) => Lib.hid (refList lo lcap l W (by omega) (hi.below hb))
  cases hok : listOk l
  · rw [hok] at HL
    have HBN := fun W (hb : Below w.heap.size w W) => Lib.hid (cSBest_no lo lcap l W (by omega) (hi.below hb) hok)
    generalize l.length = len at *
    generalize ks.length = kl at *
    clear h hi hj hok
    go_enter Try.func5, Try.ntmps5
    go_wp2_with fail
    refine (HA _).out.mono ?_
    rintro e w1 ⟨rfl, hb1⟩
    have c0 : w1.cell? ⟨w.heap.size, 0, none⟩ = some (.int .i64 P) := (hb1.cell (p := ⟨w.heap.size, 0, none⟩) (by simp)).trans (by simp)
    have c1 : w1.cell? ⟨w.heap.size, 1, none⟩ = some (.slice ao kl cap) := (hb1.cell (p := ⟨w.heap.size, 1, none⟩) (by simp)).trans (by simp)
    have HB1 := Lib.hid ((HB _).out.trans (hb1.mono (HB _).out.size))
    clear hb1
    go_wp2_with fail
    refine (HF _).out.mono ?_
    rintro e w2 ⟨rfl, hb2⟩
    have HB2 := Lib.hid (HB1.out.trans (hb2.mono HB1.out.size))
    clear hb2 c0 c1
    go_wp2_with fail
    refine (HBN _ HB2.out).out.mono ?_
    rintro e w3 ⟨rfl, hb3⟩
    have HB3 := Lib.hid (HB2.out.trans (hb3.mono HB2.out.size))
    have HB4 := Lib.hid (HB3.out.trans ((box_below w3 (.cells #[.int .i64 0, .slice none 0 0] 24)).mono HB3.out.size))
    clear hb3
    go_wp2_with fail
    refine (HL _ HB4.out).out.mono ?_
    rintro e w5 ⟨rfl, rfl⟩
    go_wp2
    go_ret
    exact ⟨rfl, HB4.out⟩
  · rw [hok] at HL
    have HGR := fun W (hb : Below w.heap.size w W) => Lib.hid (refGood l.length P ao cap ks W (by omega) (by omega) (hj.below hb))
    have HBT := fun W (hb : Below w.heap.size w W) => Lib.hid (cBits lo ao lcap cap l P ks W hcap (by omega) (by omega) (hi.below hb) (hj.below hb))
    have HBE := fun W (hb : Below w.heap.size w W) => Lib.hid (cSBest_yes lo lcap l W hcap (hi.below hb) hok)
    have HRB := fun W (hb : Below w.heap.size w W) => Lib.hid (refSBest lo lcap l W hcap (hi.below hb) hok)
    have hmp8 : 2 ^ bestP l ≤ 8 := Nat.le_trans (Nat.pow_le_pow_right (by decide) (Nat.le_trans (bestP_le l) (topP_le _))) (by decide)
    have HSM := fun W H yo ycap (h1 : IntsAt W (some ⟨H, 0, none⟩) (ksAt l (bestP l))) (h2 : IntsAt W yo (ksAt l (bestP l))) => Lib.hid (refParts (some ⟨H, 0, none⟩) yo (2 ^ bestP l) ycap (bestP l : Nat) (bestP l : Nat) (ksAt l (bestP l)) (ksAt l (bestP l)) W (by rw [ksAt_length]; omega) h1 h2)
    have HRBI := fun W yo ycap (hb : Below w.heap.size w W) (h2 : IntsAt W yo (ksAt l (bestP l))) => Lib.hid (refSBits lo yo lcap ycap l (bestP l : Nat) (ksAt l (bestP l)) W hcap (hi.below hb) h2 (powAt_ok hok (bestP_le l)))
    have HCBI := fun W H (hb : Below w.heap.size w W) (h2 : IntsAt W (some ⟨H, 0, none⟩) (ksAt l (bestP l))) => Lib.hid (cBits lo (some ⟨H, 0, none⟩) lcap (2 ^ bestP l) l (bestP l : Nat) (ksAt l (bestP l)) W hcap (by omega) (by rw [ksAt_length]; omega) (hi.below hb) h2)
    rw [powAt_len hok (bestP_le l), ksAt_length] at HRBI HCBI
    rw [ksAt_length] at HSM
    rw [decide_eq_true (⟨rfl, rfl⟩ : ((bestP l : Nat) : Int) = (bestP l : Nat) ∧ ksAt l (bestP l) = ksAt l (bestP l))] at HSM
    have HPG : Hid (partsOk l.length P ks = true → lenAt l (bestP l) ≤ slideLen l P ks) := fun hyes => best_least (by unfold slideOk; rw [hyes, hok]; rfl)
    obtain ⟨mp, hmp⟩ : ∃ mp, mp = 2 ^ bestP l := ⟨_, rfl⟩
    rw [← hmp] at HSM HRBI HCBI
    have HMP := Lib.hid hmp
    obtain ⟨bb, hbb⟩ : ∃ bb, bb = lenAt l (bestP l) := ⟨_, rfl⟩
    rw [← hbb] at HRBI HCBI HPG
    have HBB := Lib.hid hbb
    generalize partsOk l.length P ks = po at HGR HPG
    generalize slideLen l P ks = sl at HBT HPG
    generalize l.length = len at *
    generalize ks.length = kl at *
    clear h hi hj hmp hbb hok hcap hmp8
    go_enter Try.func5, Try.ntmps5
    go_wp2_with fail
    refine (HA _).out.mono ?_
    rintro e w1 ⟨rfl, hb1⟩
    have hz1 : w.heap.size < w1.heap.size := by have := hb1.size; simp at this; omega
    have c0 : w1.cell? ⟨w.heap.size, 0, none⟩ = some (.int .i64 P) := (hb1.cell (p := ⟨w.heap.size, 0, none⟩) (by simp)).trans (by simp)
    have c1 : w1.cell? ⟨w.heap.size, 1, none⟩ = some (.slice ao kl cap) := (hb1.cell (p := ⟨w.heap.size, 1, none⟩) (by simp)).trans (by simp)
    have HB1 := Lib.hid ((HB _).out.trans (hb1.mono (HB _).out.size))
    clear hb1
    go_wp2_with fail
    refine (HF _).out.mono ?_
    rintro e w2 ⟨rfl, hb2⟩
    have c0 := (hb2.cell (p := ⟨w.heap.size, 0, none⟩) hz1).trans c0
    have c1 := (hb2.cell (p := ⟨w.heap.size, 1, none⟩) hz1).trans c1
    have hz2 : w.heap.size < w2.heap.size := Nat.lt_of_lt_of_le hz1 hb2.size
    have HB2 := Lib.hid (HB1.out.trans (hb2.mono HB1.out.size))
    clear hb2
    go_wp2_with fail
    refine (HBE _ HB2.out).out.mono ?_
    rintro e w3 ⟨H, rfl, hJ3, hH3, hb3⟩
    rw [← HBB.out, ← HMP.out]
    obtain ⟨w4, hw4⟩ : ∃ w4, w4 = w3.alloc (.cells #[.int .i64 (bestP l : Nat), .slice (some ⟨H, 0, none⟩) mp mp] 24) := ⟨_, rfl⟩
    have hb34 : Below w3.heap.size w3 w4 := by rw [hw4]; exact box_below w3 _
    have hn4 : w4.heap[w3.heap.size]? = some (.cells #[.int .i64 (bestP l : Nat), .slice (some ⟨H, 0, none⟩) mp mp] 24) := by rw [hw4]; exact World.alloc_heap_new w3 _
    have hb24 := hb3.trans (hb34.mono hb3.size)
    have hz4 : w.heap.size < w4.heap.size := Nat.lt_of_lt_of_le hz2 hb24.size
    have hx4 : w3.heap.size < w4.heap.size := (Array.getElem?_eq_some_iff.1 hn4).1
    have c0 := (hb24.cell (p := ⟨w.heap.size, 0, none⟩) hz2).trans c0
    have c1 := (hb24.cell (p := ⟨w.heap.size, 1, none⟩) hz2).trans c1
    have x0 : w4.cell? ⟨w3.heap.size, 0, none⟩ = some (.int .i64 (bestP l : Nat)) := cell_of_heap hn4 0
    have x1 : w4.cell? ⟨w3.heap.size, 1, none⟩ = some (.slice (some ⟨H, 0, none⟩) mp mp) := cell_of_heap hn4 1
    have HJ4 := Lib.hid (hJ3.below hb34)
    have HB4 := Lib.hid (HB2.out.trans (hb24.mono HB2.out.size))
    have HW4 := Lib.hid hw4
    clear hb3 hb34 hn4 hb24 hJ3 HBE hw4
    go_wp2_with fail
    rw [← HW4.out]
    refine (HL _ HB4.out).out.mono ?_
    rintro e w5 ⟨rfl, rfl⟩
    go_wp2_with fail
    refine (HRB _ HB4.out).out.mono ?_
    rintro e w6 ⟨yo, ycap, rfl, hY6, hb6⟩
    rw [← HMP.out]
    obtain ⟨w7, hw7⟩ : ∃ w7, w7 = w6.alloc (.cells #[.int .i64 (bestP l : Nat), .slice yo mp ycap] 29) := ⟨_, rfl⟩
    have hb67 : Below w6.heap.size w6 w7 := by rw [hw7]; exact box_below w6 _
    have hn7 : w7.heap[w6.heap.size]? = some (.cells #[.int .i64 (bestP l : Nat), .slice yo mp ycap] 29) := by rw [hw7]; exact World.alloc_heap_new w6 _
    have hb47 := hb6.trans (hb67.mono hb6.size)
    have hy7 : w6.heap.size < w7.heap.size := (Array.getElem?_eq_some_iff.1 hn7).1
    have hx7 : w3.heap.size < w7.heap.size := Nat.lt_of_lt_of_le hx4 hb47.size
    have hz7 : w.heap.size < w7.heap.size := Nat.lt_of_lt_of_le hz4 hb47.size
    have c0 := (hb47.cell (p := ⟨w.heap.size, 0, none⟩) hz4).trans c0
    have c1 := (hb47.cell (p := ⟨w.heap.size, 1, none⟩) hz4).trans c1
    have x0 := (hb47.cell (p := ⟨w3.heap.size, 0, none⟩) hx4).trans x0
    have x1 := (hb47.cell (p := ⟨w3.heap.size, 1, none⟩) hx4).trans x1
    have y0 : w7.cell? ⟨w6.heap.size, 0, none⟩ = some (.int .i64 (bestP l : Nat)) := cell_of_heap hn7 0
    have y1 : w7.cell? ⟨w6.heap.size, 1, none⟩ = some (.slice yo mp ycap) := cell_of_heap hn7 1
    have HJ7 := Lib.hid (HJ4.out.below hb47)
    have HY7 := Lib.hid (hY6.below hb67)
    have HB7 := Lib.hid (HB4.out.trans (hb47.mono HB4.out.size))
    have HS7 := HSM w7 H yo ycap HJ7.out HY7.out
    clear hb6 hb67 hn7 hb47 hY6 HRB HJ4 HSM HL
    subst hw7
    go_wp2_with fail
    refine HS7.out.mono ?_
    rintro e w8 ⟨rfl, hb8⟩
    have c0 := (hb8.cell (p := ⟨w.heap.size, 0, none⟩) hz7).trans c0
    have c1 := (hb8.cell (p := ⟨w.heap.size, 1, none⟩) hz7).trans c1
    have x0 := (hb8.cell (p := ⟨w3.heap.size, 0, none⟩) hx7).trans x0
    have x1 := (hb8.cell (p := ⟨w3.heap.size, 1, none⟩) hx7).trans x1
    have y0 := (hb8.cell (p := ⟨w6.heap.size, 0, none⟩) hy7).trans y0
    have y1 := (hb8.cell (p := ⟨w6.heap.size, 1, none⟩) hy7).trans y1
    have hz8 := Nat.lt_of_lt_of_le hz7 hb8.size
    have hx8 := Nat.lt_of_lt_of_le hx7 hb8.size
    have HJ8 := Lib.hid (HJ7.out.below hb8)
    have HB8 := Lib.hid (HB7.out.trans (hb8.mono HB7.out.size))
    have HR8 := HRBI w8 yo ycap HB8.out (HY7.out.below hb8)
    clear hb8 HS7 HRBI HY7 HJ7
    go_wp2_with fail
    refine HR8.out.mono ?_
    rintro e w9 ⟨rfl, hb9⟩
    have c0 := (hb9.cell (p := ⟨w.heap.size, 0, none⟩) hz8).trans c0
    have c1 := (hb9.cell (p := ⟨w.heap.size, 1, none⟩) hz8).trans c1
    have x0 := (hb9.cell (p := ⟨w3.heap.size, 0, none⟩) hx8).trans x0
    have x1 := (hb9.cell (p := ⟨w3.heap.size, 1, none⟩) hx8).trans x1
    have hz9 := Nat.lt_of_lt_of_le hz8 hb9.size
    have HB9 := Lib.hid (HB8.out.trans (hb9.mono HB8.out.size))
    have HC9 := HCBI w9 H HB9.out (HJ8.out.below hb9)
    clear hb9 HR8 HCBI HJ8 y0 y1
    go_wp2_with fail
    refine HC9.out.mono ?_
    rintro e wa ⟨rfl, hba⟩
    have c0 := (hba.cell (p := ⟨w.heap.size, 0, none⟩) hz9).trans c0
    have c1 := (hba.cell (p := ⟨w.heap.size, 1, none⟩) hz9).trans c1
    have hza := Nat.lt_of_lt_of_le hz9 hba.size
    have HBa := Lib.hid (HB9.out.trans (hba.mono HB9.out.size))
    have HGa := HGR wa HBa.out
    clear hba HC9 HGR x0 x1
    go_wp2_with fail
    refine HGa.out.mono ?_
    rintro e wb ⟨rfl, hbb⟩
    have c0 := (hbb.cell (p := ⟨w.heap.size, 0, none⟩) hza).trans c0
    have c1 := (hbb.cell (p := ⟨w.heap.size, 1, none⟩) hza).trans c1
    have HBb := Lib.hid (HBa.out.trans (hbb.mono HBa.out.size))
    have HBTb := HBT wb HBb.out
    clear hbb HGa HBT
    cases po
    · go_wp2
      go_ret
      exact ⟨rfl, HBb.out⟩
    · have hle := HPG.out rfl
      have tle : decide (bb ≤ sl) = true := decide_eq_true hle
      clear hle HPG
      go_wp2_with fail
      refine HBTb.out.mono ?_
      rintro e wc ⟨rfl, hbc⟩
      have HBc := Lib.hid hbc
      clear hbc
      go_wp2
      go_ret
      exact ⟨rfl, HBb.out.trans (HBc.out.mono HBb.out.size)⟩

theorem slideBest (lo ao : Option Addr) (lcap cap : Nat) (P : Int) (l ks : List Int) (w : World) (hcap : l.length ≤ lcap) (hi : IntsAt w lo l) (hj : IntsAt w ao ks) :
    Calls Try.prog 5 #[.slice lo l.length lcap, .agg #[.int .i64 P, .slice ao ks.length cap]] w fun e w' => e = .returned (.bool true) ∧ Below w.heap.size w w' := by
  cases h : fewOk l.length ks.length
  · exact sbest_much lo ao l.length lcap ks.length cap P w h
  · exact sbest_few lo ao lcap cap P l ks w hcap h hi hj
end Go.Proofs.Ytmkchnanmmjboaa
