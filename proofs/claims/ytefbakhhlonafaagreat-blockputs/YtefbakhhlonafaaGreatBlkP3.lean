import Derived.Test.YtefbakhhlonafaaGreatBlkG4

namespace Go.Proofs.YtefbakhhlonafaaGreat
open Go.RowKit Go.Proofs Go.Proofs.PipeM Go.Proofs.PipeA Go.Proofs.BlkM Go.Proofs.BlkB
open Go.Proofs.LatM (goodL)
open Go.Proofs.LagM (goodT)
set_option maxRecDepth 100000

/-- A block that isn't right isn't put. -/
theorem cPut10_no (b : Nat) (bd : Blk) (ia ra da : Option Addr) (ic rc dc : Nat) (n d : Int) (w : World) (hI : BlkIn w bd ia ra da ic rc dc) (hwf : Wf9 bd) (hc : codeB bd n d ≠ 0) :
    Calls Tryz.prog 8 #[.pointer (some ⟨b, 0, none⟩), blkV bd ia ra da ic rc dc, .int .i64 n, .int .i64 d] w fun e w' => e = .returned (.bool false) ∧ Below w.heap.size w w' := by
  have HBX : Hid (∀ o, Below w.heap.size w (w.alloc o)) := fun o => box_below w o
  have HR : Hid (∀ W, Below w.heap.size w W → Calls Tryz.prog 31 #[blkV bd ia ra da ic rc dc, .int .i64 n, .int .i64 d] W fun e w' => e = .returned (.bool false) ∧ Below W.heap.size W w') := fun W hW => by
    have h := cIsRight bd ia ra da ic rc dc n d W (hI.below hW) hwf
    rw [decide_eq_false hc] at h
    exact h
  clear hI hwf hc
  obtain ⟨kind, value, shift, index, lag, gain, part, rice, data⟩ := bd
  unfold blkV at *
  dsimp only at *
  generalize index.length = il at *
  generalize rice.length = rl at *
  generalize data.length = dl at *
  go_enter Tryz.func8, Tryz.ntmps8
  go_wp2_with fail
  refine (HR.out _ (HBX.out _)).mono ?_
  rintro e w1 ⟨rfl, hb⟩
  have HB : Hid (Below w.heap.size w w1) := (HBX.out _).trans (hb.mono (by simp))
  clear hb
  go_wp2
  go_ret
  exact ⟨rfl, HB.out⟩

/-- What stands ahead of a write, and what it leaves. -/
structure PutAt (w W0 : World) (b : Nat) (v : Value) (l0 : List Bool) (cs : Array Value) : Prop where
  start : Wrote W0 b v l0 W0
  below : Below w.heap.size w W0
  cell : ∀ (W : World) l1, Wrote W0 b v l1 W → ∀ j val, cs[j]? = some val → W.cell? ⟨w.heap.size, j, none⟩ = some val
  back : ∀ l1 W, Wrote W0 b v l1 W → Wrote w b v l1 W
theorem putAt_new {w : World} {b : Nat} {v : Value} {l0 : List Bool} {zs : List Nat} (cs : Array Value) (hw : WrIs w b v l0 zs) : PutAt w (w.alloc (.cells cs 24)) b v l0 cs := by
  have hb0 := box_below w (.cells cs 24)
  have hn0 := World.alloc_heap_new w (.cells cs 24)
  have hlt0 := (Array.getElem?_eq_some_iff.1 hn0).1
  exact ⟨Wrote.refl (hw.keeps (keeps_of_below hb0 []) (by simp) (by simp)), hb0, fun W l1 hwr j val h => by
    rw [hwr.cell (g := w.heap.size) (off := j) hlt0 (Off.new hw (Nat.le_refl _)), cell_of_heap hn0]
    exact h, fun l1 W h => Wrote.later (keeps_of_below hb0 []) h⟩
theorem PutAt.put {w W0 : World} {b : Nat} {v : Value} {l0 : List Bool} {cs : Array Value} (_ : PutAt w W0 b v l0 cs) (x n : Nat) (l1 : List Bool) (W : World) (h1 : n ≤ 48) (h2 : x < 2 ^ n) (h3 : l1.length ≤ 100000) (hwr : Wrote W0 b v l1 W) :
    Calls Tryz.prog 32 #[.pointer (some ⟨b, 0, none⟩), .int .u64 x, .int .i64 n] W fun e W' => e = .returned (.bool true) ∧ Wrote W0 b v (l1 ++ low x n) W' := by
  obtain ⟨v1, zs1, hw1, _, hnx⟩ := hwr.off
  refine (wPut_yes b v1 l1 zs1 x n W h1 h2 h3 hw1).mono ?_
  rintro e W' ⟨h4, h5⟩
  exact ⟨h4, hnx _ _ h5⟩
theorem PutAt.signed {w W0 : World} {b : Nat} {v : Value} {l0 : List Bool} {cs : Array Value} (_ : PutAt w W0 b v l0 cs) (x : Int) (m : Nat) (l1 : List Bool) (W : World) (hm1 : 8 ≤ m) (hm2 : m ≤ 26) (h2 : hasP (halfOf (m : Int)) x = true) (h3 : l1.length ≤ 100000) (hwr : Wrote W0 b v l1 W) :
    Calls Tryz.prog 33 #[.pointer (some ⟨b, 0, none⟩), .int .i64 x, .int .i64 m] W fun e W' => e = .returned (.bool true) ∧ Wrote W0 b v (l1 ++ sg m x) W' := by
  obtain ⟨v1, zs1, hw1, _, hnx⟩ := hwr.off
  have hb := of_decide_eq_true h2
  rw [hp_nat (by omega)] at hb
  refine (wSigned_yes b v1 l1 zs1 x m W (by omega) (by omega) hb.1 hb.2 h3 hw1).mono ?_
  rintro e W' ⟨h4, h5⟩
  exact ⟨h4, hnx _ _ h5⟩

theorem x64 {m : Nat} {x : Int} (h1 : 8 ≤ m) (h2 : m ≤ 26) (h : hasP (halfOf (m : Int)) x = true) : In64 x := by
  have := of_decide_eq_true h
  have := hp_bound h1 h2
  unfold In64
  omega
set_option maxHeartbeats 3200000 in
theorem cPut_zero (b : Nat) (v : Value) (l0 : List Bool) (zs : List Nat)  (ia ra da : Option Addr) (ic rc dc : Nat) (k m : Nat) (w : World) (_hk1 : 1 ≤ k) (_hk : k ≤ 1024) (_hm1 : 8 ≤ m) (_hm2 : m ≤ 26) (hl0 : l0.length ≤ 17000) (hw : WrIs w b v l0 zs) (hI : BlkIn w ⟨0, 0, 0, [], 0, 0, 0, [], []⟩ ia ra da ic rc dc) (hc : codeB ⟨0, 0, 0, [], 0, 0, 0, [], []⟩ k m = 0) :
    Calls Tryz.prog 8 #[.pointer (some ⟨b, 0, none⟩), blkV ⟨0, 0, 0, [], 0, 0, 0, [], []⟩ ia ra da ic rc dc, .int .i64 k, .int .i64 m] w (Puts w b v true (l0 ++ bitsB ⟨0, 0, 0, [], 0, 0, 0, [], []⟩ m)) := by
  have HR : Hid (∀ W, Below w.heap.size w W → Calls Tryz.prog 31 #[blkV ⟨0, 0, 0, [], 0, 0, 0, [], []⟩ ia ra da ic rc dc, .int .i64 k, .int .i64 m] W fun e w' => e = .returned (.bool true) ∧ Below W.heap.size W w') := fun W hW => by
    have h := cIsRight ⟨0, 0, 0, [], 0, 0, 0, [], []⟩ ia ra da ic rc dc k m W (hI.below hW) { v := in64_zero, s := in64_zero, l := in64_zero, g := in64_zero, p := in64_zero }
    rw [decide_eq_true hc] at h
    exact h
  have HE : Hid (l0 ++ bitsB ⟨0, 0, 0, [], 0, 0, 0, [], []⟩ m = l0 ++ low 0 2) := by show _ = _; simp [bitsB]
  rw [HE.out]
  unfold blkV at *
  dsimp only [List.length_nil] at *
  obtain ⟨W0, hW0⟩ : ∃ W0, W0 = w.alloc (.cells #[.int .i64 0, .int .i64 0, .int .i64 0, .slice ia 0 ic, .int .i64 0, .int .i64 0, .int .i64 0, .slice ra 0 rc, .slice da 0 dc] 24) := ⟨_, rfl⟩
  have hPA := putAt_new #[.int .i64 0, .int .i64 0, .int .i64 0, .slice ia 0 ic, .int .i64 0, .int .i64 0, .int .i64 0, .slice ra 0 rc, .slice da 0 dc] hw
  rw [← hW0] at hPA
  have HPA := Lib.hid hPA
  have HW0 := Lib.hid hW0
  have HCE := Lib.hid hPA.cell
  have HL0 : Hid (l0.length ≤ 100000) := by show _ ≤ _; omega
  clear hPA hW0 hw hI hc
  go_enter Tryz.func8, Tryz.ntmps8
  go_wp2_with fail
  rw [← HW0.out]
  refine (HR.out _ HPA.out.below).mono ?_
  rintro e w1 ⟨rfl, hb⟩
  have HW1 := Lib.hid (HPA.out.start.still hb)
  have k0 := HCE.out w1 _ HW1.out 0 (.int .i64 0) rfl
  have k1 := HCE.out w1 _ HW1.out 1 (.int .i64 0) rfl
  have k2 := HCE.out w1 _ HW1.out 2 (.int .i64 0) rfl
  have k3 := HCE.out w1 _ HW1.out 3 (.slice ia 0 ic) rfl
  have k4 := HCE.out w1 _ HW1.out 4 (.int .i64 0) rfl
  have k5 := HCE.out w1 _ HW1.out 5 (.int .i64 0) rfl
  have k6 := HCE.out w1 _ HW1.out 6 (.int .i64 0) rfl
  have k7 := HCE.out w1 _ HW1.out 7 (.slice ra 0 rc) rfl
  have k8 := HCE.out w1 _ HW1.out 8 (.slice da 0 dc) rfl
  clear hb
  go_wp2_with fail
  refine (HPA.out.put 0 2 _ w1 (by omega) (by decide) HL0.out HW1.out).mono ?_
  rintro e w2 ⟨rfl, hw2⟩
  have HW2 := Lib.hid hw2
  clear hw2 k0 k1 k2 k3 k4 k5 k6 k7 k8
  have k0 := HCE.out w2 _ HW2.out 0 (.int .i64 0) rfl
  have k1 := HCE.out w2 _ HW2.out 1 (.int .i64 0) rfl
  have k2 := HCE.out w2 _ HW2.out 2 (.int .i64 0) rfl
  have k3 := HCE.out w2 _ HW2.out 3 (.slice ia 0 ic) rfl
  have k4 := HCE.out w2 _ HW2.out 4 (.int .i64 0) rfl
  have k5 := HCE.out w2 _ HW2.out 5 (.int .i64 0) rfl
  have k6 := HCE.out w2 _ HW2.out 6 (.int .i64 0) rfl
  have k7 := HCE.out w2 _ HW2.out 7 (.slice ra 0 rc) rfl
  have k8 := HCE.out w2 _ HW2.out 8 (.slice da 0 dc) rfl
  go_wp2
  go_ret
  exact ⟨rfl, HPA.out.back _ _ HW2.out⟩


set_option maxHeartbeats 3200000 in
theorem cPut_const (b : Nat) (v : Value) (l0 : List Bool) (zs : List Nat) (x : Int) (ia ra da : Option Addr) (ic rc dc : Nat) (k m : Nat) (w : World) (_hk1 : 1 ≤ k) (_hk : k ≤ 1024) (hm1 : 8 ≤ m) (hm2 : m ≤ 26) (hl0 : l0.length ≤ 17000) (hw : WrIs w b v l0 zs) (hI : BlkIn w ⟨1, x, 0, [], 0, 0, 0, [], []⟩ ia ra da ic rc dc) (hc : codeB ⟨1, x, 0, [], 0, 0, 0, [], []⟩ k m = 0) (hx : hasP (halfOf (m : Int)) x = true) :
    Calls Tryz.prog 8 #[.pointer (some ⟨b, 0, none⟩), blkV ⟨1, x, 0, [], 0, 0, 0, [], []⟩ ia ra da ic rc dc, .int .i64 k, .int .i64 m] w (Puts w b v true (l0 ++ bitsB ⟨1, x, 0, [], 0, 0, 0, [], []⟩ m)) := by
  have HR : Hid (∀ W, Below w.heap.size w W → Calls Tryz.prog 31 #[blkV ⟨1, x, 0, [], 0, 0, 0, [], []⟩ ia ra da ic rc dc, .int .i64 k, .int .i64 m] W fun e w' => e = .returned (.bool true) ∧ Below W.heap.size W w') := fun W hW => by
    have h := cIsRight ⟨1, x, 0, [], 0, 0, 0, [], []⟩ ia ra da ic rc dc k m W (hI.below hW) { v := (x64 hm1 hm2 hx), s := in64_zero, l := in64_zero, g := in64_zero, p := in64_zero }
    rw [decide_eq_true hc] at h
    exact h
  have HE : Hid (l0 ++ bitsB ⟨1, x, 0, [], 0, 0, 0, [], []⟩ m = (l0 ++ low 1 2) ++ sg m x) := by show _ = _; simp [bitsB]
  rw [HE.out]
  have HX := Lib.hid hx
  unfold blkV at *
  dsimp only [List.length_nil] at *
  obtain ⟨W0, hW0⟩ : ∃ W0, W0 = w.alloc (.cells #[.int .i64 1, .int .i64 x, .int .i64 0, .slice ia 0 ic, .int .i64 0, .int .i64 0, .int .i64 0, .slice ra 0 rc, .slice da 0 dc] 24) := ⟨_, rfl⟩
  have hPA := putAt_new #[.int .i64 1, .int .i64 x, .int .i64 0, .slice ia 0 ic, .int .i64 0, .int .i64 0, .int .i64 0, .slice ra 0 rc, .slice da 0 dc] hw
  rw [← hW0] at hPA
  have HPA := Lib.hid hPA
  have HW0 := Lib.hid hW0
  have HCE := Lib.hid hPA.cell
  have HL0 : Hid (l0.length ≤ 100000) := by show _ ≤ _; omega
  clear hPA hW0 hw hI hc hx
  go_enter Tryz.func8, Tryz.ntmps8
  go_wp2_with fail
  rw [← HW0.out]
  refine (HR.out _ HPA.out.below).mono ?_
  rintro e w1 ⟨rfl, hb⟩
  have HW1 := Lib.hid (HPA.out.start.still hb)
  have k0 := HCE.out w1 _ HW1.out 0 (.int .i64 1) rfl
  have k1 := HCE.out w1 _ HW1.out 1 (.int .i64 x) rfl
  have k2 := HCE.out w1 _ HW1.out 2 (.int .i64 0) rfl
  have k3 := HCE.out w1 _ HW1.out 3 (.slice ia 0 ic) rfl
  have k4 := HCE.out w1 _ HW1.out 4 (.int .i64 0) rfl
  have k5 := HCE.out w1 _ HW1.out 5 (.int .i64 0) rfl
  have k6 := HCE.out w1 _ HW1.out 6 (.int .i64 0) rfl
  have k7 := HCE.out w1 _ HW1.out 7 (.slice ra 0 rc) rfl
  have k8 := HCE.out w1 _ HW1.out 8 (.slice da 0 dc) rfl
  clear hb
  go_wp2_with fail
  refine (HPA.out.put 1 2 _ w1 (by omega) (by decide) HL0.out HW1.out).mono ?_
  rintro e w2 ⟨rfl, hw2⟩
  have HW2 := Lib.hid hw2
  clear hw2 k0 k1 k2 k3 k4 k5 k6 k7 k8
  have k0 := HCE.out w2 _ HW2.out 0 (.int .i64 1) rfl
  have k1 := HCE.out w2 _ HW2.out 1 (.int .i64 x) rfl
  have k2 := HCE.out w2 _ HW2.out 2 (.int .i64 0) rfl
  have k3 := HCE.out w2 _ HW2.out 3 (.slice ia 0 ic) rfl
  have k4 := HCE.out w2 _ HW2.out 4 (.int .i64 0) rfl
  have k5 := HCE.out w2 _ HW2.out 5 (.int .i64 0) rfl
  have k6 := HCE.out w2 _ HW2.out 6 (.int .i64 0) rfl
  have k7 := HCE.out w2 _ HW2.out 7 (.slice ra 0 rc) rfl
  have k8 := HCE.out w2 _ HW2.out 8 (.slice da 0 dc) rfl
  go_wp2_with fail
  refine (HPA.out.signed x m _ w2 hm1 hm2 HX.out (by rw [List.length_append, low_length]; omega) HW2.out).mono ?_
  rintro e w3 ⟨rfl, hw3⟩
  have HW3 := Lib.hid (HPA.out.back _ _ hw3)
  clear hw3 k0 k1 k2 k3 k4 k5 k6 k7 k8
  go_wp2
  go_ret
  exact ⟨rfl, HW3.out⟩


set_option maxHeartbeats 3200000 in
theorem cPut_raw (b : Nat) (v : Value) (l0 : List Bool) (zs : List Nat) (data : List Int) (ia ra da : Option Addr) (ic rc dc : Nat) (k m : Nat) (w : World) (_hk1 : 1 ≤ k) (_hk : k ≤ 1024) (hm1 : 8 ≤ m) (hm2 : m ≤ 26) (hl0 : l0.length ≤ 17000) (hw : WrIs w b v l0 zs) (hI : BlkIn w ⟨3, 0, 0, [], 0, 0, 0, [], data⟩ ia ra da ic rc dc) (hc : codeB ⟨3, 0, 0, [], 0, 0, 0, [], data⟩ k m = 0) (hdl : data.length ≤ 1024) (hx0 : data.all (hasP (halfOf (m : Int))) = true) (hod : ∀ h off, 0 < data.length → da = some ⟨h, off, none⟩ → Off b v h) :
    Calls Tryz.prog 8 #[.pointer (some ⟨b, 0, none⟩), blkV ⟨3, 0, 0, [], 0, 0, 0, [], data⟩ ia ra da ic rc dc, .int .i64 k, .int .i64 m] w (Puts w b v true (l0 ++ bitsB ⟨3, 0, 0, [], 0, 0, 0, [], data⟩ m)) := by
  have HR : Hid (∀ W, Below w.heap.size w W → Calls Tryz.prog 31 #[blkV ⟨3, 0, 0, [], 0, 0, 0, [], data⟩ ia ra da ic rc dc, .int .i64 k, .int .i64 m] W fun e w' => e = .returned (.bool true) ∧ Below W.heap.size W w') := fun W hW => by
    have h := cIsRight ⟨3, 0, 0, [], 0, 0, 0, [], data⟩ ia ra da ic rc dc k m W (hI.below hW) { v := in64_zero, s := in64_zero, l := in64_zero, g := in64_zero, p := in64_zero }
    rw [decide_eq_true hc] at h
    exact h
  have HE : Hid (l0 ++ bitsB ⟨3, 0, 0, [], 0, 0, 0, [], data⟩ m = (l0 ++ low 3 2) ++ data.flatMap (sg m)) := by
    show _ = _
    unfold bitsB
    rw [if_neg (by simp), if_pos rfl, List.append_assoc]
    rfl
  rw [HE.out]
  have hin : ∀ x ∈ data, -(2 ^ (m - 1)) ≤ x ∧ x < 2 ^ (m - 1) := fun x hx => by
    have hb := of_decide_eq_true (List.all_eq_true.1 hx0 x hx)
    rw [hp_nat (by omega)] at hb
    exact hb
  have hdk : data.length * m ≤ 26624 := by
    have := Nat.mul_le_mul hdl hm2
    omega
  have HPE : Hid (∀ (W0 : World), WrIs W0 b v l0 zs → IntsAt W0 da data → ∀ (l1 : List Bool) (W : World), l1.length ≤ 20000 → Wrote W0 b v l1 W → Calls Tryz.prog 35 #[.pointer (some ⟨b, 0, none⟩), .slice da data.length dc, .int .i64 m] W fun e W' => e = .returned (.tuple #[]) ∧ Wrote W0 b v (l1 ++ data.flatMap (sg m)) W') := fun W0 hw0 hi0 l1 W h3 hwr => by
    obtain ⟨v1, zs1, hw1, hof, hnx⟩ := hwr.off
    refine (cPutEach b v1 l1 zs1 da dc data m W (by omega) hm2 hin (by omega) (by omega) hw1 (hwr.ints hi0 hod) (fun h off h0 e => hof h (ints_lt hi0 h0 e) (hod h off h0 e))).mono ?_
    rintro e W' ⟨h4, h5⟩
    exact ⟨h4, hnx _ _ h5⟩
  have HWI : Hid (∀ W0, Below w.heap.size w W0 → WrIs W0 b v l0 zs) := fun W0 h => hw.keeps (keeps_of_below h []) (by simp) (by simp)
  have HDI : Hid (∀ W0, Below w.heap.size w W0 → IntsAt W0 da data) := fun W0 h => hI.d.below h
  unfold blkV at *
  dsimp only [List.length_nil] at *
  clear hin hdk hx0 hod hdl
  generalize data.flatMap (sg m) = FB at *
  generalize data.length = dl at *
  obtain ⟨W0, hW0⟩ : ∃ W0, W0 = w.alloc (.cells #[.int .i64 3, .int .i64 0, .int .i64 0, .slice ia 0 ic, .int .i64 0, .int .i64 0, .int .i64 0, .slice ra 0 rc, .slice da dl dc] 24) := ⟨_, rfl⟩
  have hPA := putAt_new #[.int .i64 3, .int .i64 0, .int .i64 0, .slice ia 0 ic, .int .i64 0, .int .i64 0, .int .i64 0, .slice ra 0 rc, .slice da dl dc] hw
  rw [← hW0] at hPA
  have HPA := Lib.hid hPA
  have HW0 := Lib.hid hW0
  have HCE := Lib.hid hPA.cell
  have HL0 : Hid (l0.length ≤ 100000) := by show _ ≤ _; omega
  clear hPA hW0 hw hI hc
  go_enter Tryz.func8, Tryz.ntmps8
  go_wp2_with fail
  rw [← HW0.out]
  refine (HR.out _ HPA.out.below).mono ?_
  rintro e w1 ⟨rfl, hb⟩
  have HW1 := Lib.hid (HPA.out.start.still hb)
  have k0 := HCE.out w1 _ HW1.out 0 (.int .i64 3) rfl
  have k1 := HCE.out w1 _ HW1.out 1 (.int .i64 0) rfl
  have k2 := HCE.out w1 _ HW1.out 2 (.int .i64 0) rfl
  have k3 := HCE.out w1 _ HW1.out 3 (.slice ia 0 ic) rfl
  have k4 := HCE.out w1 _ HW1.out 4 (.int .i64 0) rfl
  have k5 := HCE.out w1 _ HW1.out 5 (.int .i64 0) rfl
  have k6 := HCE.out w1 _ HW1.out 6 (.int .i64 0) rfl
  have k7 := HCE.out w1 _ HW1.out 7 (.slice ra 0 rc) rfl
  have k8 := HCE.out w1 _ HW1.out 8 (.slice da dl dc) rfl
  clear hb
  go_wp2_with fail
  refine (HPA.out.put 3 2 _ w1 (by omega) (by decide) HL0.out HW1.out).mono ?_
  rintro e w2 ⟨rfl, hw2⟩
  have HW2 := Lib.hid hw2
  clear hw2 k0 k1 k2 k3 k4 k5 k6 k7 k8
  have k0 := HCE.out w2 _ HW2.out 0 (.int .i64 3) rfl
  have k1 := HCE.out w2 _ HW2.out 1 (.int .i64 0) rfl
  have k2 := HCE.out w2 _ HW2.out 2 (.int .i64 0) rfl
  have k3 := HCE.out w2 _ HW2.out 3 (.slice ia 0 ic) rfl
  have k4 := HCE.out w2 _ HW2.out 4 (.int .i64 0) rfl
  have k5 := HCE.out w2 _ HW2.out 5 (.int .i64 0) rfl
  have k6 := HCE.out w2 _ HW2.out 6 (.int .i64 0) rfl
  have k7 := HCE.out w2 _ HW2.out 7 (.slice ra 0 rc) rfl
  have k8 := HCE.out w2 _ HW2.out 8 (.slice da dl dc) rfl
  go_wp2_with fail
  refine (HPE.out W0 (HWI.out W0 HPA.out.below) (HDI.out W0 HPA.out.below) _ w2 (by rw [List.length_append, low_length]; omega) HW2.out).mono ?_
  rintro e w3 ⟨rfl, hw3⟩
  have HW3 := Lib.hid (HPA.out.back _ _ hw3)
  clear hw3 k0 k1 k2 k3 k4 k5 k6 k7 k8
  go_wp2
  go_ret
  exact ⟨rfl, HW3.out⟩


set_option maxHeartbeats 3200000 in
theorem cPut_normal (b : Nat) (v : Value) (l0 : List Bool) (zs : List Nat) (s a g : Nat) (part : Int) (index rice data : List Int) (ia ra da : Option Addr) (ic rc dc : Nat) (k m : Nat) (w : World) (_hk1 : 1 ≤ k) (_hk : k ≤ 1024) (_hm1 : 8 ≤ m) (_hm2 : m ≤ 26) (hl0 : l0.length ≤ 17000) (hw : WrIs w b v l0 zs) (hI : BlkIn w ⟨2, 0, s, index, a, g, part, rice, data⟩ ia ra da ic rc dc) (hc : codeB ⟨2, 0, s, index, a, g, part, rice, data⟩ k m = 0) (hs : s ≤ 25) (ha : a ≤ 255) (hg : g ≤ 15) (hz : a = 0 → g = 0) (hgl : goodL index = true) (hp : slideOk data part rice = true) (hpr : In64 part) (hoi : ∀ h off, 0 < index.length → ia = some ⟨h, off, none⟩ → Off b v h) (hor : ∀ h off, 0 < rice.length → ra = some ⟨h, off, none⟩ → Off b v h) (hod : ∀ h off, 0 < data.length → da = some ⟨h, off, none⟩ → Off b v h) :
    Calls Tryz.prog 8 #[.pointer (some ⟨b, 0, none⟩), blkV ⟨2, 0, s, index, a, g, part, rice, data⟩ ia ra da ic rc dc, .int .i64 k, .int .i64 m] w (Puts w b v true (l0 ++ bitsB ⟨2, 0, s, index, a, g, part, rice, data⟩ m)) := by
  have HR : Hid (∀ W, Below w.heap.size w W → Calls Tryz.prog 31 #[blkV ⟨2, 0, s, index, a, g, part, rice, data⟩ ia ra da ic rc dc, .int .i64 k, .int .i64 m] W fun e w' => e = .returned (.bool true) ∧ Below W.heap.size W w') := fun W hW => by
    have h := cIsRight ⟨2, 0, s, index, a, g, part, rice, data⟩ ia ra da ic rc dc k m W (hI.below hW) { v := in64_zero, s := (by unfold In64; dsimp only; omega), l := (by unfold In64; dsimp only; omega), g := (by unfold In64; dsimp only; omega), p := hpr }
    rw [decide_eq_true hc] at h
    exact h
  have HE : Hid (l0 ++ bitsB ⟨2, 0, s, index, a, g, part, rice, data⟩ m = (l0 ++ low 2 2) ++ normalBits s a g part index rice data) := by
    show _ = _
    unfold bitsB normalBits termBits
    rw [if_neg (by simp), if_neg (by simp), if_pos rfl]
    by_cases h : a = 0
    · subst h; simp
    · rw [if_neg (show ¬ ((a : Int) = 0) by omega), if_neg h]; simp
  rw [HE.out]
  have HPN : Hid (∀ (W0 : World), WrIs W0 b v l0 zs → Below w.heap.size w W0 → ∀ (l1 : List Bool) (W : World), l1.length ≤ 18000 → Wrote W0 b v l1 W → Calls Tryz.prog 34 #[.pointer (some ⟨b, 0, none⟩), blkV ⟨2, 0, s, index, a, g, part, rice, data⟩ ia ra da ic rc dc] W fun e W' => e = .returned (.tuple #[]) ∧ Wrote W0 b v (l1 ++ normalBits s a g part index rice data) W') := fun W0 hw0 hb0 l1 W h3 hwr => by
    obtain ⟨v1, zs1, hw1, hof, hnx⟩ := hwr.off
    have hI0 := hI.below hb0
    have hIW : BlkIn W ⟨2, 0, s, index, a, g, part, rice, data⟩ ia ra da ic rc dc := ⟨hwr.ints hI0.i hoi, hwr.ints hI0.r hor, hwr.ints hI0.d hod, hI.il, hI.rl, hI.dl, hI.ic, hI.rc, hI.dc⟩
    refine (cPutNormal b v1 l1 zs1 s a g part index rice data ia ra da ic rc dc W hs ha hg hz hgl hp h3 hw1 hIW (fun h off h0 e => hof h (ints_lt hI0.i h0 e) (hoi h off h0 e)) (fun h off h0 e => hof h (ints_lt hI0.r h0 e) (hor h off h0 e)) (fun h off h0 e => hof h (ints_lt hI0.d h0 e) (hod h off h0 e))).mono ?_
    rintro e W' ⟨h4, h5⟩
    exact ⟨h4, hnx _ _ h5⟩
  have HWI : Hid (∀ W0, Below w.heap.size w W0 → WrIs W0 b v l0 zs) := fun W0 h => hw.keeps (keeps_of_below h []) (by simp) (by simp)
  unfold blkV at *
  dsimp only [List.length_nil] at *
  have hsu : IntKind.u64.wrap (s : Int) = (s : Int) := by rw [IntKind.wrap_u64]; omega
  clear hz hgl hp hpr hoi hor hod
  generalize normalBits s a g part index rice data = NB at *
  generalize index.length = il at *
  generalize rice.length = rl at *
  generalize data.length = dl at *
  obtain ⟨W0, hW0⟩ : ∃ W0, W0 = w.alloc (.cells #[.int .i64 2, .int .i64 0, .int .i64 s, .slice ia il ic, .int .i64 a, .int .i64 g, .int .i64 part, .slice ra rl rc, .slice da dl dc] 24) := ⟨_, rfl⟩
  have hPA := putAt_new #[.int .i64 2, .int .i64 0, .int .i64 s, .slice ia il ic, .int .i64 a, .int .i64 g, .int .i64 part, .slice ra rl rc, .slice da dl dc] hw
  rw [← hW0] at hPA
  have HPA := Lib.hid hPA
  have HW0 := Lib.hid hW0
  have HCE := Lib.hid hPA.cell
  have HL0 : Hid (l0.length ≤ 100000) := by show _ ≤ _; omega
  clear hPA hW0 hw hI hc
  go_enter Tryz.func8, Tryz.ntmps8
  go_wp2_with fail
  rw [← HW0.out]
  refine (HR.out _ HPA.out.below).mono ?_
  rintro e w1 ⟨rfl, hb⟩
  have HW1 := Lib.hid (HPA.out.start.still hb)
  have k0 := HCE.out w1 _ HW1.out 0 (.int .i64 2) rfl
  have k1 := HCE.out w1 _ HW1.out 1 (.int .i64 0) rfl
  have k2 := HCE.out w1 _ HW1.out 2 (.int .i64 s) rfl
  have k3 := HCE.out w1 _ HW1.out 3 (.slice ia il ic) rfl
  have k4 := HCE.out w1 _ HW1.out 4 (.int .i64 a) rfl
  have k5 := HCE.out w1 _ HW1.out 5 (.int .i64 g) rfl
  have k6 := HCE.out w1 _ HW1.out 6 (.int .i64 part) rfl
  have k7 := HCE.out w1 _ HW1.out 7 (.slice ra rl rc) rfl
  have k8 := HCE.out w1 _ HW1.out 8 (.slice da dl dc) rfl
  clear hb
  go_wp2_with fail
  refine (HPA.out.put 2 2 _ w1 (by omega) (by decide) HL0.out HW1.out).mono ?_
  rintro e w2 ⟨rfl, hw2⟩
  have HW2 := Lib.hid hw2
  clear hw2 k0 k1 k2 k3 k4 k5 k6 k7 k8
  have k0 := HCE.out w2 _ HW2.out 0 (.int .i64 2) rfl
  have k1 := HCE.out w2 _ HW2.out 1 (.int .i64 0) rfl
  have k2 := HCE.out w2 _ HW2.out 2 (.int .i64 s) rfl
  have k3 := HCE.out w2 _ HW2.out 3 (.slice ia il ic) rfl
  have k4 := HCE.out w2 _ HW2.out 4 (.int .i64 a) rfl
  have k5 := HCE.out w2 _ HW2.out 5 (.int .i64 g) rfl
  have k6 := HCE.out w2 _ HW2.out 6 (.int .i64 part) rfl
  have k7 := HCE.out w2 _ HW2.out 7 (.slice ra rl rc) rfl
  have k8 := HCE.out w2 _ HW2.out 8 (.slice da dl dc) rfl
  go_wp2_with fail
  refine (HPN.out W0 (HWI.out W0 HPA.out.below) HPA.out.below _ w2 (by rw [List.length_append, low_length]; omega) HW2.out).mono ?_
  rintro e w3 ⟨rfl, hw3⟩
  have HW3 := Lib.hid (HPA.out.back _ _ hw3)
  clear hw3 k0 k1 k2 k3 k4 k5 k6 k7 k8
  go_wp2
  go_ret
  exact ⟨rfl, HW3.out⟩


/-- **A right block is put.** -/
theorem cPut10 (b : Nat) (v : Value) (l0 : List Bool) (zs : List Nat) (bd : Blk) (ia ra da : Option Addr) (ic rc dc : Nat) (n : Int) (m : Nat) (w : World) (hc : codeB bd n m = 0) (hl0 : l0.length ≤ 17000) (hwf : Wf9 bd) (hw : WrIs w b v l0 zs) (hI : BlkIn w bd ia ra da ic rc dc)
    (hoi : ∀ h off, 0 < bd.index.length → ia = some ⟨h, off, none⟩ → Off b v h) (hor : ∀ h off, 0 < bd.rice.length → ra = some ⟨h, off, none⟩ → Off b v h) (hod : ∀ h off, 0 < bd.data.length → da = some ⟨h, off, none⟩ → Off b v h) :
    Calls Tryz.prog 8 #[.pointer (some ⟨b, 0, none⟩), blkV bd ia ra da ic rc dc, .int .i64 n, .int .i64 m] w (Puts w b v true (l0 ++ bitsB bd m)) := by
  obtain ⟨k, m', rfl, hm, hk1, hk, hm1, hm2, hf, _, hall⟩ := right_of hc
  obtain rfl : m = m' := by omega
  cases shape_of hf with
  | zero => exact cPut_zero b v l0 zs ia ra da ic rc dc k m w hk1 hk hm1 hm2 hl0 hw hI hc
  | const x =>
    have hx : hasP (halfOf (m : Int)) x = true := List.all_eq_true.1 hall x (by unfold outB; rw [if_neg (by show ¬ (1 : Int) = 2; decide), if_neg (by show ¬ (1 : Int) = 3; decide)]; exact List.mem_replicate.2 ⟨by omega, rfl⟩)
    exact cPut_const b v l0 zs x ia ra da ic rc dc k m w hk1 hk hm1 hm2 hl0 hw hI hc hx
  | raw data h =>
    have hx : data.all (hasP (halfOf (m : Int))) = true := by
      unfold outB at hall
      rw [if_neg (by show ¬ (3 : Int) = 2; decide), if_pos rfl] at hall
      exact hall
    exact cPut_raw b v l0 zs data ia ra da ic rc dc k m w hk1 hk hm1 hm2 hl0 hw hI hc (by omega) hx hod
  | normal s a g part index rice data h hs ha hg hz hi ht hp => exact cPut_normal b v l0 zs s a g part index rice data ia ra da ic rc dc k m w hk1 hk hm1 hm2 hl0 hw hI hc (by omega) ha hg hz hi hp hwf.p hoi hor hod
end Go.Proofs.YtefbakhhlonafaaGreat
