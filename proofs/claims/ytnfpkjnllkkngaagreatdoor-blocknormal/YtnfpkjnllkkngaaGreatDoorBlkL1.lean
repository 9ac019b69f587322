import Derived.Test.YtnfpkjnllkkngaaGreatDoorBlkF6
import Derived.Test.YtnfpkjnllkkngaaGreatDoorRef3g
import Derived.Test.YtnfpkjnllkkngaaGreatDoorRef3b
import Derived.Test.YtnfpkjnllkkngaaGreatDoorBlkC9

section
namespace Go.Proofs.YtnfpkjnllkkngaaGreatDoor
open Go.RowKit Go.Proofs Go.Proofs.PipeM Go.Proofs.PipeA Go.Proofs.BlkM
open Go.Proofs.LatM (goodL)
open Go.Proofs.LagM (goodT)
set_option maxRecDepth 100000

end Go.Proofs.YtnfpkjnllkkngaaGreatDoor
end

section
namespace Go.Proofs.YtnfpkjnllkkngaaGreatDoor
open Go.RowKit Go.Proofs Go.Proofs.PipeM Go.Proofs.PipeA

/-- Could an act be? -/
def actOk (k v n : Int) : Bool :=
  if k = 1 then decide (0 ≤ n ∧ n ≤ 48 ∧ 0 ≤ v ∧ v < 2 ^ n.toNat)
  else if k = 2 then decide (1 ≤ n ∧ n ≤ 48 ∧ -(2 ^ (n.toNat - 1)) ≤ v ∧ v < 2 ^ (n.toNat - 1))
  else if k = 3 then decide (0 ≤ n ∧ n ≤ 1000)
  else true

/-- The bits behind an act. -/
def actBits (l : List Bool) (k v n : Int) : List Bool :=
  if actOk k v n = false then l
  else if k = 1 then l ++ low v.toNat n.toNat
  else if k = 2 then l ++ low (v % 2 ^ n.toNat).toNat n.toNat
  else if k = 3 then l ++ (List.replicate n.toNat false ++ [true])
  else if k = 4 then pad l
  else l

end Go.Proofs.YtnfpkjnllkkngaaGreatDoor
end

section
namespace Go.Proofs.YtnfpkjnllkkngaaGreatDoor
open Go.RowKit Go.Proofs Go.Proofs.PipeM Go.Proofs.PipeA

/-- What the document's act answers. -/
def PutOf (l : List Bool) (k x n : Int) (w : World) (e : Ending) (w' : World) : Prop :=
  e = .returned (.tuple #[.string (str (actBits l k x n)), .bool (actOk k x n)]) ∧ Below w.heap.size w w'

theorem PutOf.no {l : List Bool} {k x n : Int} {w w' : World} (h : actOk k x n = false) (hb : Below w.heap.size w w') : PutOf l k x n w (.returned (.tuple #[.string (str l), .bool false])) w' := by
  have : actBits l k x n = l := by unfold actBits; rw [h]; simp
  exact ⟨by rw [this, h], hb⟩

end Go.Proofs.YtnfpkjnllkkngaaGreatDoor
end

section
namespace Go.Proofs.YtnfpkjnllkkngaaGreatDoor
open Go.RowKit Go.Proofs Go.Proofs.PipeM Go.Proofs.PipeA Go.Proofs.BlkM
open Go.Proofs.LatM (goodL)
open Go.Proofs.LagM (goodT)
set_option maxRecDepth 100000

end Go.Proofs.YtnfpkjnllkkngaaGreatDoor
end

section
namespace Go.Proofs.YtnfpkjnllkkngaaGreatDoor
open Go.RowKit Go.Proofs Go.Proofs.PipeM Go.Proofs.PipeA Go.Proofs.BlkM Go.Proofs.BlkB
open Go.Proofs.LatM (goodL)
open Go.Proofs.LagM (goodT)
set_option maxRecDepth 100000

/-- What was written stays written, whatever memory is made. -/
theorem Wrote.still {w W W1 : World} {b : Nat} {v : Value} {l : List Bool} (h : Wrote w b v l W) (hb : Below W.heap.size W W1) : Wrote w b v l W1 := by
  obtain ⟨v1, zs1, h1, hk, ho⟩ := h
  exact ⟨v1, zs1, h1.keeps (keeps_of_below hb []) (by simp) (by simp), hk.trans (keeps_of_below hb _), ho⟩
theorem Wrote.cell {w W : World} {b : Nat} {v : Value} {l : List Bool} (h : Wrote w b v l W) {g off : Nat} (hg : g < w.heap.size) (ho : Off b v g) : W.cell? ⟨g, off, none⟩ = w.cell? ⟨g, off, none⟩ := by
  obtain ⟨v1, zs1, h1, hk, _⟩ := h
  exact hk.cell (p := ⟨g, off, none⟩) hg ho
theorem Wrote.ints {w W : World} {b : Nat} {v : Value} {l : List Bool} (h : Wrote w b v l W) {ao : Option Addr} {m : List Int} (hi : IntsAt w ao m) (ho : ∀ g off, 0 < m.length → ao = some ⟨g, off, none⟩ → Off b v g) : IntsAt W ao m := by
  obtain ⟨v1, zs1, h1, hk, _⟩ := h
  intro j hj
  exact hi.keeps hk (fun g off e => ho g off (by omega) e) j hj
theorem Wrote.off {w W : World} {b : Nat} {v : Value} {l : List Bool} (h : Wrote w b v l W) : ∃ v1 zs1, WrIs W b v1 l zs1 ∧ (∀ g, g < w.heap.size → Off b v g → Off b v1 g) ∧ (∀ (l2 : List Bool) W2, Wrote W b v1 l2 W2 → Wrote w b v l2 W2) := by
  obtain ⟨v1, zs1, h1, hk, ho⟩ := h
  exact ⟨v1, zs1, h1, fun g hg hoff => hoff.next hg ho, fun l2 W2 h2 => Wrote.next hk ho h2⟩

end Go.Proofs.YtnfpkjnllkkngaaGreatDoor
end

section
namespace Go.Proofs.YtnfpkjnllkkngaaGreatDoor
open Go.RowKit Go.Proofs Go.Proofs.PipeM Go.Proofs.PipeA Go.Proofs.BlkM
open Go.Proofs.LatM (goodL)
set_option maxRecDepth 100000

end Go.Proofs.YtnfpkjnllkkngaaGreatDoor
end

section
namespace Go.Proofs.YtnfpkjnllkkngaaGreatDoor
open Go.RowKit Go.Proofs Go.Proofs.PipeM Go.Proofs.PipeA Go.Proofs.BlkM Go.Proofs.BlkB
open Go.Proofs.LatM (goodL)
open Go.Proofs.LagM (goodT)
set_option maxRecDepth 100000

end Go.Proofs.YtnfpkjnllkkngaaGreatDoor
end

section
namespace Go.Proofs.YtnfpkjnllkkngaaGreatDoor
open Go.RowKit Go.Proofs Go.Proofs.PipeM Go.Proofs.PipeA Go.Proofs.BlkM
set_option maxRecDepth 100000

end Go.Proofs.YtnfpkjnllkkngaaGreatDoor
end

section
namespace Go.Proofs.YtnfpkjnllkkngaaGreatDoor
open Go.RowKit Go.Proofs Go.Proofs.PipeM Go.Proofs.PipeA Go.Proofs.BlkM Go.Proofs.BlkB
open Go.Proofs.LatM (goodL)
open Go.Proofs.LagM (goodT)
set_option maxRecDepth 100000

/-- What stands ahead of a write, and what it leaves. -/
structure PutAt (w W0 : World) (b : Nat) (v : Value) (l0 : List Bool) (cs : Array Value) : Prop where
  start : Wrote W0 b v l0 W0
  below : Below w.heap.size w W0
  cell : ∀ (W : World) l1, Wrote W0 b v l1 W → ∀ j val, cs[j]? = some val → W.cell? ⟨w.heap.size, j, none⟩ = some val
  back : ∀ l1 W, Wrote W0 b v l1 W → Wrote w b v l1 W
theorem putAt_new {w : World} {b : Nat} {v : Value} {l0 : List Bool} {zs : List Nat} (cs : Array Value) (hw : WrIs w b v l0 zs) : PutAt w (w.alloc (.cells cs 27)) b v l0 cs := by
  have hb0 := box_below w (.cells cs 27)
  have hn0 := World.alloc_heap_new w (.cells cs 27)
  have hlt0 := (Array.getElem?_eq_some_iff.1 hn0).1
  exact ⟨Wrote.refl (hw.keeps (keeps_of_below hb0 []) (by simp) (by simp)), hb0, fun W l1 hwr j val h => by
    rw [hwr.cell (g := w.heap.size) (off := j) hlt0 (Off.new hw (Nat.le_refl _)), cell_of_heap hn0]
    exact h, fun l1 W h => Wrote.later (keeps_of_below hb0 []) h⟩
theorem PutAt.put {w W0 : World} {b : Nat} {v : Value} {l0 : List Bool} {cs : Array Value} (_ : PutAt w W0 b v l0 cs) (x n : Nat) (l1 : List Bool) (W : World) (h1 : n ≤ 48) (h2 : x < 2 ^ n) (h3 : l1.length ≤ 100000) (hwr : Wrote W0 b v l1 W) :
    Calls Tryz.prog 35 #[.pointer (some ⟨b, 0, none⟩), .int .u64 x, .int .i64 n] W fun e W' => e = .returned (.bool true) ∧ Wrote W0 b v (l1 ++ low x n) W' := by
  obtain ⟨v1, zs1, hw1, _, hnx⟩ := hwr.off
  refine (wPut_yes b v1 l1 zs1 x n W h1 h2 h3 hw1).mono ?_
  rintro e W' ⟨h4, h5⟩
  exact ⟨h4, hnx _ _ h5⟩
theorem PutAt.signed {w W0 : World} {b : Nat} {v : Value} {l0 : List Bool} {cs : Array Value} (_ : PutAt w W0 b v l0 cs) (x : Int) (m : Nat) (l1 : List Bool) (W : World) (hm1 : 8 ≤ m) (hm2 : m ≤ 26) (h2 : hasP (halfOf (m : Int)) x = true) (h3 : l1.length ≤ 100000) (hwr : Wrote W0 b v l1 W) :
    Calls Tryz.prog 36 #[.pointer (some ⟨b, 0, none⟩), .int .i64 x, .int .i64 m] W fun e W' => e = .returned (.bool true) ∧ Wrote W0 b v (l1 ++ sg m x) W' := by
  obtain ⟨v1, zs1, hw1, _, hnx⟩ := hwr.off
  have hb := of_decide_eq_true h2
  rw [hp_nat (by omega)] at hb
  refine (wSigned_yes b v1 l1 zs1 x m W (by omega) (by omega) hb.1 hb.2 h3 hw1).mono ?_
  rintro e W' ⟨h4, h5⟩
  exact ⟨h4, hnx _ _ h5⟩

theorem x64 {m : Nat} {x : Int} (h1 : 8 ≤ m) (h2 : m ≤ 26) (h : hasP (halfOf (m : Int)) x = true) : In64 x := by
  have := of_decide_eq_true h
  have := hp_bound h1 h2
  unfold In64
  omega
set_option maxHeartbeats 3200000 in
theorem cPut_const (b : Nat) (v : Value) (l0 : List Bool) (zs : List Nat) (x : Int) (ia ra da : Option Addr) (ic rc dc : Nat) (k m : Nat) (w : World) (_hk1 : 1 ≤ k) (_hk : k ≤ 1024) (hm1 : 8 ≤ m) (hm2 : m ≤ 26) (hl0 : l0.length ≤ 17000) (hw : WrIs w b v l0 zs) (hI : BlkIn w ⟨1, x, 0, [], 0, 0, 0, [], []⟩ ia ra da ic rc dc) (hc : codeB ⟨1, x, 0, [], 0, 0, 0, [], []⟩ k m = 0) (hx : hasP (halfOf (m : Int)) x = true) :
    Calls Tryz.prog 10 #[.pointer (some ⟨b, 0, none⟩), blkV ⟨1, x, 0, [], 0, 0, 0, [], []⟩ ia ra da ic rc dc, .int .i64 k, .int .i64 m] w (Puts w b v true (l0 ++ bitsB ⟨1, x, 0, [], 0, 0, 0, [], []⟩ m)) := by
  have HR : Hid (∀ W, Below w.heap.size w W → Calls Tryz.prog 34 #[blkV ⟨1, x, 0, [], 0, 0, 0, [], []⟩ ia ra da ic rc dc, .int .i64 k, .int .i64 m] W fun e w' => e = .returned (.bool true) ∧ Below W.heap.size W w') := fun W hW => by
    have h := cIsRight ⟨1, x, 0, [], 0, 0, 0, [], []⟩ ia ra da ic rc dc k m W (hI.below hW) { v := (x64 hm1 hm2 hx), s := in64_zero, l := in64_zero, g := in64_zero, p := in64_zero }
    rw [decide_eq_true hc] at h
    exact h
  have HE : Hid (l0 ++ bitsB ⟨1, x, 0, [], 0, 0, 0, [], []⟩ m = (l0 ++ low 1 2) ++ sg m x) := by show _ = _; simp [bitsB]
  rw [HE.out]
  have HX := Lib.hid hx
  unfold blkV at *
  dsimp only [List.length_nil] at *
  obtain ⟨W0, hW0⟩ : ∃ W0, W0 = w.alloc (.cells #[.int .i64 1, .int .i64 x, .int .i64 0, .slice ia 0 ic, .int .i64 0, .int .i64 0, .int .i64 0, .slice ra 0 rc, .slice da 0 dc] 27) := ⟨_, rfl⟩
  have hPA := putAt_new #[.int .i64 1, .int .i64 x, .int .i64 0, .slice ia 0 ic, .int .i64 0, .int .i64 0, .int .i64 0, .slice ra 0 rc, .slice da 0 dc] hw
  rw [← hW0] at hPA
  have HPA := Lib.hid hPA
  have HW0 := Lib.hid hW0
  have HCE := Lib.hid hPA.cell
  have HL0 : Hid (l0.length ≤ 100000) := by show _ ≤ _; omega
  clear hPA hW0 hw hI hc hx
  go_enter Tryz.func10, Tryz.ntmps10
  go_wp2_with fail
  rw [← HW0.out]
  refine (HR.out _ HPA.out.below).mono ?_
  rintro e w1 ⟨rfl, hb⟩
  have HW1 := Lib.hid (HPA.out.start.still hb)
  have k0 := HCE.out w1 _ HW1.out 0 (.int .i64 1) rfl
  have k1 := HCE.out w1 _ HW1.out 1 (.int .i64 x) rfl
  have k2 := HCE.out w1 _ HW1.out 2 (.int .i64 0) rfl
  have k3 := HCE.out w1 _ HW1.out 3 (.slice ia 0 ic) rfl
  have k4 := HCE.out w1 _ HW1.out 4 (.int .i64 0) rfl
  have k5 := HCE.out w1 _ HW1.out 5 (.int .i64 0) rfl
  have k6 := HCE.out w1 _ HW1.out 6 (.int .i64 0) rfl
  have k7 := HCE.out w1 _ HW1.out 7 (.slice ra 0 rc) rfl
  have k8 := HCE.out w1 _ HW1.out 8 (.slice da 0 dc) rfl
  clear hb
  go_wp2_with fail
  refine (HPA.out.put 1 2 _ w1 (by omega) (by decide) HL0.out HW1.out).mono ?_
  rintro e w2 ⟨rfl, hw2⟩
  have HW2 := Lib.hid hw2
  clear hw2 k0 k1 k2 k3 k4 k5 k6 k7 k8
  have k0 := HCE.out w2 _ HW2.out 0 (.int .i64 1) rfl
  have k1 := HCE.out w2 _ HW2.out 1 (.int .i64 x) rfl
  have k2 := HCE.out w2 _ HW2.out 2 (.int .i64 0) rfl
  have k3 := HCE.out w2 _ HW2.out 3 (.slice ia 0 ic) rfl
  have k4 := HCE.out w2 _ HW2.out 4 (.int .i64 0) rfl
  have k5 := HCE.out w2 _ HW2.out 5 (.int .i64 0) rfl
  have k6 := HCE.out w2 _ HW2.out 6 (.int .i64 0) rfl
  have k7 := HCE.out w2 _ HW2.out 7 (.slice ra 0 rc) rfl
  have k8 := HCE.out w2 _ HW2.out 8 (.slice da 0 dc) rfl
  go_wp2_with fail
  refine (HPA.out.signed x m _ w2 hm1 hm2 HX.out (by rw [List.length_append, low_length]; omega) HW2.out).mono ?_
  rintro e w3 ⟨rfl, hw3⟩
  have HW3 := Lib.hid (HPA.out.back _ _ hw3)
  clear hw3 k0 k1 k2 k3 k4 k5 k6 k7 k8
  go_wp2
  go_ret
  exact ⟨rfl, HW3.out⟩


end Go.Proofs.YtnfpkjnllkkngaaGreatDoor
end

section
namespace Go.Proofs.YtnfpkjnllkkngaaGreatDoor
open Go.RowKit Go.Proofs Go.Proofs.PipeM Go.Proofs.PipeA Go.Proofs.BlkM Go.Proofs.BlkB
set_option maxRecDepth 100000

theorem five_right : codeB ⟨1, 5, 0, [], 0, 0, 0, [], []⟩ (3 : Nat) (8 : Nat) = 0 := by decide
set_option maxHeartbeats 1600000 in
theorem awake10 (w : World) : Calls Tryz.prog 4 #[] w fun e w' => e = .returned (.bool true) ∧ Below w.heap.size w w' := by
  have HI : ∀ W, BlkIn W ⟨1, 5, 0, [], 0, 0, 0, [], []⟩ none none none 0 0 0 := fun W => ⟨fun j hj => by simp at hj, fun j hj => by simp at hj, fun j hj => by simp at hj, Nat.zero_le _, Nat.zero_le _, Nat.zero_le _, Nat.le_refl _, Nat.le_refl _, Nat.le_refl _⟩
  have HP := Lib.hid (cPut_const w.heap.size (.slice none 0 0) [] [] 5 none none none 0 0 0 3 8 _ (by omega) (by omega) (by omega) (by omega) (by simp) (wr_fresh w) (HI _) five_right (by decide))
  have HB : Hid (bitsB ⟨1, 5, 0, [], 0, 0, 0, [], []⟩ 8 = [false, true, false, false, false, false, false, true, false, true]) := by show _ = _; decide
  rw [HB.out] at HP
  unfold blkV at HP
  dsimp only [List.length_nil] at HP
  clear HI HB
  go_enter Tryz.func4, Tryz.ntmps4
  go_wp2_with fail
  refine HP.out.mono ?_
  rintro e w1 ⟨rfl, hw1⟩
  have HB := Lib.hid (wrote_below hw1)
  obtain ⟨v1, zs1, hi1, hk1, ho1⟩ := hw1
  have H1 := Lib.hid hi1
  have c1 : w1.cell? ⟨w.heap.size, 1, none⟩ = some (.int .i64 10) := hi1.c1
  clear hi1 hk1 ho1 HP
  go_wp2_with fail
  refine (wLen _ _ _ c1).mono ?_
  rintro e w2 ⟨rfl, rfl⟩
  go_wp2_with fail
  refine (wBytes w.heap.size v1 _ zs1 _ (by decide) H1.out).mono ?_
  rintro e w4 ⟨g, rfl, hown4, hb4⟩
  have hcv := conv_row hown4
  have hzs : zs1 = [65, 64] := H1.out.packs.unique ⟨by simp, by decide⟩
  have hstr : bstr zs1 = ⟨#[65, 64]⟩ := by rw [hzs]; rfl
  rw [hstr] at hcv
  have HB4 := Lib.hid hb4
  clear hown4 hb4 hzs hstr
  go_wp2
  go_ret
  exact ⟨rfl, HB.out.trans (HB4.out.mono HB.out.size)⟩

end Go.Proofs.YtnfpkjnllkkngaaGreatDoor
end
