import Derived.Test.YtefbakhhlonafaaGreatBlkG3
import Derived.Test.YtefbakhhlonafaaGreatRef3g
import Derived.Test.YtefbakhhlonafaaGreatRef3a
import Derived.Test.YtefbakhhlonafaaGreatRef2
import Derived.Lib.Hide
import Derived.Test.YtefbakhhlonafaaGreatRef3i
import Derived.Test.YtefbakhhlonafaaGreatBlkC2
import Derived.Test.YtefbakhhlonafaaGreatFxFilC6

section
namespace Go.Proofs.YtefbakhhlonafaaGreat
open Go.RowKit Go.Proofs Go.Proofs.PipeM Go.Proofs.PipeA Go.Proofs.BlkM Go.Proofs.BlkB
open Go.Proofs.LatM (goodL)
open Go.Proofs.LagM (goodT)
set_option maxRecDepth 100000

end Go.Proofs.YtefbakhhlonafaaGreat
end

section
namespace Go.Proofs.YtefbakhhlonafaaGreat
open Go.RowKit Go.Proofs Go.Proofs.PipeM Go.Proofs.PipeA Go.Proofs.BlkM
set_option maxRecDepth 100000

/-- The document's bits of a right block, their number, and whether two are the same. -/
theorem rPut10 (b : Blk) (ia ra da : Option Addr) (ic rc dc : Nat) (n : Int) (m : Nat) (w : World) (h : codeB b n m = 0) (hI : BlkIn w b ia ra da ic rc dc) :
    Calls Tryz.prog 11 #[blkV b ia ra da ic rc dc, .int .i64 m] w fun e w' => e = .returned (.string (str (bitsB b m))) ∧ Below w.heap.size w w' := by
  obtain ⟨k, m', rfl, hm, hk1, hk, hm1, hm2, hf, _, hall⟩ := right_of h
  obtain rfl : m = m' := by omega
  have hs := shape_of hf
  by_cases h2 : b.kind = 2
  · cases hs with
    | zero => exact absurd h2 (by decide)
    | const v => exact absurd h2 (by simp)
    | raw data h => exact absurd h2 (by simp)
    | normal s a g part index rice data h hs ha hg hz hi ht hp => exact rPut_normal s a g part index rice data ia ra da ic rc dc m w (by omega) ha hg hi hp hI
  · exact rPut_few b ia ra da ic rc dc k m w hm1 hm2 hk1 hk hs h2 hall hI
set_option maxHeartbeats 3200000 in
theorem rSame10 (b : Blk) (ia ra da ja sa ea : Option Addr) (ic rc dc jc sc ec : Nat) (w : World) (hI : BlkIn w b ia ra da ic rc dc) (hJ : BlkIn w b ja sa ea jc sc ec) :
    Calls Tryz.prog 18 #[blkV b ia ra da ic rc dc, blkV b ja sa ea jc sc ec] w fun e w' => e = .returned (.bool true) ∧ Below w.heap.size w w' := by
  have HB := fun o1 o2 => Lib.hid (below2 w o1 o2)
  obtain ⟨kind, value, shift, index, lag, gain, part, rice, data⟩ := b
  have HS1 : Hid (∀ W, Below w.heap.size w W → Calls Tryz.prog 19 #[.slice ia index.length ic, .slice ja index.length jc] W fun e w' => e = .returned (.bool true) ∧ ∃ k, w' = W.drewN k) := fun W hW => by
    have := refSame ia ja ic jc index index W (by have := hI.il; simp only at this; omega) (hI.i.below hW) (hJ.i.below hW)
    rwa [decide_eq_true rfl] at this
  have HS2 : Hid (∀ W, Below w.heap.size w W → Calls Tryz.prog 19 #[.slice ra rice.length rc, .slice sa rice.length sc] W fun e w' => e = .returned (.bool true) ∧ ∃ k, w' = W.drewN k) := fun W hW => by
    have := refSame ra sa rc sc rice rice W (by have := hI.rl; simp only at this; omega) (hI.r.below hW) (hJ.r.below hW)
    rwa [decide_eq_true rfl] at this
  have HS3 : Hid (∀ W, Below w.heap.size w W → Calls Tryz.prog 19 #[.slice da data.length dc, .slice ea data.length ec] W fun e w' => e = .returned (.bool true) ∧ ∃ k, w' = W.drewN k) := fun W hW => by
    have := refSame da ea dc ec data data W (by have := hI.dl; simp only at this; omega) (hI.d.below hW) (hJ.d.below hW)
    rwa [decide_eq_true rfl] at this
  clear hI hJ
  unfold blkV
  dsimp only
  generalize index.length = il at *
  generalize rice.length = rl at *
  generalize data.length = dl at *
  go_enter Tryz.func18, Tryz.ntmps18
  go_wp2_with fail
  refine (HS1.out _ (HB _ _).out).mono ?_
  rintro e w1 ⟨rfl, m1, rfl⟩
  go_wp2_with fail
  refine (HS2.out _ (below_drewN (HB _ _).out _)).mono ?_
  rintro e w2 ⟨rfl, m2, rfl⟩
  go_wp2_with fail
  refine (HS3.out _ (below_drewN (HB _ _).out _)).mono ?_
  rintro e w3 ⟨rfl, m3, rfl⟩
  go_wp2
  go_ret
  exact ⟨rfl, below_drewN (HB _ _).out _⟩
end Go.Proofs.YtefbakhhlonafaaGreat
end

section
namespace Go.Proofs.YtefbakhhlonafaaGreat
open Go.RowKit Go.Proofs Go.Proofs.PipeM Go.Proofs.PipeA Go.Proofs.BlkM Go.Proofs.BlkB
open Go.Proofs.LatM (goodL)
open Go.Proofs.LagM (goodT)
set_option maxRecDepth 100000

/-- What stands ahead of a write, and what it leaves. -/
structure PutAt (w W0 : World) (b : Nat) (v : Value) (l0 : List Bool) (cs : Array Value) : Prop where
  start : Wrote W0 b v l0 W0
  below : Below w.heap.size w W0
  cell : ∀ (W : World) l1, Wrote W0 b v l1 W → ∀ j val, cs[j]? = some val → W.cell? ⟨w.heap.size, j, none⟩ = some val
  back : ∀ l1 W, Wrote W0 b v l1 W → Wrote w b v l1 W
theorem putAt_new {w : World} {b : Nat} {v : Value} {l0 : List Bool} {zs : List Nat} (cs : Array Value) (hw : WrIs w b v l0 zs) : PutAt w (w.alloc (.cells cs 24)) b v l0 cs := by
  have hb0 := box_below w (.cells cs 24)
  have hn0 := World.alloc_heap_new w (.cells cs 24)
  have hlt0 := (Array.getElem?_eq_some_iff.1 hn0).1
  exact ⟨Wrote.refl (hw.keeps (keeps_of_below hb0 []) (by simp) (by simp)), hb0, fun W l1 hwr j val h => by
    rw [hwr.cell (g := w.heap.size) (off := j) hlt0 (Off.new hw (Nat.le_refl _)), cell_of_heap hn0]
    exact h, fun l1 W h => Wrote.later (keeps_of_below hb0 []) h⟩
theorem PutAt.put {w W0 : World} {b : Nat} {v : Value} {l0 : List Bool} {cs : Array Value} (_ : PutAt w W0 b v l0 cs) (x n : Nat) (l1 : List Bool) (W : World) (h1 : n ≤ 48) (h2 : x < 2 ^ n) (h3 : l1.length ≤ 100000) (hwr : Wrote W0 b v l1 W) :
    Calls Tryz.prog 32 #[.pointer (some ⟨b, 0, none⟩), .int .u64 x, .int .i64 n] W fun e W' => e = .returned (.bool true) ∧ Wrote W0 b v (l1 ++ low x n) W' := by
  obtain ⟨v1, zs1, hw1, _, hnx⟩ := hwr.off
  refine (wPut_yes b v1 l1 zs1 x n W h1 h2 h3 hw1).mono ?_
  rintro e W' ⟨h4, h5⟩
  exact ⟨h4, hnx _ _ h5⟩
theorem PutAt.signed {w W0 : World} {b : Nat} {v : Value} {l0 : List Bool} {cs : Array Value} (_ : PutAt w W0 b v l0 cs) (x : Int) (m : Nat) (l1 : List Bool) (W : World) (hm1 : 8 ≤ m) (hm2 : m ≤ 26) (h2 : hasP (halfOf (m : Int)) x = true) (h3 : l1.length ≤ 100000) (hwr : Wrote W0 b v l1 W) :
    Calls Tryz.prog 33 #[.pointer (some ⟨b, 0, none⟩), .int .i64 x, .int .i64 m] W fun e W' => e = .returned (.bool true) ∧ Wrote W0 b v (l1 ++ sg m x) W' := by
  obtain ⟨v1, zs1, hw1, _, hnx⟩ := hwr.off
  have hb := of_decide_eq_true h2
  rw [hp_nat (by omega)] at hb
  refine (wSigned_yes b v1 l1 zs1 x m W (by omega) (by omega) hb.1 hb.2 h3 hw1).mono ?_
  rintro e W' ⟨h4, h5⟩
  exact ⟨h4, hnx _ _ h5⟩

theorem x64 {m : Nat} {x : Int} (h1 : 8 ≤ m) (h2 : m ≤ 26) (h : hasP (halfOf (m : Int)) x = true) : In64 x := by
  have := of_decide_eq_true h
  have := hp_bound h1 h2
  unfold In64
  omega
set_option maxHeartbeats 3200000 in
theorem cPut_const (b : Nat) (v : Value) (l0 : List Bool) (zs : List Nat) (x : Int) (ia ra da : Option Addr) (ic rc dc : Nat) (k m : Nat) (w : World) (_hk1 : 1 ≤ k) (_hk : k ≤ 1024) (hm1 : 8 ≤ m) (hm2 : m ≤ 26) (hl0 : l0.length ≤ 17000) (hw : WrIs w b v l0 zs) (hI : BlkIn w ⟨1, x, 0, [], 0, 0, 0, [], []⟩ ia ra da ic rc dc) (hc : codeB ⟨1, x, 0, [], 0, 0, 0, [], []⟩ k m = 0) (hx : hasP (halfOf (m : Int)) x = true) :
    Calls Tryz.prog 8 #[.pointer (some ⟨b, 0, none⟩), blkV ⟨1, x, 0, [], 0, 0, 0, [], []⟩ ia ra da ic rc dc, .int .i64 k, .int .i64 m] w (Puts w b v true (l0 ++ bitsB ⟨1, x, 0, [], 0, 0, 0, [], []⟩ m)) := by
  have HR : Hid (∀ W, Below w.heap.size w W → Calls Tryz.prog 31 #[blkV ⟨1, x, 0, [], 0, 0, 0, [], []⟩ ia ra da ic rc dc, .int .i64 k, .int .i64 m] W fun e w' => e = .returned (.bool true) ∧ Below W.heap.size W w') := fun W hW => by
    have h := cIsRight ⟨1, x, 0, [], 0, 0, 0, [], []⟩ ia ra da ic rc dc k m W (hI.below hW) { v := (x64 hm1 hm2 hx), s := in64_zero, l := in64_zero, g := in64_zero, p := in64_zero }
    rw [decide_eq_true hc] at h
    exact h
  have HE : Hid (l0 ++ bitsB ⟨1, x, 0, [], 0, 0, 0, [], []⟩ m = (l0 ++ low 1 2) ++ sg m x) := by show _ = _; simp [bitsB]
  rw [HE.out]
  have HX := Lib.hid hx
  unfold blkV at *
  dsimp only [List.length_nil] at *
  obtain ⟨W0, hW0⟩ : ∃ W0, W0 = w.alloc (.cells #[.int .i64 1, .int .i64 x, .int .i64 0, .slice ia 0 ic, .int .i64 0, .int .i64 0, .int .i64 0, .slice ra 0 rc, .slice da 0 dc] 24) := ⟨_, rfl⟩
  have hPA := putAt_new #[.int .i64 1, .int .i64 x, .int .i64 0, .slice ia 0 ic, .int .i64 0, .int .i64 0, .int .i64 0, .slice ra 0 rc, .slice da 0 dc] hw
  rw [← hW0] at hPA
  have HPA := Lib.hid hPA
  have HW0 := Lib.hid hW0
  have HCE := Lib.hid hPA.cell
  have HL0 : Hid (l0.length ≤ 100000) := by show _ ≤ _; omega
  clear hPA hW0 hw hI hc hx
  go_enter Tryz.func8, Tryz.ntmps8
  go_wp2_with fail
  rw [← HW0.out]
  refine (HR.out _ HPA.out.below).mono ?_
  rintro e w1 ⟨rfl, hb⟩
  have HW1 := Lib.hid (HPA.out.start.still hb)
  have k0 := HCE.out w1 _ HW1.out 0 (.int .i64 1) rfl
  have k1 := HCE.out w1 _ HW1.out 1 (.int .i64 x) rfl
  have k2 := HCE.out w1 _ HW1.out 2 (.int .i64 0) rfl
  have k3 := HCE.out w1 _ HW1.out 3 (.slice ia 0 ic) rfl
  have k4 := HCE.out w1 _ HW1.out 4 (.int .i64 0) rfl
  have k5 := HCE.out w1 _ HW1.out 5 (.int .i64 0) rfl
  have k6 := HCE.out w1 _ HW1.out 6 (.int .i64 0) rfl
  have k7 := HCE.out w1 _ HW1.out 7 (.slice ra 0 rc) rfl
  have k8 := HCE.out w1 _ HW1.out 8 (.slice da 0 dc) rfl
  clear hb
  go_wp2_with fail
  refine (HPA.out.put 1 2 _ w1 (by omega) (by decide) HL0.out HW1.out).mono ?_
  rintro e w2 ⟨rfl, hw2⟩
  have HW2 := Lib.hid hw2
  clear hw2 k0 k1 k2 k3 k4 k5 k6 k7 k8
  have k0 := HCE.out w2 _ HW2.out 0 (.int .i64 1) rfl
  have k1 := HCE.out w2 _ HW2.out 1 (.int .i64 x) rfl
  have k2 := HCE.out w2 _ HW2.out 2 (.int .i64 0) rfl
  have k3 := HCE.out w2 _ HW2.out 3 (.slice ia 0 ic) rfl
  have k4 := HCE.out w2 _ HW2.out 4 (.int .i64 0) rfl
  have k5 := HCE.out w2 _ HW2.out 5 (.int .i64 0) rfl
  have k6 := HCE.out w2 _ HW2.out 6 (.int .i64 0) rfl
  have k7 := HCE.out w2 _ HW2.out 7 (.slice ra 0 rc) rfl
  have k8 := HCE.out w2 _ HW2.out 8 (.slice da 0 dc) rfl
  go_wp2_with fail
  refine (HPA.out.signed x m _ w2 hm1 hm2 HX.out (by rw [List.length_append, low_length]; omega) HW2.out).mono ?_
  rintro e w3 ⟨rfl, hw3⟩
  have HW3 := Lib.hid (HPA.out.back _ _ hw3)
  clear hw3 k0 k1 k2 k3 k4 k5 k6 k7 k8
  go_wp2
  go_ret
  exact ⟨rfl, HW3.out⟩


end Go.Proofs.YtefbakhhlonafaaGreat
end

section
namespace Go.Proofs.YtefbakhhlonafaaGreat
open Go.RowKit Go.Proofs Go.Proofs.PipeM Go.Proofs.PipeA Go.Proofs.BlkM Go.Proofs.BlkB
set_option maxRecDepth 100000

theorem five_right : codeB ⟨1, 5, 0, [], 0, 0, 0, [], []⟩ (3 : Nat) (8 : Nat) = 0 := by decide
set_option maxHeartbeats 1600000 in
theorem awake10 (w : World) : Calls Tryz.prog 5 #[] w fun e w' => e = .returned (.bool true) ∧ Below w.heap.size w w' := by
  have HI : ∀ W, BlkIn W ⟨1, 5, 0, [], 0, 0, 0, [], []⟩ none none none 0 0 0 := fun W => ⟨fun j hj => by simp at hj, fun j hj => by simp at hj, fun j hj => by simp at hj, Nat.zero_le _, Nat.zero_le _, Nat.zero_le _, Nat.le_refl _, Nat.le_refl _, Nat.le_refl _⟩
  have HP := Lib.hid (cPut_const w.heap.size (.slice none 0 0) [] [] 5 none none none 0 0 0 3 8 _ (by omega) (by omega) (by omega) (by omega) (by simp) (wr_fresh w) (HI _) five_right (by decide))
  have HB : Hid (bitsB ⟨1, 5, 0, [], 0, 0, 0, [], []⟩ 8 = [false, true, false, false, false, false, false, true, false, true]) := by show _ = _; decide
  rw [HB.out] at HP
  unfold blkV at HP
  dsimp only [List.length_nil] at HP
  clear HI HB
  go_enter Tryz.func5, Tryz.ntmps5
  go_wp2_with fail
  refine HP.out.mono ?_
  rintro e w1 ⟨rfl, hw1⟩
  have HB := Lib.hid (wrote_below hw1)
  obtain ⟨v1, zs1, hi1, hk1, ho1⟩ := hw1
  have H1 := Lib.hid hi1
  have c1 : w1.cell? ⟨w.heap.size, 1, none⟩ = some (.int .i64 10) := hi1.c1
  clear hi1 hk1 ho1 HP
  go_wp2_with fail
  refine (wLen _ _ _ c1).mono ?_
  rintro e w2 ⟨rfl, rfl⟩
  go_wp2_with fail
  refine (wBytes w.heap.size v1 _ zs1 _ (by decide) H1.out).mono ?_
  rintro e w4 ⟨g, rfl, hown4, hb4⟩
  have hcv := conv_row hown4
  have hzs : zs1 = [65, 64] := H1.out.packs.unique ⟨by simp, by decide⟩
  have hstr : bstr zs1 = ⟨#[65, 64]⟩ := by rw [hzs]; rfl
  rw [hstr] at hcv
  have HB4 := Lib.hid hb4
  clear hown4 hb4 hzs hstr
  go_wp2
  go_ret
  exact ⟨rfl, HB.out.trans (HB4.out.mono HB.out.size)⟩

end Go.Proofs.YtefbakhhlonafaaGreat
end

section
namespace Go.Proofs.YtefbakhhlonafaaGreat
open Go.RowKit Go.Proofs Go.Proofs.PipeM Go.Proofs.PipeA
set_option maxRecDepth 100000

theorem Box2.put {w : World} {b : Nat} {v0 v1 v2 u0 u1 u2 : Value} (h : Box2 w b v0 v1 v2 u0 u1 u2) (x0 x1 x2 : Value) :
    Box2 (((w.setCell ⟨b, 0, none⟩ x0).setCell ⟨b, 1, none⟩ x1).setCell ⟨b, 2, none⟩ x2) b x0 x1 x2 u0 u1 u2 := by
  obtain ⟨q0, q1, q2⟩ := set3_cells h.c0 h.c1 h.c2 x0 x1 x2
  refine ⟨by simpa using h.lt, q0, q1, q2, ?_, ?_, ?_, ?_, ?_, ?_, ?_, ?_, ?_⟩
  all_goals simp [World.cell?_setCell_other, h.d0, h.d1, h.d2, h.f0, h.f1, h.f2, h.g0, h.g1, h.g2]
/-- The number that comes, in two's complement. -/
def MR.intV (m : MR) (n : Nat) : Int := if (m.take n).1.fail = 0 ∧ 2 ^ (n - 1) ≤ (m.take n).2 then ((m.take n).2 : Int) - ((2 ^ n : Nat) : Int) else (m.take n).2
theorem take_lt (m : MR) (n : Nat) : (m.take n).2 < 2 ^ n := by
  have h0 : 0 < 2 ^ n := Nat.two_pow_pos n
  unfold MR.take
  split
  · exact h0
  · split
    · exact h0
    · split
      · exact h0
      · have := num_lt (m.bits.take (n : Int).toNat)
        refine Nat.lt_of_lt_of_le this (Nat.pow_le_pow_right (by decide) ?_)
        rw [List.length_take]
        omega

set_option maxHeartbeats 1600000 in
theorem mInt (m : MR) (n : Nat) (w : World) (hn1 : 1 ≤ n) (hn : n ≤ 48) (hb : m.bits.length ≤ 1000000000) :
    Calls Tryz.prog 52 #[m.val, .int .i64 n] w (MRes (m.take n).1 (m.intV n) w) := by
  have HTK0 := fun W => Lib.hid (mTake m n W hb)
  have hlt := take_lt m n
  have HI : Hid (m.intV n = if (m.take n).1.fail = 0 ∧ 2 ^ (n - 1) ≤ (m.take n).2 then ((m.take n).2 : Int) - ((2 ^ n : Nat) : Int) else (m.take n).2) := rfl
  have HP1 := fun W => Lib.hid (refPower (n - 1) W (by omega))
  have HP2 := fun W => Lib.hid (refPower n W (by omega))
  have h48 : 2 ^ n ≤ 2 ^ 48 := Nat.pow_le_pow_right (by decide) hn
  obtain ⟨e1, he1⟩ : ∃ e1, e1 = n - 1 := ⟨_, rfl⟩
  rw [← he1] at HP1 HI
  have hwm : IntKind.i64.wrap ((n : Int) - 1) = (e1 : Int) := by rw [IntWalk.i64_in _ (by omega)]; omega
  have t1 : decide ((n : Int) < 1) = false := decide_eq_false (by omega)
  obtain ⟨l, all, fail⟩ := m
  generalize MR.take ⟨l, all, fail⟩ n = tk at *
  obtain ⟨⟨l', all', fail'⟩, v⟩ := tk
  have HTK : ∀ W, Hid (Calls Tryz.prog 51 #[.agg #[.string (str l), .int .i64 all, .int .i64 fail], .int .i64 n] W fun r w' => r = .returned (.tuple #[.agg #[.string (str l'), .int .i64 all', .int .i64 fail'], .int .i64 v]) ∧ Below W.heap.size W w') := HTK0
  show Calls Tryz.prog 52 #[.agg #[.string (str l), .int .i64 all, .int .i64 fail], .int .i64 n] w fun r w' => r = .returned (.tuple #[.agg #[.string (str l'), .int .i64 all', .int .i64 fail'], .int .i64 (MR.intV ⟨l, all, fail⟩ n)]) ∧ Below w.heap.size w w'
  simp only at hlt HI
  clear HTK0
  generalize MR.intV ⟨l, all, fail⟩ n = iv at *
  generalize str l = s at *
  generalize str l' = s' at *
  generalize 2 ^ n = P2 at *
  generalize 2 ^ e1 = P1 at *
  have HB0 := Lib.hid (Box2.of w (.string s) (.int .i64 all) (.int .i64 fail) (.string ⟨#[]⟩) (.int .i64 0) (.int .i64 0) 50)
  have HBEL := Lib.hid (below2 w (.cells #[.string s, .int .i64 all, .int .i64 fail] 50) (.cells #[.string ⟨#[]⟩, .int .i64 0, .int .i64 0] 50))
  clear he1 hb
  have HCA : fail' ≠ 0 ∨ fail' = 0 ∧ P1 ≤ v ∨ fail' = 0 ∧ v < P1 := by omega
  rcases HCA with hf | ⟨hf, hp⟩ | ⟨hf, hp⟩
  · have t2 : (fail' == 0) = false := beq_eq_false_iff_ne.2 hf
    have HV : Hid (iv = v) := by show _ = _; rw [HI.out, if_neg (by omega)]
    clear hf HI
    go_enter Tryz.func52, Tryz.ntmps52
    go_wp2_with fail
    refine (HTK _).out.mono ?_
    rintro e w1 ⟨rfl, hb1⟩
    have HB1 := Lib.hid (HB0.out.below hb1)
    have HB2 := Lib.hid (HB1.out.put (.string s') (.int .i64 all') (.int .i64 fail'))
    have HB3 : Hid (Below w.heap.size w w1) := HBEL.out.trans (hb1.mono HBEL.out.size)
    obtain ⟨_, c0, c1, c2, d0, d1, d2, f0, f1, f2, g0, g1, g2⟩ := HB1.out
    obtain ⟨_, x0, x1, x2, y0, y1, y2, z0, z1, z2, z3, z4, z5⟩ := HB2.out
    clear hb1
    go_wp2
    obtain ⟨q0, q1, q2⟩ := set3_cells y0 y1 y2 (.string s') (.int .i64 all') (.int .i64 fail')
    refine bodyPost_ret (v := .tuple #[.agg #[.string s', .int .i64 all', .int .i64 fail'], .int .i64 v]) (by simp [results, Tryz.results52, go_sem, q0, q1, q2]) rfl ?_
    exact ⟨by rw [HV.out], below_set3 (below_set3 HB3.out _ (by omega) _ _ _) _ (by omega) _ _ _⟩
  · subst hf
    have t3 : decide (P1 ≤ v) = true := decide_eq_true hp
    have HV : Hid (iv = (v : Int) - (P2 : Int)) := by show _ = _; rw [HI.out, if_pos ⟨rfl, hp⟩]
    have hwv : IntKind.i64.wrap ((v : Int) - (P2 : Int)) = iv := by rw [HV.out]; exact IntWalk.i64_in _ (by omega)
    clear hp HI HV
    go_enter Tryz.func52, Tryz.ntmps52
    go_wp2_with fail
    refine (HTK _).out.mono ?_
    rintro e w1 ⟨rfl, hb1⟩
    have HB1 := Lib.hid (HB0.out.below hb1)
    have HB2 := Lib.hid (HB1.out.put (.string s') (.int .i64 all') (.int .i64 0))
    have HB3 : Hid (Below w.heap.size w w1) := HBEL.out.trans (hb1.mono HBEL.out.size)
    obtain ⟨_, c0, c1, c2, d0, d1, d2, f0, f1, f2, g0, g1, g2⟩ := HB1.out
    obtain ⟨_, x0, x1, x2, y0, y1, y2, z0, z1, z2, z3, z4, z5⟩ := HB2.out
    clear hb1
    go_wp2_with fail
    refine (HP1 _).out.mono ?_
    rintro e w2 ⟨rfl, rfl⟩
    go_wp2_with fail
    refine (HP2 _).out.mono ?_
    rintro e w3 ⟨rfl, rfl⟩
    go_wp2
    obtain ⟨q0, q1, q2⟩ := set3_cells y0 y1 y2 (.string s') (.int .i64 all') (.int .i64 0)
    refine bodyPost_ret (v := .tuple #[.agg #[.string s', .int .i64 all', .int .i64 0], .int .i64 iv]) (by simp [results, Tryz.results52, go_sem, q0, q1, q2]) rfl ?_
    exact ⟨rfl, below_set3 (below_set3 HB3.out _ (by omega) _ _ _) _ (by omega) _ _ _⟩
  · subst hf
    have t3 : decide (P1 ≤ v) = false := decide_eq_false (by omega)
    have HV : Hid (iv = v) := by show _ = _; rw [HI.out, if_neg (by omega)]
    clear hp HI
    go_enter Tryz.func52, Tryz.ntmps52
    go_wp2_with fail
    refine (HTK _).out.mono ?_
    rintro e w1 ⟨rfl, hb1⟩
    have HB1 := Lib.hid (HB0.out.below hb1)
    have HB2 := Lib.hid (HB1.out.put (.string s') (.int .i64 all') (.int .i64 0))
    have HB3 : Hid (Below w.heap.size w w1) := HBEL.out.trans (hb1.mono HBEL.out.size)
    obtain ⟨_, c0, c1, c2, d0, d1, d2, f0, f1, f2, g0, g1, g2⟩ := HB1.out
    obtain ⟨_, x0, x1, x2, y0, y1, y2, z0, z1, z2, z3, z4, z5⟩ := HB2.out
    clear hb1
    go_wp2_with fail
    refine (HP1 _).out.mono ?_
    rintro e w2 ⟨rfl, rfl⟩
    go_wp2
    obtain ⟨q0, q1, q2⟩ := set3_cells y0 y1 y2 (.string s') (.int .i64 all') (.int .i64 0)
    refine bodyPost_ret (v := .tuple #[.agg #[.string s', .int .i64 all', .int .i64 0], .int .i64 v]) (by simp [results, Tryz.results52, go_sem, q0, q1, q2]) rfl ?_
    exact ⟨by rw [HV.out], below_set3 (below_set3 HB3.out _ (by omega) _ _ _) _ (by omega) _ _ _⟩
end Go.Proofs.YtefbakhhlonafaaGreat
end

section
namespace Go.Proofs.YtefbakhhlonafaaGreat
open Go.RowKit Go.Proofs Go.Proofs.PipeM Go.Proofs.PipeA
set_option maxRecDepth 100000

/-- So many numbers in two's complement. -/
def MR.ints (b : Nat) : Nat → MR → MR × List Int
  | 0, m => (m, [])
  | n + 1, m => if m.fail = 0 then ((MR.ints b n (m.take b).1).1, m.intV b :: (MR.ints b n (m.take b).1).2) else (m, [])
theorem MR.ints_fail {b n : Nat} {m : MR} (h : m.fail ≠ 0) : MR.ints b n m = (m, []) := by
  cases n with
  | zero => rfl
  | succ n => rw [MR.ints, if_neg h]
theorem MR.ints_succ {b n : Nat} {m : MR} (h : m.fail = 0) : MR.ints b (n + 1) m = ((MR.ints b n (m.take b).1).1, m.intV b :: (MR.ints b n (m.take b).1).2) := by rw [MR.ints, if_pos h]
theorem MR.ints_len (b : Nat) : ∀ n (m : MR), (MR.ints b n m).2.length ≤ n
  | 0, m => by simp [MR.ints]
  | n + 1, m => by
    by_cases h : m.fail = 0
    · rw [MR.ints_succ h]; simpa using MR.ints_len b n (m.take b).1
    · rw [MR.ints_fail h]; simp
theorem MR.take_len (m : MR) (n : Int) : (m.take n).1.bits.length ≤ m.bits.length := by
  unfold MR.take
  split
  · unfold MR.give; split <;> simp
  · split
    · unfold MR.give; split <;> simp
    · split
      · simp
      · simp

/-- The reader in its box, and the numbers that came. -/
structure IRel (W0 : World) (RB : Nat) (m : MR) (v : Value) (l : List Int) (W : World) : Prop where
  kp : Keeps [RB] W0 W
  r : Box3 W RB (.string (str m.bits)) (.int .i64 m.all) (.int .i64 m.fail)
  own : W.ownsRow W0.heap.size 3 1 v l.length (intsOf l)
  lt : RB < W0.heap.size
theorem IRel.read {W0 : World} {RB : Nat} {m : MR} {v : Value} {l : List Int} {W W1 : World} (h : IRel W0 RB m v l W) (hb : Below W.heap.size W W1) (o : Obj) (m' : MR) :
    IRel W0 RB m' v l ((((W1.alloc o).setCell ⟨RB, 0, none⟩ (.string (str m'.bits))).setCell ⟨RB, 1, none⟩ (.int .i64 m'.all)).setCell ⟨RB, 2, none⟩ (.int .i64 m'.fail)) := by
  have k1 : Keeps [] W (W1.alloc o) := (keeps_of_below hb []).trans (keeps_of_below (box_below W1 o) [])
  obtain ⟨hbx, hk⟩ := (h.r.keeps k1 (by simp)).set3 (.string (str m'.bits)) (.int .i64 m'.all) (.int .i64 m'.fail)
  have hk2 := (k1.mono (show ∀ x, x ∈ [] → x ∈ [RB] by simp)).trans hk
  refine ⟨h.kp.trans hk2, hbx, ?_, h.lt⟩
  refine ownsRow_keeps h.own hk2 fun g hg hm => ?_
  have := (own_block_lt h.own g hg).1; have := h.lt; simp at hm; omega
theorem IRel.push {W0 : World} {RB : Nat} {m : MR} {v v' : Value} {l : List Int} {x : Int} {W W1 : World} (h : IRel W0 RB m v l W) (hk : Keeps v.ownBlock.toList W W1)
    (ho : W1.ownsRow W0.heap.size 3 1 v' (l.length + 1) (intsOf l ++ [.int .i64 x])) : IRel W0 RB m v' (l ++ [x]) W1 := by
  have hge : ∀ g ∈ v.ownBlock.toList, W0.heap.size ≤ g := fun g hg => (own_block_lt h.own g (by simpa using hg)).1
  have hrn : RB ∉ v.ownBlock.toList := fun hm => by have := hge RB hm; have := h.lt; omega
  refine ⟨h.kp.trans_new hk (fun x hx => Or.inr (hge x hx)), h.r.keeps hk hrn, ?_, h.lt⟩
  rw [List.length_append, List.length_singleton, intsOf_snoc]; exact ho

/-- What ints leaves. -/
def MIntsIs (r : MR × List Int) (w : World) (e : Ending) (w' : World) : Prop :=
  ∃ la lc, e = .returned (.tuple #[r.1.val, .slice la r.2.length lc]) ∧ IntsAt w' la r.2 ∧ r.2.length ≤ lc ∧ Below w.heap.size w w' ∧ FreshOf w la

set_option maxHeartbeats 3200000 in
theorem rInts10 (m : MR) (n b : Nat) (w : World) (hb : m.bits.length ≤ 1000000000) (hn : n ≤ 1024) (hb1 : 1 ≤ b) (hb2 : b ≤ 48) :
    Calls Tryz.prog 53 #[m.val, .int .i64 n, .int .i64 b] w (MIntsIs (MR.ints b n m) w) := by
  obtain ⟨i0, hi, hz0, hz1, hz2⟩ := info_parts info_int
  have HBEL := Lib.hid (below2 w (.cells #[.string (str m.bits), .int .i64 m.all, .int .i64 m.fail] 50) (.cells #[.string ⟨#[]⟩, .int .i64 0, .int .i64 0] 50))
  have HBX := Lib.hid (Box2.of w (.string (str m.bits)) (.int .i64 m.all) (.int .i64 m.fail) (.string ⟨#[]⟩) (.int .i64 0) (.int .i64 0) 50)
  obtain ⟨W0, hW0⟩ : ∃ W0, W0 = (w.alloc (.cells #[.string (str m.bits), .int .i64 m.all, .int .i64 m.fail] 50)).alloc (.cells #[.string ⟨#[]⟩, .int .i64 0, .int .i64 0] 50) := ⟨_, rfl⟩
  rw [← hW0] at HBEL HBX
  have HW0 := Lib.hid hW0
  have HOUT : Hid (Box3 W0 (w.heap.size + 1) (.string ⟨#[]⟩) (.int .i64 0) (.int .i64 0)) := by
    obtain ⟨h0, _, _, _, d0, d1, d2, _, _, _, g0, g1, g2⟩ := HBX.out
    exact ⟨h0, d0, d1, d2, g0, g1, g2⟩
  have HST : Hid (IRel W0 w.heap.size m (.slice none 0 0) [] W0) := by
    obtain ⟨h0, c0, c1, c2, _, _, _, f0, f1, f2, _, _, _⟩ := HBX.out
    exact ⟨Keeps.refl _ _, ⟨by omega, c0, c1, c2, f0, f1, f2⟩, World.ownsRow_nil _ _ _ _, by omega⟩
  have HV : Hid (m.val = .agg #[.string (str m.bits), .int .i64 m.all, .int .i64 m.fail]) := rfl
  rw [HV.out]
  clear hW0 HBX
  go_enter Tryz.func53, Tryz.ntmps53
  go_wp2
  rw [← HW0.out]
  go_loopg [8, 9, 10, 11] n (fun gk va i q1 q2 wr => ∃ (c : Nat) (mi : MR) (l : List Int), c ≤ n ∧ gk + c = n ∧ i = .int .i64 c ∧ Hid (IRel W0 w.heap.size mi va l wr) ∧ Hid (MR.ints b n m = ((MR.ints b (n - c) mi).1, l ++ (MR.ints b (n - c) mi).2)) ∧ Hid (l.length ≤ c ∧ mi.bits.length ≤ 1000000000))
  case atStart => exact ⟨0, m, [], Nat.zero_le _, by omega, rfl, HST, by show _ = _; simp, ⟨Nat.zero_le _, hb⟩⟩
  case round =>
    obtain ⟨c, mi, l, hc, hgk, rfl, HT, HMN, HL⟩ := hrel
    have HGK := Lib.hid hgk
    clear hgk
    obtain ⟨_, c0, c1, c2, f0, f1, f2⟩ := HT.out.r
    obtain ⟨aao, acap, rfl, _⟩ := Fx.own_slice HT.out.own
    have HEND : Hid (MR.ints b (n - c) mi = (mi, []) → MIntsIs (MR.ints b n m) w (.returned (.tuple #[.agg #[.string (str mi.bits), .int .i64 mi.all, .int .i64 mi.fail], .slice aao l.length acap])) (((wr.setCell ⟨w.heap.size + 1, 0, none⟩ (.string (str mi.bits))).setCell ⟨w.heap.size + 1, 1, none⟩ (.int .i64 mi.all)).setCell ⟨w.heap.size + 1, 2, none⟩ (.int .i64 mi.fail))) := fun he => by
      have hr : MR.ints b n m = (mi, l) := by rw [HMN.out, he]; simp
      rw [hr]
      have ho := HOUT.out.keeps HT.out.kp (by simp)
      obtain ⟨_, hk⟩ := ho.set3 (.string (str mi.bits)) (.int .i64 mi.all) (.int .i64 mi.fail)
      have hlt := HOUT.out.lt
      refine ⟨aao, acap, rfl, ?_, Fx.own_cap HT.out.own, ?_, fun g off hh => ?_⟩
      · exact Fx.ints_own (cap := acap) (ownsRow_keeps HT.out.own hk fun g hg hm => by
          have := (own_block_lt HT.out.own g hg).1
          simp at hm
          omega)
      · exact (HBEL.out.trans (HT.out.kp.below HBEL.out.size (by intro x hx; simp at hx; omega))).trans (hk.below (Nat.le_trans HBEL.out.size HT.out.kp.size) (by intro x hx; simp at hx; omega))
      · subst hh
        have := (own_block_lt HT.out.own g rfl).1
        have := HBEL.out.size
        omega
    have HOB := Lib.hid (HOUT.out.keeps HT.out.kp (by simp))
    by_cases hlt : c < n
    · by_cases hf : mi.fail = 0
      · have t6 : (mi.fail == 0) = true := by rw [hf]; rfl
        have HRC := fun W => Lib.hid (mInt mi b W hb1 hb2 HL.out.2)
        have hlenr := Nat.le_trans (MR.take_len mi b) HL.out.2
        have HMN2 : Hid (MR.ints b (n - c) mi = ((MR.ints b (n - (c + 1)) (mi.take b).1).1, mi.intV b :: (MR.ints b (n - (c + 1)) (mi.take b).1).2)) := by
          show _ = _
          rw [show n - c = (n - (c + 1)) + 1 by omega, MR.ints_succ hf]
        generalize (mi.take b).1 = mr at HRC hlenr HMN2
        generalize mi.intV b = v at HRC HMN2
        unfold MR.val at HRC
        clear hf HEND
        go_wp2_with fail
        refine (HRC _).out.mono ?_
        rintro e w5 ⟨rfl, hb5⟩
        unfold MR.val
        have hT6 := HT.out.read hb5 (.cells #[.string (str mr.bits), .int .i64 mr.all, .int .i64 mr.fail] 50) mr
        have hr6 := (HT.out.r.keeps (keeps_of_below hb5 []) (by simp)).keeps (keeps_of_below (box_below w5 (.cells #[.string (str mr.bits), .int .i64 mr.all, .int .i64 mr.fail] 50)) []) (by simp)
        have d0 := hr6.c0
        have d1 := hr6.c1
        have d2 := hr6.c2
        have g0 := hr6.f0
        have g1 := hr6.f1
        have g2 := hr6.f2
        have hnew := new_one (((((w5.alloc (.cells #[.string (str mr.bits), .int .i64 mr.all, .int .i64 mr.fail] 50)).setCell ⟨w.heap.size, 0, none⟩ (.string (str mr.bits))).setCell ⟨w.heap.size, 1, none⟩ (.int .i64 mr.all)).setCell ⟨w.heap.size, 2, none⟩ (.int .i64 mr.fail))) v (b := w5.heap.size + 1) (by simp)
        have hT6l := hT6.own
        have hszW := Nat.le_trans HT.out.kp.size hb5.size
        have hlv : l.length ≤ 20000 := by have := HL.out.1; omega
        go_wp2_with (at_builtin; refine wpList_append_own2 _ rfl _ _ 22 rfl W0.heap.size 3 i0 (.int .i64 0) 1 8 Tryz.underlying22 hi hz0 hz1 hz2 rfl (by decide) _ _ _ rfl (hT6l.alloc _) ⟨w5.heap.size + 1, 0, none⟩ 1 1 [.int .i64 v] rfl rfl hnew (by intro u hu; simp at hu; subst hu; rfl) (by unfold maxLen; omega) (by omega) (by simp; omega) ?_)
        intro lv' w7 hown7 hgrow7 hat7
        have hk7 : Keeps (Value.slice aao l.length acap).ownBlock.toList (((((w5.alloc (.cells #[.string (str mr.bits), .int .i64 mr.all, .int .i64 mr.fail] 50)).setCell ⟨w.heap.size, 0, none⟩ (.string (str mr.bits))).setCell ⟨w.heap.size, 1, none⟩ (.int .i64 mr.all)).setCell ⟨w.heap.size, 2, none⟩ (.int .i64 mr.fail))) w7 := (keeps_of_below (box_below _ _) _).trans (keeps_grownBy hgrow7)
        have hT7 := hT6.push (x := v) hk7 hown7
        have HT8 := Lib.hid hT7
        clear hnew hT6l hk7 hown7 hgrow7 hat7 hT6 hr6 d0 d1 d2 g0 g1 g2 hb5 c0 c1 c2 f0 f1 f2 hT7
        go_wp2
        go_roundg (n - (c + 1))
        case rel => exact ⟨c + 1, mr, l ++ [v], by omega, by omega, by go_num, HT8, Lib.hid (by rw [HMN.out, HMN2.out]; simp), Lib.hid ⟨by rw [List.length_append]; simp; exact HL.out.1, hlenr⟩⟩
        case measure => have := HGK.out; omega
      · have t6 : (mi.fail == 0) = false := beq_eq_false_iff_ne.2 hf
        have HF := Lib.hid (HEND.out (MR.ints_fail hf))
        obtain ⟨_, e0, e1, e2, g0, g1, g2⟩ := HOB.out
        obtain ⟨y0, y1, y2⟩ := set3_cells e0 e1 e2 (.string (str mi.bits)) (.int .i64 mi.all) (.int .i64 mi.fail)
        clear hf HEND
        generalize str mi.bits = gs at *
        generalize mi.all = ga at *
        generalize mi.fail = gf at *
        go_wp2
        refine bodyPost_ret (v := .tuple #[.agg #[.string gs, .int .i64 ga, .int .i64 gf], .slice aao l.length acap]) ?_ rfl ?_
        · simp [results, Tryz.results53, go_sem, y0, y1, y2]
        · exact HF.out
    · obtain rfl : c = n := by omega
      have HF := Lib.hid (HEND.out (by rw [Nat.sub_self]; rfl))
      obtain ⟨_, e0, e1, e2, g0, g1, g2⟩ := HOB.out
      obtain ⟨y0, y1, y2⟩ := set3_cells e0 e1 e2 (.string (str mi.bits)) (.int .i64 mi.all) (.int .i64 mi.fail)
      clear HEND
      generalize str mi.bits = gs at *
      generalize mi.all = ga at *
      generalize mi.fail = gf at *
      go_wp2
      refine bodyPost_ret (v := .tuple #[.agg #[.string gs, .int .i64 ga, .int .i64 gf], .slice aao l.length acap]) ?_ rfl ?_
      · simp [results, Tryz.results53, go_sem, y0, y1, y2]
      · exact HF.out
end Go.Proofs.YtefbakhhlonafaaGreat
end
