/-
  PROVED: 'BlockTakes' answers true for every input, and leaves its arguments as they were.
  Conditions: none.
-/
import Derived.Test.YtefbakhhlonafaaGreatBlkH2
import Derived.Test.YtefbakhhlonafaaGreatBlkT2
import Derived.Test.YtefbakhhlonafaaGreatBlkT6
import Derived.Test.YtefbakhhlonafaaGreatBlkR2
import Derived.Test.YtefbakhhlonafaaGreatRef3g
import Derived.Test.YtefbakhhlonafaaGreatRef3a
import Derived.Test.YtefbakhhlonafaaGreatRows
import Derived.Test.YtefbakhhlonafaaGreatLagM

section
namespace Go.Proofs.YtefbakhhlonafaaGreat
open Go.RowKit Go.Proofs Go.Proofs.PipeM Go.Proofs.PipeA Go.Proofs.BlkM Go.Proofs.BlkB
set_option maxRecDepth 100000

/-- What stands behind a block that was taken. -/
theorem block_ok {m : MR} {n d : Int} (h : (m.block n d).1.fail = 0) : ∃ dd : Nat, d = dd ∧ codeB (m.block n d).2.1 n dd = 0 ∧ m.bits = bitsB (m.block n d).2.1 dd ++ (m.block n d).1.bits := by
  unfold MR.block at h ⊢
  cases hs : (sizeN n && depthB d) with
  | false =>
    rw [hs] at h
    exfalso
    simp only [Bool.not_false, if_true] at h
    have h0 := MR.give_still h
    unfold MR.give at h
    rw [if_pos h0] at h
    exact absurd h (by show ¬ ((1 : Int) = 0); decide)
  | true =>
    rw [hs] at h
    simp only [Bool.not_true, Bool.false_eq_true, if_false] at h ⊢
    rw [Bool.and_eq_true] at hs
    obtain ⟨k, rfl, _, _⟩ := sizeN_of hs.1
    obtain ⟨dd, rfl, hd1, hd2⟩ := depthB_of hs.2
    rw [show ((k : Int)).toNat = k from rfl, show ((dd : Int)).toNat = dd from rfl] at h ⊢
    refine ⟨dd, rfl, ?_⟩
    by_cases hf : (m.kindB k dd).1.fail = 0
    · rw [if_neg (show ¬ ((m.kindB k dd).1.fail ≠ 0) from fun x => x hf)] at h ⊢
      by_cases hc : codeB (m.kindB k dd).2 k dd = 0
      · rw [if_neg (show ¬ (codeB (m.kindB k dd).2 k dd ≠ 0) from fun x => x hc)]
        exact ⟨hc, block_back hd1 hd2 hf hc⟩
      · rw [if_pos hc] at h
        unfold MR.give at h
        rw [if_pos hf] at h
        exact absurd h hc
    · rw [if_pos hf] at h
      exact absurd h hf
theorem block_len (m : MR) (n d : Int) : (m.block n d).2.2.length ≤ 1024 := by
  unfold MR.block
  cases hs : (sizeN n && depthB d) with
  | false => simp
  | true =>
    simp only [Bool.not_true, Bool.false_eq_true, if_false]
    split
    · simp
    · split
      · simp
      · rename_i hc
        have hc' : codeB (m.kindB n.toNat d.toNat).2 n d = 0 := by simpa using hc
        obtain ⟨k, dd, rfl, rfl, _, hk, _, _, hf, _⟩ := right_of hc'
        rw [show ((k : Int)).toNat = k from rfl] at *
        show (outB _ k).length ≤ _
        rw [outB_len hf]
        exact hk

set_option maxHeartbeats 1600000 in
theorem takes10_much (bo : Option Addr) (cap len : Nat) (n d : Int) (w : World) (h : ¬ len ≤ 200 ∨ (len ≤ 200 ∧ 64 < n)) :
    Calls Tryz.prog 4 #[.slice bo len cap, .int .i64 n, .int .i64 d] w fun e w' => e = .returned (.bool true) ∧ Below w.heap.size w w' := by
  have HA := fun W => Lib.hid (awake10 W)
  rcases h with h | ⟨h, h2⟩
  · have t1 : decide ((200 : Int) < (len : Int)) = true := decide_eq_true (by omega)
    have t2 : decide (200 < len) = true := decide_eq_true (by omega)
    clear h
    go_enter Tryz.func4, Tryz.ntmps4
    go_wp2_with fail
    refine (HA _).out.mono ?_
    rintro e w1 ⟨rfl, hb1⟩
    have HB1 := Lib.hid hb1
    clear hb1
    go_wp2_with fail
    refine (HA _).out.mono ?_
    rintro e w2 ⟨rfl, hb2⟩
    have HB2 := Lib.hid (HB1.out.trans (hb2.mono HB1.out.size))
    clear hb2
    go_wp2
    go_ret
    exact ⟨rfl, HB2.out⟩
  · have t1 : decide ((200 : Int) < (len : Int)) = false := decide_eq_false (by omega)
    have t2 : decide (200 < len) = false := decide_eq_false (by omega)
    have t3 : decide (64 < n) = true := decide_eq_true h2
    clear h h2
    go_enter Tryz.func4, Tryz.ntmps4
    go_wp2_with fail
    refine (HA _).out.mono ?_
    rintro e w1 ⟨rfl, hb1⟩
    have HB1 := Lib.hid hb1
    clear hb1
    go_wp2_with fail
    refine (HA _).out.mono ?_
    rintro e w2 ⟨rfl, hb2⟩
    have HB2 := Lib.hid (HB1.out.trans (hb2.mono HB1.out.size))
    clear hb2
    go_wp2
    go_ret
    exact ⟨rfl, HB2.out⟩

set_option maxHeartbeats 12800000 in
theorem takes10_few (bo : Option Addr) (cap : Nat) (zs : List Nat) (n d : Int) (w : World) (hz : ∀ z ∈ zs, z < 256) (hd : BytesAt w bo zs) (h : zs.length ≤ 200) (hn : n ≤ 64) :
    Calls Tryz.prog 4 #[.slice bo zs.length cap, .int .i64 n, .int .i64 d] w fun e w' => e = .returned (.bool true) ∧ Below w.heap.size w w' := by
  have HA := fun W => Lib.hid (awake10 W)
  have t1 : decide ((200 : Int) < (zs.length : Int)) = false := decide_eq_false (by omega)
  have t2 : decide (200 < zs.length) = false := decide_eq_false (by omega)
  have t3 : decide (64 < n) = false := decide_eq_false (by omega)
  obtain ⟨bo2, hbo2, hbo3⟩ : ∃ bo2 : Option Addr, (0 < zs.length → bo = bo2) ∧ ∀ g off, bo2 = some ⟨g, off, none⟩ → g < w.heap.size := by
    rcases Nat.eq_zero_or_pos zs.length with h0 | h0
    · exact ⟨none, fun hh => by omega, fun g off hh => by cases hh⟩
    · obtain ⟨g', off', e, hlt, _⟩ := hd 0 h0
      exact ⟨bo, fun _ => rfl, fun g off hh => by rw [hh] at e; cases e; exact hlt⟩
  have HOP := fun W (hb : Below w.heap.size w W) => Lib.hid (aOpen bo bo2 cap zs W hbo2 (hd.below hb) hz (by omega))
  have HMO := fun W (hb : Below w.heap.size w W) => Lib.hid (mOpen bo cap zs W (by omega) hz (hd.below hb))
  have HRB := fun W (hb : Below w.heap.size w W) => Lib.hid (refBits bo cap zs W (by omega) hz (hd.below hb))
  have hsim := Sim.block (s := ⟨bitsOf zs, 0⟩) (m := MR.mk (bitsOf zs) ((8 * zs.length : Nat) : Int) 0) ⟨rfl, fun _ => rfl, fun hc => absurd rfl hc⟩ n d
  have HMT := fun W => Lib.hid (rTake10 (MR.mk (bitsOf zs) ((8 * zs.length : Nat) : Int) 0) n d W (by simp [bitsOf_length]; omega))
  have HST := fun W RB (hr : RdA W RB bo2 ⟨bitsOf zs, 0⟩) (hh : ∀ g off, bo2 = some ⟨g, off, none⟩ → g < W.heap.size) => Lib.hid (cBTake RB bo2 ⟨bitsOf zs, 0⟩ n d W hr hh)
  have hlen := block_len (MR.mk (bitsOf zs) ((8 * zs.length : Nat) : Int) 0) n d
  have hok := block_ok (m := MR.mk (bitsOf zs) ((8 * zs.length : Nat) : Int) 0) (n := n) (d := d)
  have hbz : (bitsOf zs).length = 8 * zs.length := bitsOf_length zs
  obtain ⟨hs1, hs2⟩ := hsim
  generalize (RS.block ⟨bitsOf zs, 0⟩ n d) = sr at HST hs1 hs2
  generalize (MR.block (MR.mk (bitsOf zs) ((8 * zs.length : Nat) : Int) 0) n d) = mr at HMT hs1 hs2 hlen hok
  obtain ⟨s', x, l⟩ := sr
  obtain ⟨m', x2, l2⟩ := mr
  dsimp only at hs1 hs2 hlen hok
  obtain ⟨rfl, rfl⟩ : x = x2 ∧ l = l2 := by simpa using hs2
  have HSM := Lib.hid hs1
  have HOK := Lib.hid hok
  have HLN := Lib.hid hlen
  have HBZ := Lib.hid hbz
  have HBB := Lib.hid hbo3
  clear hs1 hs2 hd hz hbo2 hok hlen hbz hbo3
  generalize hmv : (MR.mk (bitsOf zs) ((8 * zs.length : Nat) : Int) 0).val = mv at HMO HMT
  obtain ⟨mb, al, fl⟩ := m'
  obtain ⟨kind, value, shift, index, lag, gain, part, rice, data⟩ := x
  clear hmv hn
  go_enter Tryz.func4, Tryz.ntmps4
  go_wp2_with fail
  refine (HA _).out.mono ?_
  rintro e w1 ⟨rfl, hb1⟩
  have HB1 := Lib.hid hb1
  clear hb1
  go_wp2_with fail
  refine (HOP _ HB1.out).out.mono ?_
  rintro e w2 ⟨rfl, hr2, hb2⟩
  have hRl := hr2.lt
  have hs1 := HB1.out.size
  have hs2 := hb2.size
  have HB2 : Hid (Below w.heap.size w w2) := HB1.out.trans (hb2.mono HB1.out.size)
  have HS2 := HST w2 w1.heap.size hr2 (fun g off hh => by have := HBB.out g off hh; omega)
  generalize w1.heap.size = RB at *
  clear hr2 hb2 HST HOP
  go_wp2_with fail
  refine HS2.out.mono ?_
  unfold TakeBIs
  dsimp only
  rintro e w3 ⟨ia, ra, da, oa, ic, rc, dc, oc, he, hr3, hI3, ho3, _, _, _, _, _, hk3⟩
  unfold blkV at he
  dsimp only at he
  have HRP : Hid (fl = 0 → ∃ dd : Nat, d = dd ∧ ∀ W, BlkIn W ⟨kind, value, shift, index, lag, gain, part, rice, data⟩ ia ra da ic rc dc → Calls Tryz.prog 11 #[blkV ⟨kind, value, shift, index, lag, gain, part, rice, data⟩ ia ra da ic rc dc, .int .i64 d] W fun e w' => e = .returned (.string (str (bitsB ⟨kind, value, shift, index, lag, gain, part, rice, data⟩ dd))) ∧ Below W.heap.size W w') := fun h0 => by
    obtain ⟨dd, rfl, hc, _⟩ := HOK.out h0
    exact ⟨dd, rfl, fun W hI => rPut10 ⟨kind, value, shift, index, lag, gain, part, rice, data⟩ ia ra da ic rc dc n dd W hc hI⟩
  have HSM10 : Hid (∀ W ja sa ea jc sc ec, BlkIn W ⟨kind, value, shift, index, lag, gain, part, rice, data⟩ ia ra da ic rc dc → BlkIn W ⟨kind, value, shift, index, lag, gain, part, rice, data⟩ ja sa ea jc sc ec → Calls Tryz.prog 18 #[blkV ⟨kind, value, shift, index, lag, gain, part, rice, data⟩ ia ra da ic rc dc, blkV ⟨kind, value, shift, index, lag, gain, part, rice, data⟩ ja sa ea jc sc ec] W fun e w' => e = .returned (.bool true) ∧ Below W.heap.size W w') := fun W ja sa ea jc sc ec h1 h2 => rSame10 ⟨kind, value, shift, index, lag, gain, part, rice, data⟩ ia ra da ja sa ea ic rc dc jc sc ec W h1 h2
  unfold blkV at HRP HSM10
  dsimp only at HRP HSM10
  unfold BTakeIs blkV MR.val at HMT
  dsimp only at HMT
  generalize hie : index.length = il at *
  generalize hqe : rice.length = rl at *
  generalize hde : data.length = dl at *
  generalize hle : l.length = ll at *
  have HIE := Lib.hid hie
  have HQE := Lib.hid hqe
  have HDE := Lib.hid hde
  have HLE := Lib.hid hle
  clear hie hqe hde hle
  subst he
  have hs3 := hk3.size
  have HB3 : Hid (Below w.heap.size w w3) := HB2.out.trans (hk3.below HB2.out.size (by intro x hx; simp at hx; omega))
  have hb4 := box_below w3 (.cells #[.int .i64 kind, .int .i64 value, .int .i64 shift, .slice ia il ic, .int .i64 lag, .int .i64 gain, .int .i64 part, .slice ra rl rc, .slice da dl dc] 24)
  have hX4 := box9_new w3 (.int .i64 kind) (.int .i64 value) (.int .i64 shift) (.slice ia il ic) (.int .i64 lag) (.int .i64 gain) (.int .i64 part) (.slice ra rl rc) (.slice da dl dc) 24
  obtain ⟨w4, hw4⟩ : ∃ w4, w4 = w3.alloc (.cells #[.int .i64 kind, .int .i64 value, .int .i64 shift, .slice ia il ic, .int .i64 lag, .int .i64 gain, .int .i64 part, .slice ra rl rc, .slice da dl dc] 24) := ⟨_, rfl⟩
  rw [← hw4] at hb4 hX4
  have hs4 : w3.heap.size < w4.heap.size := hX4.lt
  have HB4 : Hid (Below w.heap.size w w4) := HB3.out.trans (hb4.mono HB3.out.size)
  have HW4 := Lib.hid hw4
  clear hw4 HS2
  go_wp2_with fail
  rw [← HW4.out]
  refine (HMO _ HB4.out).out.mono ?_
  rintro e w5 ⟨rfl, hb5⟩
  go_wp2_with fail
  refine (HMT _).out.mono ?_
  rintro e w6 ⟨ja, sa, ea, ma, jc, sc, ec, mc, rfl, hJ6, hm6, _, hb6⟩
  have hb46 : Below w4.heap.size w4 w6 := hb5.trans (hb6.mono hb5.size)
  have hs6 := hb46.size
  have HB6 : Hid (Below w.heap.size w w6) := HB4.out.trans (hb46.mono HB4.out.size)
  obtain ⟨st, hst⟩ : ∃ st, st = str mb := ⟨_, rfl⟩
  rw [← hst]
  have hb7 := box_below w6 (.cells #[.string st, .int .i64 al, .int .i64 fl] 50)
  have hn7 := World.alloc_heap_new w6 (.cells #[.string st, .int .i64 al, .int .i64 fl] 50)
  obtain ⟨w7, hw7⟩ : ∃ w7, w7 = w6.alloc (.cells #[.string st, .int .i64 al, .int .i64 fl] 50) := ⟨_, rfl⟩
  rw [← hw7] at hb7 hn7
  have hz7 : w7.heap.size = w6.heap.size + 1 := by rw [hw7]; simp
  have hb8 := box_below w7 (.cells #[.int .i64 kind, .int .i64 value, .int .i64 shift, .slice ja il jc, .int .i64 lag, .int .i64 gain, .int .i64 part, .slice sa rl sc, .slice ea dl ec] 24)
  have hY8 := box9_new w7 (.int .i64 kind) (.int .i64 value) (.int .i64 shift) (.slice ja il jc) (.int .i64 lag) (.int .i64 gain) (.int .i64 part) (.slice sa rl sc) (.slice ea dl ec) 24
  obtain ⟨w8, hw8⟩ : ∃ w8, w8 = w7.alloc (.cells #[.int .i64 kind, .int .i64 value, .int .i64 shift, .slice ja il jc, .int .i64 lag, .int .i64 gain, .int .i64 part, .slice sa rl sc, .slice ea dl ec] 24) := ⟨_, rfl⟩
  rw [← hw8] at hb8 hY8
  have hb68 : Below w6.heap.size w6 w8 := hb7.trans (hb8.mono hb7.size)
  have b48 : Below w4.heap.size w4 w8 := hb46.trans (hb68.mono hs6)
  have b38 : Below w3.heap.size w3 w8 := hb4.trans (b48.mono (by omega))
  have HB8 : Hid (Below w.heap.size w w8) := HB6.out.trans (hb68.mono HB6.out.size)
  have HR8 := Lib.hid (hr3.keeps (keeps_of_below b38 []) (by simp) (by simp))
  have HI8 := Lib.hid (hI3.below b38)
  have HO8 := Lib.hid (ho3.below b38)
  have HJ8 := Lib.hid (hJ6.below hb68)
  have HM8 := Lib.hid (hm6.below hb68)
  have HX8 := Lib.hid (hX4.keeps (keeps_of_below b48 []) (by simp))
  have HY8 := Lib.hid hY8
  rw [hz7] at HY8
  have hlm : w6.heap.size < w7.heap.size := by omega
  have r0 : w8.cell? ⟨w6.heap.size, 0, none⟩ = some (.string st) := (hb8.cell (p := ⟨w6.heap.size, 0, none⟩) hlm).trans (cell_of_heap hn7 0)
  have r2 : w8.cell? ⟨w6.heap.size, 2, none⟩ = some (.int .i64 fl) := (hb8.cell (p := ⟨w6.heap.size, 2, none⟩) hlm).trans (cell_of_heap hn7 2)
  have HW7 := Lib.hid hw7
  have HW8 := Lib.hid hw8
  have HSTR := Lib.hid hst
  have hsz8 : w6.heap.size + 1 < w8.heap.size := HY8.out.lt
  clear hb4 hX4 hb46 hb7 hn7 hb8 hY8 hb68 b48 b38 hr3 hI3 ho3 hJ6 hm6 hw7 hw8 hst hk3 hb5 hb6 HMO HMT
  generalize hBX : w3.heap.size = BX at *
  generalize hBM : w6.heap.size = BM at *
  have KS : Hid (∀ W, Below w8.heap.size w8 W → W.cell? ⟨BX, 0, none⟩ = some (.int .i64 kind) ∧ W.cell? ⟨BX, 1, none⟩ = some (.int .i64 value) ∧ W.cell? ⟨BX, 2, none⟩ = some (.int .i64 shift) ∧ W.cell? ⟨BX, 3, none⟩ = some (.slice ia il ic) ∧ W.cell? ⟨BX, 4, none⟩ = some (.int .i64 lag) ∧ W.cell? ⟨BX, 5, none⟩ = some (.int .i64 gain) ∧ W.cell? ⟨BX, 6, none⟩ = some (.int .i64 part) ∧ W.cell? ⟨BX, 7, none⟩ = some (.slice ra rl rc) ∧ W.cell? ⟨BX, 8, none⟩ = some (.slice da dl dc) ∧ W.cell? ⟨BM + 1, 0, none⟩ = some (.int .i64 kind) ∧ W.cell? ⟨BM + 1, 1, none⟩ = some (.int .i64 value) ∧ W.cell? ⟨BM + 1, 2, none⟩ = some (.int .i64 shift) ∧ W.cell? ⟨BM + 1, 3, none⟩ = some (.slice ja il jc) ∧ W.cell? ⟨BM + 1, 4, none⟩ = some (.int .i64 lag) ∧ W.cell? ⟨BM + 1, 5, none⟩ = some (.int .i64 gain) ∧ W.cell? ⟨BM + 1, 6, none⟩ = some (.int .i64 part) ∧ W.cell? ⟨BM + 1, 7, none⟩ = some (.slice sa rl sc) ∧ W.cell? ⟨BM + 1, 8, none⟩ = some (.slice ea dl ec) ∧ W.cell? ⟨BM, 0, none⟩ = some (.string st) ∧ W.cell? ⟨BM, 2, none⟩ = some (.int .i64 fl)) := fun W hW => by
    have hx := HX8.out.keeps (keeps_of_below hW []) (by simp)
    have hy := HY8.out.keeps (keeps_of_below hW []) (by simp)
    exact ⟨hx.c 0 _ rfl, hx.c 1 _ rfl, hx.c 2 _ rfl, hx.c 3 _ rfl, hx.c 4 _ rfl, hx.c 5 _ rfl, hx.c 6 _ rfl, hx.c 7 _ rfl, hx.c 8 _ rfl, hy.c 0 _ rfl, hy.c 1 _ rfl, hy.c 2 _ rfl, hy.c 3 _ rfl, hy.c 4 _ rfl, hy.c 5 _ rfl, hy.c 6 _ rfl, hy.c 7 _ rfl, hy.c 8 _ rfl, (hW.cell (p := ⟨BM, 0, none⟩) (by show BM < _; omega)).trans r0, (hW.cell (p := ⟨BM, 2, none⟩) (by show BM < _; omega)).trans r2⟩
  have ps := KS.out w8 (Below.refl _ _)
  have HD8 : Hid (Below w8.heap.size w8 w8.drew) := (keeps_drew_b w8 []).below (Nat.le_refl _) (by simp)
  have hfail := aFail RB bo2 s' w8.drew (HR8.out.keeps (keeps_drew_b w8 []) (by simp) (by simp))
  rw [HSM.out.err] at hfail
  dsimp only at hfail
  have HFA := Lib.hid hfail
  have u1 : (fl != fl) = false := by simp
  have HRS : Hid (∀ W, Below w8.heap.size w8 W → Calls Tryz.prog 19 #[.slice oa ll oc, .slice ma ll mc] W fun e w' => e = .returned (.bool true) ∧ ∃ k, w' = W.drewN k) := fun W hW => by
    have := refSame oa ma oc mc l l W (by rw [HLE.out]; have := HLN.out; omega) (HO8.out.below hW) (HM8.out.below hW)
    rw [decide_eq_true rfl, HLE.out] at this
    exact this
  clear hfail
  go_wp2_with fail
  rw [← HW7.out, ← HW8.out]
  go_region_held3 (fun W => W.cell? ⟨BX, 0, none⟩ = some (.int .i64 kind) ∧ W.cell? ⟨BX, 1, none⟩ = some (.int .i64 value) ∧ W.cell? ⟨BX, 2, none⟩ = some (.int .i64 shift) ∧ W.cell? ⟨BX, 3, none⟩ = some (.slice ia il ic) ∧ W.cell? ⟨BX, 4, none⟩ = some (.int .i64 lag) ∧ W.cell? ⟨BX, 5, none⟩ = some (.int .i64 gain) ∧ W.cell? ⟨BX, 6, none⟩ = some (.int .i64 part) ∧ W.cell? ⟨BX, 7, none⟩ = some (.slice ra rl rc) ∧ W.cell? ⟨BX, 8, none⟩ = some (.slice da dl dc) ∧ W.cell? ⟨BM + 1, 0, none⟩ = some (.int .i64 kind) ∧ W.cell? ⟨BM + 1, 1, none⟩ = some (.int .i64 value) ∧ W.cell? ⟨BM + 1, 2, none⟩ = some (.int .i64 shift) ∧ W.cell? ⟨BM + 1, 3, none⟩ = some (.slice ja il jc) ∧ W.cell? ⟨BM + 1, 4, none⟩ = some (.int .i64 lag) ∧ W.cell? ⟨BM + 1, 5, none⟩ = some (.int .i64 gain) ∧ W.cell? ⟨BM + 1, 6, none⟩ = some (.int .i64 part) ∧ W.cell? ⟨BM + 1, 7, none⟩ = some (.slice sa rl sc) ∧ W.cell? ⟨BM + 1, 8, none⟩ = some (.slice ea dl ec) ∧ W.cell? ⟨BM, 0, none⟩ = some (.string st) ∧ W.cell? ⟨BM, 2, none⟩ = some (.int .i64 fl))
    (first | exact ps | exact p0 | exact p1 | fail)
    (first
      | (go_at_call 22; refine HFA.out.mono ?_; rintro e w9 ⟨rfl, rfl⟩)
      | (go_at_call 18; refine (HSM10.out _ ja sa ea jc sc ec (HI8.out.below HD8.out) (HJ8.out.below HD8.out)).mono ?_; rintro e w9 ⟨rfl, hb9⟩; have HB9 : Hid (Below w8.heap.size w8 w9) := HD8.out.trans hb9; have p0 := KS.out w9 HB9.out; clear hb9)
      | (go_at_call 19; refine (HRS.out _ HB9.out).mono ?_; rintro e w10 ⟨rfl, k10, hw10⟩; have HB10 : Hid (Below w8.heap.size w8 w10) := (by rw [hw10]; exact HB9.out.trans ((keeps_drewN w9 k10 []).below HB9.out.size (by simp))); have p1 := KS.out w10 HB10.out; clear hw10)
      | fail)
  all_goals
    obtain ⟨v0, v1, v2, v3, v4, v5, v6, v7, v8, y0, y1, y2, y3, y4, y5, y6, y7, y8, m0, m2⟩ := KS.out w10 HB10.out
    clear ps p0 p1
    by_cases hf : fl = 0
    · have HFL := Lib.hid hf
      have t4 : (fl != 0) = false := by rw [hf]; rfl
      obtain ⟨dd, hdd, hput⟩ := HRP.out hf
      obtain ⟨d2, hd2, _, hbits⟩ := HOK.out hf
      obtain rfl : d2 = dd := by omega
      subst hdd
      have hI10 := HI8.out.below HB10.out
      have hP := hput w10 hI10
      obtain ⟨B, hB⟩ : ∃ B, B = bitsB ⟨kind, value, shift, index, lag, gain, part, rice, data⟩ d2 := ⟨_, rfl⟩
      rw [← hB] at hP hbits
      have hsb : s'.bits = mb := HSM.out.bits hf
      have hbl : B.length + mb.length = 8 * zs.length := by rw [← HBZ.out, hbits, List.length_append]
      have hstz : st.size = mb.length := by rw [HSTR.out, str_size]
      have hcut : (str (bitsOf zs)).extract 0 (str B).size = str B := by rw [str_size, str_extract, hbits]; simp
      have hyz : (str (bitsOf zs)).size = 8 * zs.length := by rw [str_size, HBZ.out]
      have hBz : (str B).size = B.length := str_size B
      obtain ⟨sB, hsB⟩ : ∃ sB, sB = str B := ⟨_, rfl⟩
      obtain ⟨sy, hsy⟩ : ∃ sy, sy = str (bitsOf zs) := ⟨_, rfl⟩
      rw [← hsB] at hP hcut hBz
      rw [← hsy] at hcut hyz
      have u2 : (sB.toList == (sy.extract 0 sB.size).toList) = true := by rw [hcut, beq_self_eq_true]
      have u3 : ((mb.length : Int) == (st.size : Int)) = true := by rw [hstz]; simp
      have HU : Hid ((sB.size : Int) = 8 * (zs.length : Int) - (mb.length : Int)) := by show _ = _; rw [hBz]; omega
      have hx1 : sB.size ≤ sy.size := by omega
      have hx2 : sy.size ≤ 8000 := by omega
      have hx3 : st.size ≤ 8000 := by omega
      have hx4 : mb.length ≤ 8 * zs.length := by omega
      have hx5 : zs.length ≤ 200 := h
      have HP := Lib.hid hP
      have HSY := Lib.hid hsy
      have HSBI := Lib.hid hsb
      clear hput hd2 hbits hB hbl hstz hcut hyz hBz hsB hsy hf hP hI10 hsb
      go_wp2_with fail
      refine HP.out.mono ?_
      rintro e w11 ⟨rfl, hb11⟩
      have HB11 : Hid (Below w8.heap.size w8 w11) := HB10.out.trans (hb11.mono HB10.out.size)
      clear hb11
      have HR11 : Hid (∀ W, Below w11.heap.size w11 W → RdA W RB bo2 s') := fun W hW => HR8.out.keeps (keeps_of_below (HB11.out.trans (hW.mono HB11.out.size)) []) (by simp) (by simp)
      have HLF : Hid (∀ W, Below w11.heap.size w11 W → Calls Tryz.prog 23 #[.pointer (some ⟨RB, 0, none⟩)] W fun e w' => e = .returned (.int .i64 (mb.length : Int)) ∧ Below w11.heap.size w11 w') := fun W hW => (aLeft RB bo2 s' W (HR11.out W hW)).mono (by
        rintro e w' ⟨rfl, k, rfl⟩
        exact ⟨by rw [HSBI.out], hW.trans ((keeps_drewN W k []).below hW.size (by simp))⟩)
      have HDW : Hid (Below w11.heap.size w11 w11.drew) := (keeps_drew_b w11 []).below (Nat.le_refl _) (by simp)
      have HMC : Hid (∀ W, Below w11.heap.size w11 W → W.cell? ⟨BM, 0, none⟩ = some (.string st)) := fun W hW => (KS.out W (HB11.out.trans (hW.mono HB11.out.size))).2.2.2.2.2.2.2.2.2.2.2.2.2.2.2.2.2.2.1
      have HBI : Hid (∀ W, Below w11.heap.size w11 W → Calls Tryz.prog 24 #[.slice bo zs.length cap] W fun e w' => e = .returned (.string sy) ∧ Below w11.heap.size w11 w') := fun W hW => (HRB W ((HB8.out.trans (HB11.out.mono HB8.out.size)).trans (hW.mono (HB8.out.trans (HB11.out.mono HB8.out.size)).size))).out.mono (by
        rintro e w' ⟨rfl, hb⟩
        exact ⟨by rw [← HSY.out], hW.trans (hb.mono hW.size)⟩)
      have c0 := HMC.out w11 (Below.refl _ _)
      go_wp2_with fail
      go_region_held3 (fun W => W.cell? ⟨BM, 0, none⟩ = some (.string st))
        (first | exact c0 | exact c1 | exact c2 | exact c3 | fail)
        (first
          | (go_at_call 24; refine (HBI.out _ HB12.out).mono ?_; rintro e w13 ⟨rfl, hb13⟩; have HB13 := Lib.hid hb13; have c2 := HMC.out w13 hb13; clear hb13)
          | (go_at_call 23; refine (HLF.out _ HDW.out).mono ?_; rintro e w12 ⟨rfl, hb12⟩; have HB12 := Lib.hid hb12; have c1 := HMC.out w12 hb12; clear hb12)
          | (go_at_call 23; refine (HLF.out _ HB13.out).mono ?_; rintro e w14 ⟨rfl, hb14⟩; have HB14 := Lib.hid hb14; have c3 := HMC.out w14 hb14; clear hb14)
          | fail)
      all_goals
        go_wp2
        go_ret
        refine ⟨?_, HB8.out.trans ((HB11.out.trans (HB14.out.mono HB11.out.size)).mono HB8.out.size)⟩
        simp [go_sem]
        rw [IntWalk.i64_in (8 * (zs.length : Int)) (by omega), IntWalk.i64_in _ (by omega)]
        exact HU.out
    · have t4 : (fl != 0) = true := bne_iff_ne.2 hf
      clear hf
      go_wp2
      go_ret
      exact ⟨rfl, HB8.out.trans (HB10.out.mono HB8.out.size)⟩
/-- The law of Take. -/
theorem blockTakes (bo : Option Addr) (cap len : Nat) (n d : Int) (w : World) (hz : len ≤ 200 → ∃ zs : List Nat, zs.length = len ∧ (∀ z ∈ zs, z < 256) ∧ BytesAt w bo zs) :
    Calls Tryz.prog 4 #[.slice bo len cap, .int .i64 n, .int .i64 d] w fun e w' => e = .returned (.bool true) ∧ Below w.heap.size w w' := by
  by_cases hl : len ≤ 200
  · by_cases hn : n ≤ 64
    · obtain ⟨zs, rfl, h1, h2⟩ := hz hl
      exact takes10_few bo cap zs n d w h1 h2 hl hn
    · exact takes10_much bo cap len n d w (Or.inr ⟨hl, by omega⟩)
  · exact takes10_much bo cap len n d w (Or.inl hl)
end Go.Proofs.YtefbakhhlonafaaGreat
end

section
namespace Go.Proofs.YtefbakhhlonafaaGreat.blockTakes
open Go.ChangeShapes Go.WideShapes Go.ChangeAt Go.RowKit Go.Proofs.BlkM Go.Proofs.BlkB
set_option linter.unusedVariables false

theorem own : ownKnob Tryz.prog.godebug = none := by kernel_rfl
theorem laidOut : laidOutB Tryz.prog = true := by kernel_rfl

theorem walk (a0 : Option Addr) (len0 cap0 : Nat) (z0 : List Int) (a1 : Int) (a2 : Int) (w : World) (w0 : IsRow .u8 w a0 len0 cap0 z0) (w1 : (Lit.int .i64 a1).wf = true) (w2 : (Lit.int .i64 a2).wf = true) :
    Calls Tryz.prog 4 #[.slice a0 len0 cap0, .int .i64 a1, .int .i64 a2] w fun e w' => e = .returned (.bool true) ∧ Below w.heap.size w w' := by
  refine blockTakes a0 cap0 len0 a1 a2 w (fun hl => ?_)
  obtain ⟨zs, rfl, hz, hd⟩ := bytes_of_row w0
  exact ⟨zs, rfl, hz, hd⟩

set_option maxRecDepth 100000 in
theorem lifted (os : Os) (started : os.Started) (H : Type) (enc : TypeId × Value → H) :
    ReturnsInHanded {} Tryz.checked os 4 .any (Rows.blockTakesSpec.pre6 enc Tryz.prog Tryz.f4 Rows.blockTakesRow.domain false) (Rows.blockTakesSpec.post enc Tryz.prog Tryz.f4 false true false false) := by
  refine returnsInHanded_of_change (C := Tryz.checked) own started (by kernel_rfl) Tryz.func4
    (ChangeSpec.witness6 (enc := enc) (C := Tryz.checked) false ⟨#[], #[.slice none 0 0, .int .i64 0, .int .i64 0], []⟩ 8 (by kernel_rfl) (by kernel_rfl) (by kernel_rfl) (by kernel_rfl)) ?_
  intro W base args ds gs before hval0 hW hcnd _
  have hval : ∀ (j : Nat) t v, Tryz.f4.params[j]? = some t → args[j]? = some v → Value.okWide Tryz.prog W .any base t v := hval0
  have hW' := hW
  obtain ⟨p, q, hA0, hV, rfl, hfz, hnd⟩ := hW
  have hA : DataW.TrodAll enc Tryz.prog W 0 (fun _ => true) true Tryz.f4.params.toList args.toList ds p := hA0
  rw [Tryz.params4] at hA hval
  obtain ⟨v0, vs0, d0, ds0, p0, q0, hargs, rfl, rfl, h0, r0⟩ := trodAll_cons hA
  obtain ⟨v1, vs1, d1, ds1, p1, q1, rfl, rfl, rfl, h1, r1⟩ := trodAll_cons r0
  obtain ⟨v2, vs2, d2, ds2, p2, q2, rfl, rfl, rfl, h2, r2⟩ := trodAll_cons r1
  obtain ⟨rfl, rfl, rfl⟩ := trodAll_nil r2
  obtain rfl : args = #[v0, v1, v2] := by cases args; simp_all
  obtain ⟨rfl, rfl⟩ := trodVars_none hV
  obtain ⟨a0, len0, cap0, rfl⟩ := okWide_slice Tryz.underlying29 (hval 0 29 v0 rfl rfl)
  have k0 := h0
  have lt0 : ∀ x ∈ p0, x.block < W.heap.size := by obtain ⟨m, hm⟩ := k0; exact DataW.trod_lt m _ _ _ hm
  obtain ⟨z0, w0⟩ : ∃ zs, IsRow .u8 W a0 len0 cap0 zs := by
    obtain ⟨fuel, hf⟩ := h0
    rcases open_ints Tryz.underlying29 Tryz.underlying5 (by kernel_rfl) hf with ⟨hcs, _⟩ | ⟨x, l, c, zs, hcs, _, hl, hm, hz, _, hcell, hwz⟩
    · simp [Value.cells] at hcs
      obtain ⟨rfl, rfl, rfl⟩ := hcs
      exact ⟨[], .inl ⟨rfl, rfl, rfl, rfl⟩⟩
    · simp [Value.cells] at hcs
      obtain ⟨rfl, rfl, rfl⟩ := hcs
      exact ⟨zs, .inr ⟨_, rfl, hl, hm, by simpa using hz, hcell, hwz⟩⟩
  obtain ⟨a1, rfl, rfl, rfl, w1⟩ := open_int Tryz.underlying3 (hval 1 3 v1 rfl rfl) h1
  obtain ⟨a2, rfl, rfl, rfl, w2⟩ := open_int Tryz.underlying3 (hval 2 3 v2 rfl rfl) h2
  clear hA0 hval0
  refine (walk a0 len0 cap0 z0 a1 a2 W w0 w1 w2).mono fun e W' ⟨he, bel⟩ => ?_
  subst he
  exact ⟨_, rfl, _, _, _, [], _, [], hW', trodAll_mk1 (shut_bool Tryz.underlying4 _), (trodAll_cons_mk (Below.trod laidOut (by kernel_rfl) (of_decide_eq_true (by kernel_rfl)) k0 bel lt0) (trodAll_cons_mk (shut_int Tryz.underlying3 w1) (trodAll_cons_mk (shut_int Tryz.underlying3 w2) trodAll_mk0))), rfl, bel.frame _, fun h => by cases h⟩

theorem over : Rows.blockTakesRow.holds Tryz.pinned (OpenSpec.ofChange Rows.blockTakesSpec) :=
  OpenClaim.holds_of_wide 4 Tryz.f4 rfl rfl rfl rfl rfl rfl rfl ⟨rfl, rfl, rfl, rfl, rfl⟩ rfl rfl rfl rfl rfl (by kernel_rfl) Tryz.func4 (by kernel_rfl)
    (of_decide_eq_true (by kernel_rfl)) (by unfold Func.isWrapper; first | (rw [if_pos (by decide +kernel)]; kernel_rfl) | (rw [if_neg (by decide +kernel)]; exact ⟨rfl, rfl⟩))
    (fun os started H enc _ => lifted os started H enc)

theorem proved : Rows.BlockTakesSaid := over
end Go.Proofs.YtefbakhhlonafaaGreat.blockTakes
end
