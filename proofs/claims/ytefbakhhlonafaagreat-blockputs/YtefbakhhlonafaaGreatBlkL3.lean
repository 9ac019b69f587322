import Derived.Test.YtefbakhhlonafaaGreatBlkH2
import Derived.Test.YtefbakhhlonafaaGreatBlkR1
import Derived.Test.YtefbakhhlonafaaGreatBlkP4
import Derived.Test.YtefbakhhlonafaaGreatBlkG4
import Derived.Test.YtefbakhhlonafaaGreatBlkT6
import Derived.Test.YtefbakhhlonafaaGreatSlideC4
import Derived.Test.YtefbakhhlonafaaGreatLawS6

namespace Go.Proofs.YtefbakhhlonafaaGreat
open Go.RowKit Go.Proofs Go.Proofs.PipeM Go.Proofs.PipeA Go.Proofs.BlkM Go.Proofs.BlkB
set_option maxRecDepth 100000

set_option maxHeartbeats 1600000 in
/-- Where the law asks nothing. -/
theorem puts10_much (kind value shift lag gain part : Int) (ia ra da : Option Addr) (il ic rl rc dl dc : Nat) (n d : Int) (w : World) (h : (decide (il ≤ 24) && decide (rl ≤ 12) && decide (dl ≤ 64)) = false ∨ ((decide (il ≤ 24) && decide (rl ≤ 12) && decide (dl ≤ 64)) = true ∧ decide (64 < n) = true)) :
    Calls Tryz.prog 3 #[.agg #[.int .i64 kind, .int .i64 value, .int .i64 shift, .slice ia il ic, .int .i64 lag, .int .i64 gain, .int .i64 part, .slice ra rl rc, .slice da dl dc], .int .i64 n, .int .i64 d] w fun e w' => e = .returned (.bool true) ∧ Below w.heap.size w w' := by
  have HB : Hid (∀ o, Below w.heap.size w (w.alloc o)) := fun o => box_below w o
  have HAW := fun W => Lib.hid (awake10 W)
  have HFW := fun W => Lib.hid (cFew10 kind value shift lag gain part ia ra da il ic rl rc dl dc W)
  have K : Hid (∀ (W : World) (o : Array Value), Below (w.heap.size + 1) (w.alloc (.cells o 24)) W → ∀ j v, o[j]? = some v → W.cell? ⟨w.heap.size, j, none⟩ = some v) := fun W o hW j v hj => by
    rw [hW.cell (p := ⟨w.heap.size, j, none⟩) (by simp), cell_of_heap (World.alloc_heap_new w _)]
    exact hj
  generalize (decide (il ≤ 24) && decide (rl ≤ 12) && decide (dl ≤ 64)) = fw at *
  have go : ∀ fw', fw = fw' → (fw' = false ∨ (fw' = true ∧ decide (64 < n) = true)) → Calls Tryz.prog 3 #[.agg #[.int .i64 kind, .int .i64 value, .int .i64 shift, .slice ia il ic, .int .i64 lag, .int .i64 gain, .int .i64 part, .slice ra rl rc, .slice da dl dc], .int .i64 n, .int .i64 d] w fun e w' => e = .returned (.bool true) ∧ Below w.heap.size w w' := by
    intro fw' hfw h
    subst hfw
    rcases h with rfl | ⟨rfl, t1⟩
    all_goals
      go_enter Tryz.func3, Tryz.ntmps3
      go_wp2_with fail
      refine (HAW _).out.mono ?_
      rintro e w1 ⟨rfl, hb1⟩
      have hb' := hb1.mono (show w.heap.size + 1 ≤ _ by simp)
      have k0 := K.out w1 _ hb' 0 (.int .i64 kind) rfl
      have k1 := K.out w1 _ hb' 1 (.int .i64 value) rfl
      have k2 := K.out w1 _ hb' 2 (.int .i64 shift) rfl
      have k3 := K.out w1 _ hb' 3 (.slice ia il ic) rfl
      have k4 := K.out w1 _ hb' 4 (.int .i64 lag) rfl
      have k5 := K.out w1 _ hb' 5 (.int .i64 gain) rfl
      have k6 := K.out w1 _ hb' 6 (.int .i64 part) rfl
      have k7 := K.out w1 _ hb' 7 (.slice ra rl rc) rfl
      have k8 := K.out w1 _ hb' 8 (.slice da dl dc) rfl
      have HB1 : Hid (Below w.heap.size w w1) := (HB.out _).trans (hb1.mono (by simp))
      clear hb1 hb'
      go_wp2_with fail
      refine (HFW _).out.mono ?_
      rintro e w2 ⟨rfl, hb2⟩
      have HB2 : Hid (Below w.heap.size w w2) := HB1.out.trans (hb2.mono HB1.out.size)
      clear hb2 k0 k1 k2 k3 k4 k5 k6 k7 k8
      go_wp2_with fail
      refine (HAW _).out.mono ?_
      rintro e w3 ⟨rfl, hb3⟩
      have HB3 : Hid (Below w.heap.size w w3) := HB2.out.trans (hb3.mono HB2.out.size)
      clear hb3
      go_wp2
      go_ret
      exact ⟨rfl, HB3.out⟩
  exact go fw rfl h


set_option maxHeartbeats 6400000 in
theorem puts10_few (b : Blk) (ia ra da : Option Addr) (ic rc dc : Nat) (n d : Int) (w : World) (hI : BlkIn w b ia ra da ic rc dc) (hw : Wf9 b) (hf : (decide (b.index.length ≤ 24) && decide (b.rice.length ≤ 12) && decide (b.data.length ≤ 64)) = true) (hn : n ≤ 64) :
    Calls Tryz.prog 3 #[blkV b ia ra da ic rc dc, .int .i64 n, .int .i64 d] w fun e w' => e = .returned (.bool true) ∧ Below w.heap.size w w' := by
  have HAW := fun W => Lib.hid (awake10 W)
  obtain ⟨kind, value, shift, index, lag, gain, part, rice, data⟩ := b
  have HFW := fun W => Lib.hid (cFew10 kind value shift lag gain part ia ra da index.length ic rice.length rc data.length dc W)
  dsimp only at hf
  rw [hf] at HFW
  have hd64 : data.length ≤ 64 := by
    simp only [Bool.and_eq_true, decide_eq_true_eq] at hf
    exact hf.2
  obtain ⟨W0, hW0⟩ : ∃ W0, W0 = w.alloc (.cells #[.int .i64 kind, .int .i64 value, .int .i64 shift, .slice ia index.length ic, .int .i64 lag, .int .i64 gain, .int .i64 part, .slice ra rice.length rc, .slice da data.length dc] 24) := ⟨_, rfl⟩
  have hb0 := box_below w (.cells #[.int .i64 kind, .int .i64 value, .int .i64 shift, .slice ia index.length ic, .int .i64 lag, .int .i64 gain, .int .i64 part, .slice ra rice.length rc, .slice da data.length dc] 24)
  have hn0 := World.alloc_heap_new w (.cells #[.int .i64 kind, .int .i64 value, .int .i64 shift, .slice ia index.length ic, .int .i64 lag, .int .i64 gain, .int .i64 part, .slice ra rice.length rc, .slice da data.length dc] 24)
  rw [← hW0] at hb0 hn0
  have hI0 := hI.below hb0
  have HIA := Lib.hid hI
  have HI0 := Lib.hid hI0
  have HWF := Lib.hid hw
  have HC2 : Hid (∀ W, Below W0.heap.size W0 W → Calls Tryz.prog 7 #[blkV ⟨kind, value, shift, index, lag, gain, part, rice, data⟩ ia ra da ic rc dc, .int .i64 n, .int .i64 d] W (SampIs (codeB ⟨kind, value, shift, index, lag, gain, part, rice, data⟩ n d) (outB ⟨kind, value, shift, index, lag, gain, part, rice, data⟩ n.toNat) W)) := fun W hW => rSamples10 ⟨kind, value, shift, index, lag, gain, part, rice, data⟩ ia ra da ic rc dc n d W (hI0.below hW)
  have K : Hid (∀ W, Below W0.heap.size W0 W → ∀ j v, (#[.int .i64 kind, .int .i64 value, .int .i64 shift, .slice ia index.length ic, .int .i64 lag, .int .i64 gain, .int .i64 part, .slice ra rice.length rc, .slice da data.length dc] : Array Value)[j]? = some v → W.cell? ⟨w.heap.size, j, none⟩ = some v) := fun W hW j v hj => by
    rw [hW.cell (p := ⟨w.heap.size, j, none⟩) (Array.getElem?_eq_some_iff.1 hn0).1, cell_of_heap hn0]
    exact hj
  have t1 : decide (64 < n) = false := decide_eq_false (by omega)
  have HW0 := Lib.hid hW0
  have HB0 := Lib.hid hb0
  have hsz0 : w.heap.size < W0.heap.size := (Array.getElem?_eq_some_iff.1 hn0).1
  have HD64 := Lib.hid hd64
  clear hI hw hf hn hW0 hb0 hn0 hI0 hd64
  have KA : Hid (∀ W, Below W0.heap.size W0 W → W.cell? ⟨w.heap.size, 0, none⟩ = some (.int .i64 kind) ∧ W.cell? ⟨w.heap.size, 1, none⟩ = some (.int .i64 value) ∧ W.cell? ⟨w.heap.size, 2, none⟩ = some (.int .i64 shift) ∧ W.cell? ⟨w.heap.size, 3, none⟩ = some (.slice ia index.length ic) ∧ W.cell? ⟨w.heap.size, 4, none⟩ = some (.int .i64 lag) ∧ W.cell? ⟨w.heap.size, 5, none⟩ = some (.int .i64 gain) ∧ W.cell? ⟨w.heap.size, 6, none⟩ = some (.int .i64 part) ∧ W.cell? ⟨w.heap.size, 7, none⟩ = some (.slice ra rice.length rc) ∧ W.cell? ⟨w.heap.size, 8, none⟩ = some (.slice da data.length dc)) := fun W h => ⟨K.out W h 0 _ rfl, K.out W h 1 _ rfl, K.out W h 2 _ rfl, K.out W h 3 _ rfl, K.out W h 4 _ rfl, K.out W h 5 _ rfl, K.out W h 6 _ rfl, K.out W h 7 _ rfl, K.out W h 8 _ rfl⟩
  by_cases hcd : codeB ⟨kind, value, shift, index, lag, gain, part, rice, data⟩ n d = 0
  rotate_left
  · -- not right
    have HPU : Hid (∀ W, Below W0.heap.size W0 W → ∀ b, Calls Tryz.prog 8 #[.pointer (some ⟨b, 0, none⟩), blkV ⟨kind, value, shift, index, lag, gain, part, rice, data⟩ ia ra da ic rc dc, .int .i64 n, .int .i64 d] W fun e w' => e = .returned (.bool false) ∧ Below W.heap.size W w') := fun W hW b => cPut10_no b ⟨kind, value, shift, index, lag, gain, part, rice, data⟩ ia ra da ic rc dc n d W (HI0.out.below hW) HWF.out hcd
    have HBI : Hid (∀ W, Below W0.heap.size W0 W → Calls Tryz.prog 9 #[blkV ⟨kind, value, shift, index, lag, gain, part, rice, data⟩ ia ra da ic rc dc, .int .i64 n, .int .i64 d] W fun e w' => e = .returned (.int .i64 0) ∧ Below W.heap.size W w') := fun W hW => cBits10_no ⟨kind, value, shift, index, lag, gain, part, rice, data⟩ ia ra da ic rc dc n d W (HI0.out.below hW) HWF.out hcd
    unfold blkV at HC2 HPU HBI ⊢
    dsimp only at HC2 HPU HBI ⊢
    generalize codeB ⟨kind, value, shift, index, lag, gain, part, rice, data⟩ n d = cd at *
    generalize outB ⟨kind, value, shift, index, lag, gain, part, rice, data⟩ n.toNat = O at *
    have u1 : (cd == 0) = false := beq_eq_false_iff_ne.2 hcd
    have u2 : (cd != 0) = true := bne_iff_ne.2 hcd
    have HN := Lib.hid hcd
    clear hcd HIA HI0 HD64 K
    generalize index.length = il at *
    generalize rice.length = rl at *
    generalize data.length = dl at *
    go_enter Tryz.func3, Tryz.ntmps3
    go_wp2_with fail
    rw [← HW0.out]
    refine (HAW _).out.mono ?_
    rintro e w1 ⟨rfl, hb1⟩
    have HB1 := Lib.hid hb1
    obtain ⟨k0, k1, k2, k3, k4, k5, k6, k7, k8⟩ := KA.out w1 hb1
    clear hb1
    go_wp2_with fail
    refine (HFW _).out.mono ?_
    rintro e w2 ⟨rfl, hb2⟩
    have HB2 : Hid (Below W0.heap.size W0 w2) := HB1.out.trans (hb2.mono HB1.out.size)
    clear hb2 k0 k1 k2 k3 k4 k5 k6 k7 k8
    obtain ⟨k0, k1, k2, k3, k4, k5, k6, k7, k8⟩ := KA.out w2 HB2.out
    go_wp2_with fail
    refine (HC2.out w2 HB2.out).mono ?_
    rintro e w3 h3
    obtain ⟨_, rfl, hb3⟩ := h3.resolve_right (fun h => HN.out h.1)
    have HB3 : Hid (Below W0.heap.size W0 w3) := HB2.out.trans (hb3.mono HB2.out.size)
    clear h3 hb3 k0 k1 k2 k3 k4 k5 k6 k7 k8
    obtain ⟨W4, hW4⟩ : ∃ W4, W4 = w3.alloc (.cells #[.slice none 0 0, .int .i64 0] 31) := ⟨_, rfl⟩
    have hb4 := box_below w3 (.cells #[.slice none 0 0, .int .i64 0] 31)
    have hwf4 := wr_fresh w3
    rw [← hW4] at hb4 hwf4
    have HB4 : Hid (Below W0.heap.size W0 W4) := HB3.out.trans (hb4.mono HB3.out.size)
    have HW4 := Lib.hid hW4
    have HWF4 := Lib.hid hwf4
    have q : ∀ j v, W4.cell? ⟨w.heap.size, j, none⟩ = some v → (w3.alloc (.cells #[.slice none 0 0, .int .i64 0] 31)).cell? ⟨w.heap.size, j, none⟩ = some v := fun j v h => by rw [← HW4.out]; exact h
    have HQ := Lib.hid q
    obtain ⟨m0, m1, m2, m3, m4, m5, m6, m7, m8⟩ := KA.out W4 HB4.out
    have k0 := HQ.out _ _ m0
    have k1 := HQ.out _ _ m1
    have k2 := HQ.out _ _ m2
    have k3 := HQ.out _ _ m3
    have k4 := HQ.out _ _ m4
    have k5 := HQ.out _ _ m5
    have k6 := HQ.out _ _ m6
    have k7 := HQ.out _ _ m7
    have k8 := HQ.out _ _ m8
    clear hb4 hwf4 hW4 q m0 m1 m2 m3 m4 m5 m6 m7 m8
    go_wp2_with fail
    rw [← HW4.out]
    refine (HPU.out W4 HB4.out _).mono ?_
    rintro e w5 ⟨rfl, hb5⟩
    have HB5 : Hid (Below W0.heap.size W0 w5) := HB4.out.trans (hb5.mono HB4.out.size)
    have HW5 := Lib.hid (HWF4.out.keeps (keeps_of_below hb5 []) (by simp) (by simp))
    clear hb5 k0 k1 k2 k3 k4 k5 k6 k7 k8
    obtain ⟨k0, k1, k2, k3, k4, k5, k6, k7, k8⟩ := KA.out w5 HB5.out
    go_wp2_with fail
    refine (HBI.out w5 HB5.out).mono ?_
    rintro e w6 ⟨rfl, hb6⟩
    have HB6 : Hid (Below W0.heap.size W0 w6) := HB5.out.trans (hb6.mono HB5.out.size)
    have HW6 := Lib.hid (HW5.out.keeps (keeps_of_below hb6 []) (by simp) (by simp))
    clear hb6 k0 k1 k2 k3 k4 k5 k6 k7 k8
    go_wp2_with fail
    refine (wLen _ _ _ HW6.out.c1).mono ?_
    rintro e w7 ⟨rfl, rfl⟩
    go_wp2_with fail
    refine (wLen _ _ _ HW6.out.c1).mono ?_
    rintro e w7 ⟨rfl, rfl⟩
    have HF : Hid (Below w.heap.size w w6) := HB0.out.trans (HB6.out.mono HB0.out.size)
    go_wp2
    go_ret
    exact ⟨rfl, HF.out⟩
  · obtain ⟨k, m, rfl, rfl, hk1, hk, hm1, hm2, _⟩ := right_of hcd
    have hbl := bits_few hcd HD64.out
    have hoff : ∀ {ao : Option Addr} {l : List Int}, IntsAt w ao l → ∀ b, w.heap.size ≤ b → ∀ h off, 0 < l.length → ao = some ⟨h, off, none⟩ → Off b (.slice none 0 0) h := fun hi b hb h off h0 e => by
      have := ints_lt hi h0 e
      simp [Off, Value.ownBlock]
      omega
    have HPU : Hid (∀ W, Below W0.heap.size W0 W → ∀ b, w.heap.size ≤ b → WrIs W b (.slice none 0 0) [] [] → Calls Tryz.prog 8 #[.pointer (some ⟨b, 0, none⟩), blkV ⟨kind, value, shift, index, lag, gain, part, rice, data⟩ ia ra da ic rc dc, .int .i64 k, .int .i64 m] W (Puts W b (.slice none 0 0) true (bitsB ⟨kind, value, shift, index, lag, gain, part, rice, data⟩ m))) := fun W hW b hb hwr => by
      have := cPut10 b (.slice none 0 0) [] [] ⟨kind, value, shift, index, lag, gain, part, rice, data⟩ ia ra da ic rc dc k m W hcd (by simp) HWF.out hwr (HI0.out.below hW) (hoff HIA.out.i b hb) (hoff HIA.out.r b hb) (hoff HIA.out.d b hb)
      rw [List.nil_append] at this
      exact this
    have HBI : Hid (∀ W, Below W0.heap.size W0 W → Calls Tryz.prog 9 #[blkV ⟨kind, value, shift, index, lag, gain, part, rice, data⟩ ia ra da ic rc dc, .int .i64 k, .int .i64 m] W fun e w' => e = .returned (.int .i64 ((bitsB ⟨kind, value, shift, index, lag, gain, part, rice, data⟩ m).length : Int)) ∧ Below W.heap.size W w') := fun W hW => cBits10 ⟨kind, value, shift, index, lag, gain, part, rice, data⟩ ia ra da ic rc dc k m W hcd HWF.out (HI0.out.below hW)
    have HRP : Hid (∀ W, Below W0.heap.size W0 W → Calls Tryz.prog 11 #[blkV ⟨kind, value, shift, index, lag, gain, part, rice, data⟩ ia ra da ic rc dc, .int .i64 m] W fun e w' => e = .returned (.string (str (bitsB ⟨kind, value, shift, index, lag, gain, part, rice, data⟩ m))) ∧ Below W.heap.size W w') := fun W hW => rPut10 ⟨kind, value, shift, index, lag, gain, part, rice, data⟩ ia ra da ic rc dc k m W hcd (HI0.out.below hW)
    have HRB : Hid (∀ W, Below W0.heap.size W0 W → Calls Tryz.prog 12 #[blkV ⟨kind, value, shift, index, lag, gain, part, rice, data⟩ ia ra da ic rc dc, .int .i64 m] W fun e w' => e = .returned (.int .i64 ((bitsB ⟨kind, value, shift, index, lag, gain, part, rice, data⟩ m).length : Nat)) ∧ Below W.heap.size W w') := fun W hW => rBits10 ⟨kind, value, shift, index, lag, gain, part, rice, data⟩ ia ra da ic rc dc k m W hcd (HI0.out.below hW)
    have HTK : Hid (∀ rest, RS.block ⟨bitsB ⟨kind, value, shift, index, lag, gain, part, rice, data⟩ m ++ rest, 0⟩ k m = (⟨rest, 0⟩, ⟨kind, value, shift, index, lag, gain, part, rice, data⟩, outB ⟨kind, value, shift, index, lag, gain, part, rice, data⟩ k)) := fun rest => block_taken hcd rest
    have hol : (outB ⟨kind, value, shift, index, lag, gain, part, rice, data⟩ k).length ≤ 1024 := by
      obtain ⟨k', m', hk', hm', _, _, _, _, hff, _⟩ := right_of hcd
      obtain rfl : k = k' := by omega
      rw [outB_len hff]; exact hk
    have HSM : Hid (∀ W ja sa ea jc sc ec, BlkIn W ⟨kind, value, shift, index, lag, gain, part, rice, data⟩ ja sa ea jc sc ec → Below W0.heap.size W0 W → Calls Tryz.prog 18 #[blkV ⟨kind, value, shift, index, lag, gain, part, rice, data⟩ ja sa ea jc sc ec, blkV ⟨kind, value, shift, index, lag, gain, part, rice, data⟩ ia ra da ic rc dc] W fun e w' => e = .returned (.bool true) ∧ Below W.heap.size W w') := fun W ja sa ea jc sc ec hJ hW => rSame10 ⟨kind, value, shift, index, lag, gain, part, rice, data⟩ ja sa ea ia ra da jc sc ec ic rc dc W hJ (HI0.out.below hW)
    rw [hcd, show ((k : Int)).toNat = k from rfl] at HC2
    clear K hcd
    unfold blkV at HC2 HPU HBI HRP HRB HSM ⊢
    dsimp only at HC2 HPU HBI HRP HRB HSM ⊢
    generalize hB : bitsB ⟨kind, value, shift, index, lag, gain, part, rice, data⟩ m = B at *
    generalize outB ⟨kind, value, shift, index, lag, gain, part, rice, data⟩ k = O at *
    generalize hie : index.length = il at *
    generalize hqe : rice.length = rl at *
    generalize hde : data.length = dl at *
    have HIE := Lib.hid hie
    have HQE := Lib.hid hqe
    have HDE := Lib.hid hde
    have HOL := Lib.hid hol
    have t2 : ((k : Int) != (k : Int)) = false := by simp
    clear hB hie hqe hde hol hk1 hk hm1 hm2 HI0 HD64 hoff t2
    go_enter Tryz.func3, Tryz.ntmps3
    go_wp2_with fail
    rw [← HW0.out]
    refine (HAW _).out.mono ?_
    rintro e w1 ⟨rfl, hb1⟩
    have HB1 := Lib.hid hb1
    obtain ⟨k0, k1, k2, k3, k4, k5, k6, k7, k8⟩ := KA.out w1 hb1
    clear hb1
    go_wp2_with fail
    refine (HFW _).out.mono ?_
    rintro e w2 ⟨rfl, hb2⟩
    have HB2 : Hid (Below W0.heap.size W0 w2) := HB1.out.trans (hb2.mono HB1.out.size)
    clear hb2 k0 k1 k2 k3 k4 k5 k6 k7 k8
    obtain ⟨k0, k1, k2, k3, k4, k5, k6, k7, k8⟩ := KA.out w2 HB2.out
    go_wp2_with fail
    refine (HC2.out w2 HB2.out).mono ?_
    rintro e w3 h3
    obtain ⟨_, oa, oc, he, ho3, hoc, hb3, _⟩ := h3.resolve_left (fun h => h.1 rfl)
    generalize hoe : O.length = ol at *
    have HOE := Lib.hid hoe
    subst he
    have HB3 : Hid (Below W0.heap.size W0 w3) := HB2.out.trans (hb3.mono HB2.out.size)
    have HO3 := Lib.hid ho3
    clear h3 hb3 k0 k1 k2 k3 k4 k5 k6 k7 k8 hoe ho3
    obtain ⟨W4, hW4⟩ : ∃ W4, W4 = w3.alloc (.cells #[.slice none 0 0, .int .i64 0] 31) := ⟨_, rfl⟩
    have hb4 := box_below w3 (.cells #[.slice none 0 0, .int .i64 0] 31)
    have hwf4 := wr_fresh w3
    rw [← hW4] at hb4 hwf4
    have HB4 : Hid (Below W0.heap.size W0 W4) := HB3.out.trans (hb4.mono HB3.out.size)
    have HO4 := Lib.hid (HO3.out.below hb4)
    have HW4 := Lib.hid hW4
    have hz3 : W0.heap.size ≤ w3.heap.size := HB3.out.size
    have HPU4 := Lib.hid (HPU.out W4 HB4.out w3.heap.size (by omega) hwf4)
    have HQ : Hid (∀ j v, W4.cell? ⟨w.heap.size, j, none⟩ = some v → (w3.alloc (.cells #[.slice none 0 0, .int .i64 0] 31)).cell? ⟨w.heap.size, j, none⟩ = some v) := fun j v h => by rw [← HW4.out]; exact h
    obtain ⟨m0, m1, m2, m3, m4, m5, m6, m7, m8⟩ := KA.out W4 HB4.out
    have k0 := HQ.out _ _ m0
    have k1 := HQ.out _ _ m1
    have k2 := HQ.out _ _ m2
    have k3 := HQ.out _ _ m3
    have k4 := HQ.out _ _ m4
    have k5 := HQ.out _ _ m5
    have k6 := HQ.out _ _ m6
    have k7 := HQ.out _ _ m7
    have k8 := HQ.out _ _ m8
    have hz4 : W4.heap.size = w3.heap.size + 1 := by rw [hW4]; simp
    clear hb4 hwf4 hW4 m0 m1 m2 m3 m4 m5 m6 m7 m8
    go_wp2_with fail
    rw [← HW4.out]
    refine HPU4.out.mono ?_
    rintro e w5 ⟨rfl, v5, zs5, hi5, hk5, ho5⟩
    generalize hWB : w3.heap.size = WB at *
    have HK5 : Hid (Below W0.heap.size W0 w5) := HB4.out.trans (hk5.below (by omega) (by intro x hx; simp [Value.ownBlock] at hx; omega))
    have HB5 := Lib.hid HK5.out
    have HW5 := Lib.hid hi5
    have HO5 := Lib.hid (Wrote.ints (show Wrote W4 WB (.slice none 0 0) B w5 from ⟨v5, zs5, hi5, hk5, ho5⟩) HO4.out (fun g off h0 e => by
      have := ints_lt HO3.out h0 e
      simp [Off, Value.ownBlock]
      omega))
    have hpk := hi5.packs
    clear hi5 hk5 ho5 k0 k1 k2 k3 k4 k5 k6 k7 k8
    obtain ⟨k0, k1, k2, k3, k4, k5, k6, k7, k8⟩ := KA.out w5 HB5.out
    go_wp2_with fail
    refine (HBI.out w5 HB5.out).mono ?_
    rintro e w6 ⟨rfl, hb6⟩
    have HB6 : Hid (Below W0.heap.size W0 w6) := HB5.out.trans (hb6.mono HB5.out.size)
    have HW6 := Lib.hid (HW5.out.keeps (keeps_of_below hb6 []) (by simp) (by simp))
    have HO6 := Lib.hid (HO5.out.below hb6)
    clear hb6 k0 k1 k2 k3 k4 k5 k6 k7 k8
    obtain ⟨k0, k1, k2, k3, k4, k5, k6, k7, k8⟩ := KA.out w6 HB6.out
    go_wp2_with fail
    refine (wLen _ _ _ HW6.out.c1).mono ?_
    rintro e w7 ⟨rfl, rfl⟩
    go_wp2_with fail
    refine (HRP.out w6 HB6.out).mono ?_
    rintro e w7 ⟨rfl, hb7⟩
    have HB7 : Hid (Below W0.heap.size W0 w7) := HB6.out.trans (hb7.mono HB6.out.size)
    have HW7 := Lib.hid (HW6.out.keeps (keeps_of_below hb7 []) (by simp) (by simp))
    have HO7 := Lib.hid (HO6.out.below hb7)
    clear hb7 k0 k1 k2 k3 k4 k5 k6 k7 k8
    have hssz : (str B).size = B.length := str_size B
    have hzl : zs5.length ≤ 1000 := by have := hpk.length; omega
    have HRY := fun W => Lib.hid (refBytes B W (by omega))
    obtain ⟨st, hst⟩ : ∃ st, st = str B := ⟨_, rfl⟩
    rw [← hst] at hssz HRY ⊢
    have HPK := Lib.hid hpk
    clear hst hpk
    have HD7 : Hid (Below W0.heap.size W0 w7.drew) := HB7.out.trans ((keeps_drew_b w7 []).below HB7.out.size (by simp))
    have HX7 := Lib.hid (HW7.out.keeps (keeps_drew_b w7 []) (by simp) (by simp))
    have ps := KA.out w7 HB7.out
    have t3 : ((B.length : Int) != (st.size : Int)) = false := by rw [hssz]; simp
    obtain ⟨k0, k1, k2, k3, k4, k5, k6, k7, k8⟩ := ps
    go_wp2_with fail
    go_region_with (first
      | (go_at_call 10; refine (wLen _ _ _ HX7.out.c1).mono ?_; rintro e w8 ⟨rfl, rfl⟩)
      | (go_at_call 12; refine (HRB.out _ HD7.out).mono ?_; rintro e w8 ⟨rfl, hb8⟩; have HB8 : Hid (Below W0.heap.size W0 w8) := HD7.out.trans (hb8.mono HD7.out.size); have HT8 : Hid (Below w7.heap.size w7 w8) := ((keeps_drew_b w7 []).below (Nat.le_refl _) (by simp)).trans hb8; have HW8 := Lib.hid (HX7.out.keeps (keeps_of_below hb8 []) (by simp) (by simp)); clear hb8)
      | (go_at_call 13; refine (wBytes WB v5 B zs5 _ (by omega) HW8.out).mono ?_; rintro e w9 ⟨g9, rfl, hown9, hb9⟩; have hcv9 := conv_row hown9; have HB9 : Hid (Below W0.heap.size W0 w9) := HB8.out.trans (hb9.mono HB8.out.size); have HT9 : Hid (Below w7.heap.size w7 w9) := HT8.out.trans (hb9.mono HT8.out.size); have HW9 := Lib.hid (HW8.out.keeps (keeps_of_below hb9 []) (by simp) (by simp)); clear hb9)
      | (go_at_call 14; refine (HRY _).out.mono ?_; rintro e w10 ⟨v10, zs10, rfl, hp10, hown10, hb10⟩; rw [hp10.unique HPK.out] at hown10; have hcv10 := conv_row hown10; have hcv11 := conv_row (ownsRow_below hown9 hb10); have HB10 : Hid (Below W0.heap.size W0 w10) := HB9.out.trans (hb10.mono HB9.out.size); have HT10 : Hid (Below w7.heap.size w7 w10) := HT9.out.trans (hb10.mono HT9.out.size); have HW10 := Lib.hid (HW9.out.keeps (keeps_of_below hb10 []) (by simp) (by simp))))
    all_goals
      clear k0 k1 k2 k3 k4 k5 k6 k7 k8 hcv9 hcv10 hcv11 hown9 hown10 hb10 HRY HBI HRP HRB HC2 HPU HPU4 HQ
      have HO10 := Lib.hid (HO7.out.below HT10.out)
      go_wp2_with fail
      refine (wBytes WB v5 B zs5 _ (by omega) HW10.out).mono ?_
      rintro e w11 ⟨g11, rfl, hown11, hb11⟩
      have hob := bytes_own hown11
      have hg11 := own_lt hown11
      have hop := aOpen (some ⟨g11, 0, none⟩) (some ⟨g11, 0, none⟩) zs5.length zs5 w11 (fun _ => rfl) hob HPK.out.1 (by omega)
      rw [show bitsOf zs5 = B ++ List.replicate ((8 - B.length % 8) % 8) false by rw [HPK.out.2]; rfl] at hop
      have HOP := Lib.hid hop
      have HB11 : Hid (Below W0.heap.size W0 w11) := HB10.out.trans (hb11.mono HB10.out.size)
      have HO11 := Lib.hid (HO10.out.below hb11)
      have hg12 : g11 < w11.heap.size := hg11.2.1
      have hz10 : w10.heap.size ≤ w11.heap.size := hb11.size
      clear hown11 hob hop hg11 hb11
      go_wp2_with fail
      refine HOP.out.mono ?_
      rintro e w12 ⟨rfl, hr12, hb12⟩
      have HB12 : Hid (Below W0.heap.size W0 w12) := HB11.out.trans (hb12.mono HB11.out.size)
      have HO12 := Lib.hid (HO11.out.below hb12)
      have hz12 : w11.heap.size ≤ w12.heap.size := hb12.size
      have hta := cBTake w11.heap.size (some ⟨g11, 0, none⟩) _ (k : Int) (m : Int) w12 hr12 (fun g off e => by cases e; omega)
      rw [HTK.out] at hta
      have HTA := Lib.hid hta
      have hz11 : W0.heap.size ≤ w11.heap.size := HB11.out.size
      clear hb12 hr12 HOP hta
      generalize hRB : w11.heap.size = RB at *
      go_wp2_with fail
      refine HTA.out.mono ?_
      unfold TakeBIs
      dsimp only
      rintro e w13 ⟨ja, sa, ea, ma, jc, sc, ec, mc, he, hr13, hJ13, hm13, _, _, _, _, _, hk13⟩
      unfold blkV at he
      dsimp only at he
      rw [HIE.out, HQE.out, HDE.out, HOE.out] at he
      subst he
      have HB13 : Hid (Below W0.heap.size W0 w13) := HB12.out.trans (hk13.below HB12.out.size (by intro x hx; simp at hx; omega))
      have HO13 := Lib.hid (show IntsAt w13 oa O from fun j hj => HO12.out.keeps hk13 (by
        intro g off e hg
        have := ints_lt HO3.out (by omega) e
        simp at hg
        have hz := HW10.out.lt
        omega) j hj)
      have hb14 := box_below w13 (.cells #[.int .i64 kind, .int .i64 value, .int .i64 shift, .slice ja il jc, .int .i64 lag, .int .i64 gain, .int .i64 part, .slice sa rl sc, .slice ea dl ec] 24)
      have hY14 := box9_new w13 (.int .i64 kind) (.int .i64 value) (.int .i64 shift) (.slice ja il jc) (.int .i64 lag) (.int .i64 gain) (.int .i64 part) (.slice sa rl sc) (.slice ea dl ec) 24
      obtain ⟨w14, hw14⟩ : ∃ w14, w14 = w13.alloc (.cells #[.int .i64 kind, .int .i64 value, .int .i64 shift, .slice ja il jc, .int .i64 lag, .int .i64 gain, .int .i64 part, .slice sa rl sc, .slice ea dl ec] 24) := ⟨_, rfl⟩
      rw [← hw14] at hb14 hY14
      have HB14 : Hid (Below W0.heap.size W0 w14) := HB13.out.trans (hb14.mono HB13.out.size)
      have HO14 := Lib.hid (HO13.out.below hb14)
      have HM14 := Lib.hid (hm13.below hb14)
      have HJ14 := Lib.hid (hJ13.below hb14)
      have hen := aEnd RB (some ⟨g11, 0, none⟩) _ w14 (hr13.keeps (keeps_of_below hb14 []) (by simp) (by simp))
      rw [end_zeroS (by simp; omega) (fun b hb => List.eq_of_mem_replicate hb)] at hen
      have HEN := Lib.hid hen
      have HY14 := Lib.hid hY14
      have HW14 := Lib.hid hw14
      clear hb14 hY14 hw14 hr13 hJ13 hm13 hk13 hen HTA
      go_wp2_with fail
      rw [← HW14.out]
      refine HEN.out.mono ?_
      rintro e w15 ⟨rfl, hk15⟩
      have HB15 : Hid (Below W0.heap.size W0 w15) := HB14.out.trans (hk15.below HB14.out.size (by simp))
      have HO15 := Lib.hid (HO14.out.keeps hk15 (by simp))
      have HM15 := Lib.hid (HM14.out.keeps hk15 (by simp))
      have hY15 := HY14.out.keeps hk15 (by simp)
      have HJ15 : Hid (BlkIn w15 ⟨kind, value, shift, index, lag, gain, part, rice, data⟩ ja sa ea jc sc ec) := ⟨HJ14.out.i.keeps hk15 (by simp), HJ14.out.r.keeps hk15 (by simp), HJ14.out.d.keeps hk15 (by simp), HJ14.out.il, HJ14.out.rl, HJ14.out.dl, HJ14.out.ic, HJ14.out.rc, HJ14.out.dc⟩
      obtain ⟨k0, k1, k2, k3, k4, k5, k6, k7, k8⟩ := KA.out w15 HB15.out
      have q0 := hY15.c 0 (.int .i64 kind) rfl
      have q1 := hY15.c 1 (.int .i64 value) rfl
      have q2 := hY15.c 2 (.int .i64 shift) rfl
      have q3 := hY15.c 3 (.slice ja il jc) rfl
      have q4 := hY15.c 4 (.int .i64 lag) rfl
      have q5 := hY15.c 5 (.int .i64 gain) rfl
      have q6 := hY15.c 6 (.int .i64 part) rfl
      have q7 := hY15.c 7 (.slice sa rl sc) rfl
      have q8 := hY15.c 8 (.slice ea dl ec) rfl
      have hsm := HSM.out w15 ja sa ea jc sc ec HJ15.out HB15.out
      have HS15 := Lib.hid hsm
      clear hk15 hY15 hsm
      go_wp2_with fail
      refine HS15.out.mono ?_
      rintro e w16 ⟨rfl, hb16⟩
      have HB16 : Hid (Below W0.heap.size W0 w16) := HB15.out.trans (hb16.mono HB15.out.size)
      have hrs := refSame ma oa mc oc O O w16 (by rw [HOE.out]; have := HOL.out; omega) (HM15.out.below hb16) (HO15.out.below hb16)
      rw [decide_eq_true rfl, HOE.out] at hrs
      have HRS := Lib.hid hrs
      clear hb16 hrs k0 k1 k2 k3 k4 k5 k6 k7 k8 q0 q1 q2 q3 q4 q5 q6 q7 q8
      go_wp2_with fail
      refine HRS.out.mono ?_
      rintro e w17 ⟨rfl, k17, hw17⟩
      have HF : Hid (Below w.heap.size w w17) := by
        show Below _ _ _
        rw [hw17]
        exact HB0.out.trans ((HB16.out.trans ((keeps_drewN w16 k17 []).below HB16.out.size (by simp))).mono HB0.out.size)
      clear hw17
      go_wp2
      go_ret
      exact ⟨rfl, HF.out⟩

/-- **BlockPuts.** -/
theorem blockPuts (b : Blk) (ia ra da : Option Addr) (il ic rl rc dl dc : Nat) (n d : Int) (w : World) (hw : Wf9 b) (h1 : ∀ (_ : (decide (il ≤ 24) && decide (rl ≤ 12) && decide (dl ≤ 64)) = true), ∃ index rice data : List Int, il = index.length ∧ rl = rice.length ∧ dl = data.length ∧ BlkIn w { b with index := index, rice := rice, data := data } ia ra da ic rc dc) :
    Calls Tryz.prog 3 #[.agg #[.int .i64 b.kind, .int .i64 b.value, .int .i64 b.shift, .slice ia il ic, .int .i64 b.lag, .int .i64 b.gain, .int .i64 b.part, .slice ra rl rc, .slice da dl dc], .int .i64 n, .int .i64 d] w fun e w' => e = .returned (.bool true) ∧ Below w.heap.size w w' := by
  cases hf : (decide (il ≤ 24) && decide (rl ≤ 12) && decide (dl ≤ 64)) with
  | false => exact puts10_much _ _ _ _ _ _ ia ra da il ic rl rc dl dc n d w (.inl hf)
  | true =>
    by_cases hn : n ≤ 64
    · obtain ⟨index, rice, data, rfl, rfl, rfl, hI⟩ := h1 hf
      exact puts10_few { b with index := index, rice := rice, data := data } ia ra da ic rc dc n d w hI ⟨hw.v, hw.s, hw.l, hw.g, hw.p⟩ hf hn
    · exact puts10_much _ _ _ _ _ _ ia ra da il ic rl rc dl dc n d w (.inr ⟨hf, decide_eq_true (by omega)⟩)
end Go.Proofs.YtefbakhhlonafaaGreat
