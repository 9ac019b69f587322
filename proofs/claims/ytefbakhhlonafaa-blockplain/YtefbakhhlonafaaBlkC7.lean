import Derived.Test.YtefbakhhlonafaaBlkC4
import Derived.Test.YtefbakhhlonafaaBlkC5
import Derived.Test.YtefbakhhlonafaaBlkC6

namespace Go.Proofs.Ytefbakhhlonafaa
open Go.RowKit Go.Proofs Go.Proofs.PipeM Go.Proofs.PipeA Go.Proofs.BlkM Go.Proofs.BlkB
open Go.Proofs.LatM (goodL)
open Go.Proofs.FilM (smp codeS)
open Go.Proofs.LagM (goodT codeT codeO onL)
set_option maxRecDepth 100000

/-- isFormed, of all Kinds. -/
theorem cIsFormed (b : Blk) (ia ra da : Option Addr) (ic rc dc : Nat) (n : Nat) (d : Int) (w : World) (hI : BlkIn w b ia ra da ic rc dc) (hn : n ≤ 1024) :
    Calls Try.prog 41 #[blkV b ia ra da ic rc dc, .int .i64 n, .int .i64 d] w fun e w' => e = .returned (.bool (formedB b n d)) ∧ Below w.heap.size w w' := by
  obtain ⟨kind, value, shift, index, lag, gain, part, rice, data⟩ := b
  by_cases h2 : kind = 2
  · subst h2; exact cFormed_one value shift lag gain part index rice data ia ra da ic rc dc n d w hI hn
  have HB : Hid (∀ o, Below w.heap.size w (w.alloc o)) := fun o => box_below w o
  have t2 : (kind == 2) = false := beq_eq_false_iff_ne.2 h2
  unfold blkV formedB
  dsimp only
  have hdl := hI.dl
  dsimp only at hdl
  generalize index.length = il at *
  generalize rice.length = rl at *
  generalize data.length = dl at *
  rw [if_neg h2]
  by_cases h3 : kind = 3
  · rw [if_pos h3]
    subst h3
    have HT : Hid ((((dl : Int)) == (n : Int)) = decide (dl = n)) := by
      show _ = _
      by_cases h : dl = n
      · rw [decide_eq_true h]; exact beq_iff_eq.2 (by omega)
      · rw [decide_eq_false h]; exact beq_eq_false_iff_ne.2 (by omega)
    clear h2 hI hdl
    obtain ⟨t, ht⟩ : ∃ t, (((dl : Int)) == (n : Int)) = t := ⟨_, rfl⟩
    rw [ht] at HT
    go_enter Try.func41, Try.ntmps41
    go_wp2
    go_ret
    exact ⟨by rw [← HT.out]; rfl, HB.out _⟩
  · rw [if_neg h3]
    have t3 : (kind == 3) = false := beq_eq_false_iff_ne.2 h3
    clear h2 h3 hI hdl
    go_enter Try.func41, Try.ntmps41
    go_wp2
    go_ret
    exact ⟨rfl, HB.out _⟩

/-- What is wrong with a block ahead of its samples. -/
def chkF (b : Blk) (n d : Int) : Int := if !(sizeN n && depthB d) then 1 else formB b n.toNat d
set_option maxHeartbeats 3200000 in
theorem cCheckForm (b : Blk) (ia ra da : Option Addr) (ic rc dc : Nat) (n d : Int) (w : World) (hI : BlkIn w b ia ra da ic rc dc) (hw : Wf9 b) :
    Calls Try.prog 19 #[blkV b ia ra da ic rc dc, .int .i64 n, .int .i64 d] w fun e w' => e = .returned (.int .i64 (chkF b n d)) ∧ Below w.heap.size w w' := by
  have HE : Hid (chkF b n d = if !(sizeN n && depthB d) then 1 else formB b n.toNat d) := rfl
  have HS := fun W => Lib.hid (cIsCount n W)
  have HG := fun W => Lib.hid (cIsGood d W)
  have HK := fun W => Lib.hid (cIsKind b.kind W)
  have HF : Hid (∀ m : Nat, n = m → m ≤ 1024 → ∀ W, Below w.heap.size w W → Calls Try.prog 41 #[blkV b ia ra da ic rc dc, .int .i64 n, .int .i64 d] W fun e w' => e = .returned (.bool (formedB b m d)) ∧ Below W.heap.size W w') := fun m hm hm2 W hW => by rw [hm]; exact cIsFormed b ia ra da ic rc dc m d W (hI.below hW) hm2
  have HM : Hid (kindB b.kind = true → ∀ W, Calls Try.prog 40 #[blkV b ia ra da ic rc dc] W fun e w' => e = .returned (.bool (moreB b)) ∧ Below W.heap.size W w') := fun hk W => cHasMore b ia ra da ic rc dc W hw hI.il hI.rl hI.dl (by have := of_decide_eq_true hk; omega)
  have HEQ : Hid (kindB b.kind = true → ∀ (m k : Nat), formB b m k = if moreB b || !formedB b m k then 2 else 0) := fun hk m k => form_eq hw (by have := of_decide_eq_true hk; omega)
  have HBK : Hid (kindB b.kind = false → ∀ (m : Nat) (k : Int), formB b m k = 16) := fun hk m k => by
    unfold formB wrongKind
    have := of_decide_eq_false hk
    rw [if_pos (by rw [Bool.or_eq_true, decide_eq_true_eq, decide_eq_true_eq]; omega)]
  have HBX : Hid (∀ o, Below w.heap.size w (w.alloc o)) := fun o => box_below w o
  clear hI hw
  generalize chkF b n d = r at *
  cases hs : sizeN n with
  | false =>
    rw [hs, if_pos (by rfl)] at HE
    rw [hs] at HS
    clear hs HF HM HEQ HBK HK
    obtain ⟨kind, value, shift, index, lag, gain, part, rice, data⟩ := b
    unfold blkV
    dsimp only
    generalize index.length = il at *
    generalize rice.length = rl at *
    generalize data.length = dl at *
    go_enter Try.func19, Try.ntmps19
    go_wp2_with fail
    refine (HS _).out.mono ?_
    rintro e w1 ⟨rfl, rfl⟩
    go_wp2
    go_ret
    exact ⟨by rw [HE.out]; rfl, HBX.out _⟩
  | true =>
    cases hd : depthB d with
    | false =>
      rw [hs, hd, if_pos (by rfl)] at HE
      rw [hs] at HS
      rw [hd] at HG
      clear hs hd HF HM HEQ HBK HK
      obtain ⟨kind, value, shift, index, lag, gain, part, rice, data⟩ := b
      unfold blkV
      dsimp only
      generalize index.length = il at *
      generalize rice.length = rl at *
      generalize data.length = dl at *
      go_enter Try.func19, Try.ntmps19
      go_wp2_with fail
      refine (HS _).out.mono ?_
      rintro e w1 ⟨rfl, rfl⟩
      go_wp2_with fail
      refine (HG _).out.mono ?_
      rintro e w1 ⟨rfl, rfl⟩
      go_wp2
      go_ret
      exact ⟨by rw [HE.out]; rfl, HBX.out _⟩
    | true =>
      rw [hs, hd, if_neg (by simp)] at HE
      rw [hs] at HS
      rw [hd] at HG
      obtain ⟨m, rfl, hm1, hm2⟩ := sizeN_of hs
      obtain ⟨k, rfl, hk1, hk2⟩ := depthB_of hd
      have HF2 := Lib.hid (HF.out m rfl hm2)
      rw [show ((m : Int)).toNat = m from rfl] at HE
      clear hs hd HF hk1 hk2 hm1
      cases hkd : kindB b.kind with
      | false =>
        have HE2 := Lib.hid (HE.out.trans (HBK.out hkd m k))
        rw [hkd] at HK
        clear hkd HE HEQ HBK HM HF2
        obtain ⟨kind, value, shift, index, lag, gain, part, rice, data⟩ := b
        unfold blkV
        dsimp only at *
        generalize index.length = il at *
        generalize rice.length = rl at *
        generalize data.length = dl at *
        go_enter Try.func19, Try.ntmps19
        go_wp2_with fail
        refine (HS _).out.mono ?_
        rintro e w1 ⟨rfl, rfl⟩
        go_wp2_with fail
        refine (HG _).out.mono ?_
        rintro e w1 ⟨rfl, rfl⟩
        go_wp2_with fail
        refine (HK _).out.mono ?_
        rintro e w1 ⟨rfl, rfl⟩
        go_wp2
        go_ret
        exact ⟨by rw [HE2.out]; rfl, HBX.out _⟩
      | true =>
        have HE2 := Lib.hid (HE.out.trans (HEQ.out hkd m k))
        have HM2 := Lib.hid (HM.out hkd)
        rw [hkd] at HK
        clear hkd HE HEQ HBK HM
        generalize moreB b = mo at *
        generalize formedB b m k = fo at *
        obtain ⟨kind, value, shift, index, lag, gain, part, rice, data⟩ := b
        unfold blkV at *
        dsimp only at *
        generalize index.length = il at *
        generalize rice.length = rl at *
        generalize data.length = dl at *
        have K : Hid (∀ W, Below (w.heap.size + 1) (w.alloc (.cells #[.int .i64 kind, .int .i64 value, .int .i64 shift, .slice ia il ic, .int .i64 lag, .int .i64 gain, .int .i64 part, .slice ra rl rc, .slice da dl dc] 24)) W → ∀ j v, (#[.int .i64 kind, .int .i64 value, .int .i64 shift, .slice ia il ic, .int .i64 lag, .int .i64 gain, .int .i64 part, .slice ra rl rc, .slice da dl dc] : Array Value)[j]? = some v → W.cell? ⟨w.heap.size, j, none⟩ = some v) := fun W hW j v hj => by
          rw [hW.cell (p := ⟨w.heap.size, j, none⟩) (by simp), cell_of_heap (World.alloc_heap_new w _)]
          exact hj
        cases mo with
        | true =>
          go_enter Try.func19, Try.ntmps19
          go_wp2_with fail
          refine (HS _).out.mono ?_
          rintro e w1 ⟨rfl, rfl⟩
          go_wp2_with fail
          refine (HG _).out.mono ?_
          rintro e w1 ⟨rfl, rfl⟩
          go_wp2_with fail
          refine (HK _).out.mono ?_
          rintro e w1 ⟨rfl, rfl⟩
          go_wp2_with fail
          refine (HM2.out _).mono ?_
          rintro e w2 ⟨rfl, hb2⟩
          have HB2 : Hid (Below w.heap.size w w2) := (HBX.out _).trans (hb2.mono (by simp))
          clear hb2
          go_wp2
          go_ret
          exact ⟨by rw [HE2.out]; rfl, HB2.out⟩
        | false =>
          go_enter Try.func19, Try.ntmps19
          go_wp2_with fail
          refine (HS _).out.mono ?_
          rintro e w1 ⟨rfl, rfl⟩
          go_wp2_with fail
          refine (HG _).out.mono ?_
          rintro e w1 ⟨rfl, rfl⟩
          go_wp2_with fail
          refine (HK _).out.mono ?_
          rintro e w1 ⟨rfl, rfl⟩
          go_wp2_with fail
          refine (HM2.out _).mono ?_
          rintro e w2 ⟨rfl, hb2⟩
          have hb2' := hb2.mono (show w.heap.size + 1 ≤ _ by simp)
          have k0 := K.out w2 hb2' 0 (.int .i64 kind) rfl
          have k1 := K.out w2 hb2' 1 (.int .i64 value) rfl
          have k2 := K.out w2 hb2' 2 (.int .i64 shift) rfl
          have k3 := K.out w2 hb2' 3 (.slice ia il ic) rfl
          have k4 := K.out w2 hb2' 4 (.int .i64 lag) rfl
          have k5 := K.out w2 hb2' 5 (.int .i64 gain) rfl
          have k6 := K.out w2 hb2' 6 (.int .i64 part) rfl
          have k7 := K.out w2 hb2' 7 (.slice ra rl rc) rfl
          have k8 := K.out w2 hb2' 8 (.slice da dl dc) rfl
          have HB2 : Hid (Below w.heap.size w w2) := (HBX.out _).trans (hb2.mono (by simp))
          clear hb2 hb2'
          go_wp2_with fail
          refine (HF2.out _ HB2.out).mono ?_
          rintro e w3 ⟨rfl, hb3⟩
          have HB3 : Hid (Below w.heap.size w w3) := HB2.out.trans (hb3.mono HB2.out.size)
          clear hb3 k0 k1 k2 k3 k4 k5 k6 k7 k8
          cases fo with
          | true =>
            go_wp2
            go_ret
            exact ⟨by rw [HE2.out]; rfl, HB3.out⟩
          | false =>
            go_wp2
            go_ret
            exact ⟨by rw [HE2.out]; rfl, HB3.out⟩
end Go.Proofs.Ytefbakhhlonafaa
