import Derived.Test.YtefbakhhlonafaaGreatBlkT5
import Derived.Test.YtefbakhhlonafaaGreatActs2

namespace Go.Proofs.YtefbakhhlonafaaGreat
open Go.RowKit Go.Proofs Go.Proofs.PipeM Go.Proofs.PipeA Go.Proofs.BlkM Go.Proofs.BlkB
set_option maxRecDepth 100000

/-- What Take leaves, and answers. -/
def TakeBIs (w : World) (b : Nat) (ao : Option Addr) (r : RS × Blk × List Int) (e : Ending) (w' : World) : Prop :=
  ∃ ia ka da oa ic kc dc oc, e = .returned (.tuple #[blkV r.2.1 ia ka da ic kc dc, .slice oa r.2.2.length oc]) ∧ RdA w' b ao r.1 ∧ BlkIn w' r.2.1 ia ka da ic kc dc ∧ IntsAt w' oa r.2.2 ∧ r.2.2.length ≤ oc ∧ FreshOf w ia ∧ FreshOf w ka ∧ FreshOf w da ∧ FreshOf w oa ∧ Keeps [b] w w'
theorem sgn_in {v n : Nat} (hn : n ≤ 26) (h : v < 2 ^ n) : In64 (sgn v n) := by
  have h26 : 2 ^ n ≤ 2 ^ 26 := Nat.pow_le_pow_right (by decide) hn
  unfold sgn In64
  split
  · have : ((2 : Int) ^ n) = ((2 ^ n : Nat) : Int) := by simp
    rw [this]
    omega
  · omega
theorem wf_kindB (s : RS) (n d : Nat) (h1 : 8 ≤ d) (h2 : d ≤ 26) (hn : n ≤ 1024) : Wf9 (s.kindB n d).2 := by
  have small : ∀ k : Nat, k ≤ 1000 → In64 (k : Int) := fun k hk => by unfold In64; omega
  unfold RS.kindB
  split
  · refine ⟨?_, in64_zero, in64_zero, in64_zero, in64_zero⟩
    dsimp only
    rw [(signed_take (by omega) (by omega)).2]
    exact sgn_in h2 (takeV_lt2 _ _)
  · split
    · unfold RS.normB
      dsimp only
      have h5 : (s.takeS 2).takeV 5 < 2 ^ 5 := takeV_lt2 _ 5
      obtain ⟨_, h3, _⟩ := slide_lengths ((s.takeS 2).takeS 5).idx.1.term.1 n hn
      have ht : ∀ t : RS, t.term.2.1 < 256 ∧ t.term.2.2 < 16 := fun t => by
        have a1 : (t.takeS 1).takeV 8 < 2 ^ 8 := takeV_lt2 _ 8
        have a2 : ((t.takeS 1).takeS 8).takeV 4 < 2 ^ 4 := takeV_lt2 _ 4
        unfold RS.term
        split
        · exact ⟨Nat.zero_lt_succ _, Nat.zero_lt_succ _⟩
        · exact ⟨by dsimp only; omega, by dsimp only; omega⟩
      obtain ⟨ha, hg⟩ := ht ((s.takeS 2).takeS 5).idx.1
      exact ⟨in64_zero, small _ (by omega), small _ (by omega), small _ (by omega), small _ (by omega)⟩
    · split
      · exact ⟨in64_zero, in64_zero, in64_zero, in64_zero, in64_zero⟩
      · exact ⟨in64_zero, in64_zero, in64_zero, in64_zero, in64_zero⟩

set_option maxHeartbeats 6400000 in
theorem cBTake_size (b : Nat) (ao : Option Addr) (s : RS) (n d : Int) (w : World) (h : RdA w b ao s) (ha : ∀ g off, ao = some ⟨g, off, none⟩ → g < w.heap.size) (hs : (sizeN n && depthB d) = false) :
    Calls Tryz.prog 16 #[.pointer (some ⟨b, 0, none⟩), .int .i64 n, .int .i64 d] w (TakeBIs w b ao (s.give 1, Blk.none, [])) := by
  have hlt := h.lt
  have hbx := box_below w (.cells #[.int .i64 0, .int .i64 0, .int .i64 0, .slice none 0 0, .int .i64 0, .int .i64 0, .int .i64 0, .slice none 0 0, .slice none 0 0] 24)
  have hB0 := box9_new w (.int .i64 0) (.int .i64 0) (.int .i64 0) (.slice none 0 0) (.int .i64 0) (.int .i64 0) (.int .i64 0) (.slice none 0 0) (.slice none 0 0) 24
  obtain ⟨W0, hW0⟩ : ∃ W0, W0 = w.alloc (.cells #[.int .i64 0, .int .i64 0, .int .i64 0, .slice none 0 0, .int .i64 0, .int .i64 0, .int .i64 0, .slice none 0 0, .slice none 0 0] 24) := ⟨_, rfl⟩
  rw [← hW0] at hbx hB0
  have hR0 : RdA W0 b ao s := h.keeps (keeps_of_below hbx []) (by simp) (by simp)
  have HGV := Lib.hid (aGive b ao s 1 W0 hR0)
  have HS := fun W => Lib.hid (cIsCount n W)
  have HG := fun W => Lib.hid (cIsGood d W)
  have HB0 := Lib.hid hB0
  have HBX := Lib.hid hbx
  have HW0 := Lib.hid hW0
  have HA := Lib.hid ha
  have hbn : b ≠ w.heap.size := by omega
  have HKP : Hid (∀ W, Keeps [b, w.heap.size] W0 W → Keeps [b] w W) := fun W hk => (keeps_of_below HBX.out [b]).trans_new hk (by intro x hx; simp at hx; rcases hx with rfl | rfl; exact .inl (by simp); exact .inr (Nat.le_refl _))
  have hsz0 : w.heap.size < W0.heap.size := HB0.out.lt
  clear h ha hbx hB0 hR0 hW0
  cases h1 : sizeN n with
  | false =>
    rw [h1] at HS
    clear hs h1 HG
    go_enter Tryz.func16, Tryz.ntmps16
    go_wp2_with fail
    rw [← HW0.out]
    refine (HS _).out.mono ?_
    rintro e w1 ⟨rfl, rfl⟩
    go_wp2_with fail
    refine HGV.out.mono ?_
    rintro e w2 ⟨rfl, hr2, hk2⟩
    have HX2 := Lib.hid (HB0.out.keeps hk2 (by simp; omega))
    have HK2 : Hid (Keeps [b, w.heap.size] W0 w2) := hk2.mono (by simp)
    have HR2 := Lib.hid hr2
    clear hr2 hk2
    have c0 := HX2.out.c 0 (.int .i64 0) rfl
    have c1 := HX2.out.c 1 (.int .i64 0) rfl
    have c2 := HX2.out.c 2 (.int .i64 0) rfl
    have c3 := HX2.out.c 3 (.slice none 0 0) rfl
    have c4 := HX2.out.c 4 (.int .i64 0) rfl
    have c5 := HX2.out.c 5 (.int .i64 0) rfl
    have c6 := HX2.out.c 6 (.int .i64 0) rfl
    have c7 := HX2.out.c 7 (.slice none 0 0) rfl
    have c8 := HX2.out.c 8 (.slice none 0 0) rfl
    have f0 := HX2.out.f 0 (by decide)
    have f1 := HX2.out.f 1 (by decide)
    have f2 := HX2.out.f 2 (by decide)
    have f3 := HX2.out.f 3 (by decide)
    have f4 := HX2.out.f 4 (by decide)
    have f5 := HX2.out.f 5 (by decide)
    have f6 := HX2.out.f 6 (by decide)
    have f7 := HX2.out.f 7 (by decide)
    have f8 := HX2.out.f 8 (by decide)
    go_wp2
    obtain ⟨hX8, hk8⟩ := HX2.out.set9 (.int .i64 0) (.int .i64 0) (.int .i64 0) (.slice none 0 0) (.int .i64 0) (.int .i64 0) (.int .i64 0) (.slice none 0 0) (.slice none 0 0)
    have HK8 := Lib.hid (HKP.out _ (HK2.out.trans (hk8.mono (by simp))))
    have HR8 := Lib.hid (HR2.out.keeps hk8 (by simp; omega) (fun g off e => by have := HA.out g off e; simp; omega))
    unfold Go.Proofs.YtefbakhhlonafaaGreat.set9 at hX8 hk8 HK8 HR8
    have R0 := hX8.c 0 (.int .i64 0) rfl
    have R1 := hX8.c 1 (.int .i64 0) rfl
    have R2 := hX8.c 2 (.int .i64 0) rfl
    have R3 := hX8.c 3 (.slice none 0 0) rfl
    have R4 := hX8.c 4 (.int .i64 0) rfl
    have R5 := hX8.c 5 (.int .i64 0) rfl
    have R6 := hX8.c 6 (.int .i64 0) rfl
    have R7 := hX8.c 7 (.slice none 0 0) rfl
    have R8 := hX8.c 8 (.slice none 0 0) rfl
    refine bodyPost_ret (v := .tuple #[.agg #[.int .i64 0, .int .i64 0, .int .i64 0, .slice none 0 0, .int .i64 0, .int .i64 0, .int .i64 0, .slice none 0 0, .slice none 0 0], .slice none 0 0]) (by simp [results, Tryz.results16, go_sem, R0, R1, R2, R3, R4, R5, R6, R7, R8]) rfl ?_
    exact ⟨none, none, none, none, 0, 0, 0, 0, rfl, HR8.out, blkIn_none _, nil_ints _ _, Nat.le_refl _, fresh_none _, fresh_none _, fresh_none _, fresh_none _, HK8.out⟩
  | true =>
    have h2 : depthB d = false := by rw [h1] at hs; simpa using hs
    rw [h1] at HS
    rw [h2] at HG
    clear hs h1 h2
    go_enter Tryz.func16, Tryz.ntmps16
    go_wp2_with fail
    rw [← HW0.out]
    refine (HS _).out.mono ?_
    rintro e w1 ⟨rfl, rfl⟩
    go_wp2_with fail
    refine (HG _).out.mono ?_
    rintro e w1 ⟨rfl, rfl⟩
    go_wp2_with fail
    refine HGV.out.mono ?_
    rintro e w2 ⟨rfl, hr2, hk2⟩
    have HX2 := Lib.hid (HB0.out.keeps hk2 (by simp; omega))
    have HK2 : Hid (Keeps [b, w.heap.size] W0 w2) := hk2.mono (by simp)
    have HR2 := Lib.hid hr2
    clear hr2 hk2
    have c0 := HX2.out.c 0 (.int .i64 0) rfl
    have c1 := HX2.out.c 1 (.int .i64 0) rfl
    have c2 := HX2.out.c 2 (.int .i64 0) rfl
    have c3 := HX2.out.c 3 (.slice none 0 0) rfl
    have c4 := HX2.out.c 4 (.int .i64 0) rfl
    have c5 := HX2.out.c 5 (.int .i64 0) rfl
    have c6 := HX2.out.c 6 (.int .i64 0) rfl
    have c7 := HX2.out.c 7 (.slice none 0 0) rfl
    have c8 := HX2.out.c 8 (.slice none 0 0) rfl
    have f0 := HX2.out.f 0 (by decide)
    have f1 := HX2.out.f 1 (by decide)
    have f2 := HX2.out.f 2 (by decide)
    have f3 := HX2.out.f 3 (by decide)
    have f4 := HX2.out.f 4 (by decide)
    have f5 := HX2.out.f 5 (by decide)
    have f6 := HX2.out.f 6 (by decide)
    have f7 := HX2.out.f 7 (by decide)
    have f8 := HX2.out.f 8 (by decide)
    go_wp2
    obtain ⟨hX8, hk8⟩ := HX2.out.set9 (.int .i64 0) (.int .i64 0) (.int .i64 0) (.slice none 0 0) (.int .i64 0) (.int .i64 0) (.int .i64 0) (.slice none 0 0) (.slice none 0 0)
    have HK8 := Lib.hid (HKP.out _ (HK2.out.trans (hk8.mono (by simp))))
    have HR8 := Lib.hid (HR2.out.keeps hk8 (by simp; omega) (fun g off e => by have := HA.out g off e; simp; omega))
    unfold Go.Proofs.YtefbakhhlonafaaGreat.set9 at hX8 hk8 HK8 HR8
    have R0 := hX8.c 0 (.int .i64 0) rfl
    have R1 := hX8.c 1 (.int .i64 0) rfl
    have R2 := hX8.c 2 (.int .i64 0) rfl
    have R3 := hX8.c 3 (.slice none 0 0) rfl
    have R4 := hX8.c 4 (.int .i64 0) rfl
    have R5 := hX8.c 5 (.int .i64 0) rfl
    have R6 := hX8.c 6 (.int .i64 0) rfl
    have R7 := hX8.c 7 (.slice none 0 0) rfl
    have R8 := hX8.c 8 (.slice none 0 0) rfl
    refine bodyPost_ret (v := .tuple #[.agg #[.int .i64 0, .int .i64 0, .int .i64 0, .slice none 0 0, .int .i64 0, .int .i64 0, .int .i64 0, .slice none 0 0, .slice none 0 0], .slice none 0 0]) (by simp [results, Tryz.results16, go_sem, R0, R1, R2, R3, R4, R5, R6, R7, R8]) rfl ?_
    exact ⟨none, none, none, none, 0, 0, 0, 0, rfl, HR8.out, blkIn_none _, nil_ints _ _, Nat.le_refl _, fresh_none _, fresh_none _, fresh_none _, fresh_none _, HK8.out⟩

set_option maxHeartbeats 6400000 in
/-- **Take.** -/
theorem cBTake (b : Nat) (ao : Option Addr) (s : RS) (n d : Int) (w : World) (h : RdA w b ao s) (ha : ∀ g off, ao = some ⟨g, off, none⟩ → g < w.heap.size) :
    Calls Tryz.prog 16 #[.pointer (some ⟨b, 0, none⟩), .int .i64 n, .int .i64 d] w (TakeBIs w b ao (s.block n d)) := by
  unfold RS.block
  cases hs : (sizeN n && depthB d) with
  | false => exact cBTake_size b ao s n d w h ha hs
  | true =>
    simp only [Bool.not_true, Bool.false_eq_true, if_false]
    rw [Bool.and_eq_true] at hs
    obtain ⟨k, rfl, hk1, hk2⟩ := sizeN_of hs.1
    obtain ⟨m, rfl, hm1, hm2⟩ := depthB_of hs.2
    rw [show ((k : Int)).toNat = k from rfl, show ((m : Int)).toNat = m from rfl]
    obtain ⟨RES, hRES⟩ : ∃ RES, RES = if ((s.kindB k m).1.give (codeB (s.kindB k m).2 k m)).err ≠ 0 then ((s.kindB k m).1.give (codeB (s.kindB k m).2 k m), Blk.none, []) else ((s.kindB k m).1.give (codeB (s.kindB k m).2 k m), (s.kindB k m).2, outB (s.kindB k m).2 k) := ⟨_, rfl⟩
    rw [← hRES]
    have HRES := Lib.hid hRES
    clear hRES
    have hlt := h.lt
    have hbx := box_below w (.cells #[.int .i64 0, .int .i64 0, .int .i64 0, .slice none 0 0, .int .i64 0, .int .i64 0, .int .i64 0, .slice none 0 0, .slice none 0 0] 24)
    have hB0 := box9_new w (.int .i64 0) (.int .i64 0) (.int .i64 0) (.slice none 0 0) (.int .i64 0) (.int .i64 0) (.int .i64 0) (.slice none 0 0) (.slice none 0 0) 24
    obtain ⟨W0, hW0⟩ : ∃ W0, W0 = w.alloc (.cells #[.int .i64 0, .int .i64 0, .int .i64 0, .slice none 0 0, .int .i64 0, .int .i64 0, .int .i64 0, .slice none 0 0, .slice none 0 0] 24) := ⟨_, rfl⟩
    rw [← hW0] at hbx hB0
    have hR0 : RdA W0 b ao s := h.keeps (keeps_of_below hbx []) (by simp) (by simp)
    have hsz0 : w.heap.size < W0.heap.size := hB0.lt
    have HTF := Lib.hid (cTakeFields b ao s k m W0 hk2 hR0 (fun g off e => Nat.lt_trans (ha g off e) hsz0))
    have HS := fun W => Lib.hid (cIsCount (k : Int) W)
    have HG := fun W => Lib.hid (cIsGood (m : Int) W)
    rw [hs.1] at HS
    rw [hs.2] at HG
    have hwf := wf_kindB s k m hm1 hm2 hk2
    have HB0 := Lib.hid hB0
    have HBX := Lib.hid hbx
    have HW0 := Lib.hid hW0
    have HA := Lib.hid ha
    have hbn : b ≠ w.heap.size := by omega
    have HKP : Hid (∀ W, Keeps [b, w.heap.size] W0 W → Keeps [b] w W) := fun W hk => (keeps_of_below HBX.out [b]).trans_new hk (by intro x hx; simp at hx; rcases hx with rfl | rfl; exact .inl (by simp); exact .inr (Nat.le_refl _))
    have HBS : Hid (∀ x ∈ [b, w.heap.size], x < W0.heap.size) := by intro x hx; simp at hx; rcases hx with rfl | rfl <;> omega
    generalize s.kindB k m = R at *
    obtain ⟨R1, bd⟩ := R
    dsimp only at *
    clear h ha hbx hB0 hR0 hW0 hs
    have HSA : Hid (∀ W ia ka da ic kc dc, BlkIn W bd ia ka da ic kc dc → Calls Tryz.prog 48 #[blkV bd ia ka da ic kc dc, .int .i64 k, .int .i64 m] W (SampIs (codeB bd k m) (outB bd k) W)) := fun W ia ka da ic kc dc hI => cSamples10 bd ia ka da ic kc dc k m W hI hwf
    generalize codeB bd k m = cd at *
    generalize outB bd k = O at *
    have HGV := fun W (hr : RdA W b ao R1) => Lib.hid (aGive b ao R1 cd W hr)
    have HFA := fun W (hr : RdA W b ao (R1.give cd)) => Lib.hid (aFail b ao (R1.give cd) W hr)
    have HCD : Hid ((R1.give cd).err = 0 → cd = 0) := fun h0 => by
      unfold RS.give at h0
      split at h0
      · rename_i h1
        rcases h1 with h1 | h1
        · exact h1
        · exact absurd h0 h1
      · exact h0
    clear hwf
    generalize R1.give cd = G at *
    obtain ⟨kind, value, shift, index, lag, gain, part, rice, data⟩ := bd
    go_enter Tryz.func16, Tryz.ntmps16
    go_wp2_with fail
    rw [← HW0.out]
    refine (HS _).out.mono ?_
    rintro e w1 ⟨rfl, rfl⟩
    go_wp2_with fail
    refine (HG _).out.mono ?_
    rintro e w1 ⟨rfl, rfl⟩
    go_wp2_with fail
    refine HTF.out.mono ?_
    rintro e w1 ⟨ia, ka, da, ic, kc, dc, he, hr1, hI1, hfi, hfk, hfd, hk1⟩
    have HS1 := fun W h => Lib.hid (HSA.out W ia ka da ic kc dc h)
    unfold blkV at he HS1
    dsimp only at he HS1
    generalize hie : index.length = il at *
    generalize hqe : rice.length = rl at *
    generalize hde : data.length = dl at *
    have HIE := Lib.hid hie
    have HQE := Lib.hid hqe
    have HDE := Lib.hid hde
    clear hie hqe hde
    subst he
    have HK1 : Hid (Keeps [b, w.heap.size] W0 w1) := hk1.mono (by simp)
    have HX1 := Lib.hid (HB0.out.keeps hk1 (by simp; omega))
    have HFI : Hid (FreshOf W0 ia) := hfi
    have HFK : Hid (FreshOf W0 ka) := hfk
    have HFD : Hid (FreshOf W0 da) := hfd
    have hb2 := box_below w1 (.cells #[.int .i64 kind, .int .i64 value, .int .i64 shift, .slice ia il ic, .int .i64 lag, .int .i64 gain, .int .i64 part, .slice ka rl kc, .slice da dl dc] 24)
    have HY2 := Lib.hid (box9_new w1 (.int .i64 kind) (.int .i64 value) (.int .i64 shift) (.slice ia il ic) (.int .i64 lag) (.int .i64 gain) (.int .i64 part) (.slice ka rl kc) (.slice da dl dc) 24)
    have HX2 := Lib.hid (HX1.out.keeps (keeps_of_below hb2 []) (by simp))
    have HK2 : Hid (Keeps [b, w.heap.size] W0 (w1.alloc (.cells #[.int .i64 kind, .int .i64 value, .int .i64 shift, .slice ia il ic, .int .i64 lag, .int .i64 gain, .int .i64 part, .slice ka rl kc, .slice da dl dc] 24))) := HK1.out.trans (keeps_of_below hb2 _)
    have HR2 : Hid (RdA (w1.alloc (.cells #[.int .i64 kind, .int .i64 value, .int .i64 shift, .slice ia il ic, .int .i64 lag, .int .i64 gain, .int .i64 part, .slice ka rl kc, .slice da dl dc] 24)) b ao R1) := hr1.keeps (keeps_of_below hb2 []) (by simp) (by simp)
    have HIB := Lib.hid (hI1.below hb2)
    have HS2 := HS1 _ HIB.out
    have hz1 : W0.heap.size ≤ w1.heap.size := HK1.out.size
    obtain ⟨w2, hw2⟩ : ∃ w2, w2 = w1.alloc (.cells #[.int .i64 kind, .int .i64 value, .int .i64 shift, .slice ia il ic, .int .i64 lag, .int .i64 gain, .int .i64 part, .slice ka rl kc, .slice da dl dc] 24) := ⟨_, rfl⟩
    rw [← hw2] at HY2 HX2 HK2 HR2 HIB HS2
    have HW2 := Lib.hid hw2
    have hbn1 : b ≠ w1.heap.size := by omega
    clear hr1 hI1 hfi hfk hfd hk1 hb2 hw2 HS1 HSA HTF
    go_wp2_with fail
    rw [← HW2.out]
    refine HS2.out.mono ?_
    rintro e w3 h3
    have HE3 : Hid ((cd ≠ 0 ∧ e = .returned (.tuple #[.slice none 0 0, .int .i64 cd])) ∨ (cd = 0 ∧ ∃ oa oc, e = .returned (.tuple #[.slice oa O.length oc, .int .i64 cd]) ∧ IntsAt w3 oa O ∧ O.length ≤ oc ∧ FreshOf W0 oa)) := by
      rcases h3 with ⟨h1, h2, _⟩ | ⟨h1, oa, oc, h2, h4, h5, _, h6⟩
      · exact .inl ⟨h1, h2⟩
      · exact .inr ⟨h1, oa, oc, by rw [h1]; exact h2, h4, h5, fun g off e => Nat.le_trans HK2.out.size (h6 g off e)⟩
    have hb3 : Below w2.heap.size w2 w3 := by rcases h3 with ⟨_, _, h⟩ | ⟨_, _, _, _, _, _, h, _⟩ <;> exact h
    have HX3 := Lib.hid (HX2.out.keeps (keeps_of_below hb3 []) (by simp))
    have HY3 := Lib.hid (HY2.out.keeps (keeps_of_below hb3 []) (by simp))
    have HK3 := Lib.hid (HK2.out.trans (keeps_of_below hb3 _))
    have HR3 := Lib.hid (HR2.out.keeps (keeps_of_below hb3 []) (by simp) (by simp))
    have HI3 := Lib.hid (HIB.out.below hb3)
    have HG3 := HGV w3 HR3.out
    clear h3 hb3 HS2 HX1 HX2 HY2 HR2
    have HSTEP : Hid (∀ w4, RdA w4 b ao G → Keeps [b] w3 w4 → Box9 w4 w.heap.size #[.int .i64 0, .int .i64 0, .int .i64 0, .slice none 0 0, .int .i64 0, .int .i64 0, .int .i64 0, .slice none 0 0, .slice none 0 0] ∧ Box9 w4 w1.heap.size #[.int .i64 kind, .int .i64 value, .int .i64 shift, .slice ia il ic, .int .i64 lag, .int .i64 gain, .int .i64 part, .slice ka rl kc, .slice da dl dc] ∧ Keeps [b, w.heap.size] W0 w4) := fun w4 hr4 hk4 => ⟨HX3.out.keeps hk4 (by simp; omega), HY3.out.keeps hk4 (by simp; omega), HK3.out.trans (hk4.mono (by simp))⟩
    have HB1 : Hid (∀ x ∈ [b], x < W0.heap.size) := by intro x hx; simp at hx; omega
    by_cases hg : G.err = 0
    · obtain ⟨hcd, oa, oc, he, ho, hoc, hfo⟩ := HE3.out.resolve_left (fun h => h.1 (HCD.out hg))
      subst hcd
      generalize hoe : O.length = ol at *
      have HOE := Lib.hid hoe
      clear hoe
      subst he
      have HO3 := Lib.hid ho
      have HOC := Lib.hid hoc
      have HFO := Lib.hid hfo
      have HGE := Lib.hid hg
      clear ho hoc hfo HE3 hg HCD
      go_wp2_with fail
      refine HG3.out.mono ?_
      rintro e w4 ⟨rfl, hr4, hk4⟩
      obtain ⟨hX4, hY4, hK4⟩ := HSTEP.out w4 hr4 hk4
      have HX4 := Lib.hid hX4
      have HY4 := Lib.hid hY4
      have HK4 := Lib.hid hK4
      have HR4 := Lib.hid hr4
      have HI4 := Lib.hid (HI3.out.i.far HFI.out hk4 HB1.out)
      have HQ4 := Lib.hid (HI3.out.r.far HFK.out hk4 HB1.out)
      have HD4 := Lib.hid (HI3.out.d.far HFD.out hk4 HB1.out)
      have HO4 := Lib.hid (HO3.out.far HFO.out hk4 HB1.out)
      have HF4 := HFA w4 hr4
      dsimp only at HI4 HQ4 HD4
      clear hX4 hY4 hK4 hr4 hk4
      rw [HGE.out] at HF4
      go_wp2_with fail
      refine HF4.out.mono ?_
      rintro e w5 ⟨rfl, rfl⟩
      have k0 := HY4.out.c 0 (.int .i64 kind) rfl
      have k1 := HY4.out.c 1 (.int .i64 value) rfl
      have k2 := HY4.out.c 2 (.int .i64 shift) rfl
      have k3 := HY4.out.c 3 (.slice ia il ic) rfl
      have k4 := HY4.out.c 4 (.int .i64 lag) rfl
      have k5 := HY4.out.c 5 (.int .i64 gain) rfl
      have k6 := HY4.out.c 6 (.int .i64 part) rfl
      have k7 := HY4.out.c 7 (.slice ka rl kc) rfl
      have k8 := HY4.out.c 8 (.slice da dl dc) rfl
      have c0 := HX4.out.c 0 (.int .i64 0) rfl
      have c1 := HX4.out.c 1 (.int .i64 0) rfl
      have c2 := HX4.out.c 2 (.int .i64 0) rfl
      have c3 := HX4.out.c 3 (.slice none 0 0) rfl
      have c4 := HX4.out.c 4 (.int .i64 0) rfl
      have c5 := HX4.out.c 5 (.int .i64 0) rfl
      have c6 := HX4.out.c 6 (.int .i64 0) rfl
      have c7 := HX4.out.c 7 (.slice none 0 0) rfl
      have c8 := HX4.out.c 8 (.slice none 0 0) rfl
      have f0 := HX4.out.f 0 (by decide)
      have f1 := HX4.out.f 1 (by decide)
      have f2 := HX4.out.f 2 (by decide)
      have f3 := HX4.out.f 3 (by decide)
      have f4 := HX4.out.f 4 (by decide)
      have f5 := HX4.out.f 5 (by decide)
      have f6 := HX4.out.f 6 (by decide)
      have f7 := HX4.out.f 7 (by decide)
      have f8 := HX4.out.f 8 (by decide)
      go_wp2
      obtain ⟨hX8, hk8⟩ := HX4.out.set9 (.int .i64 kind) (.int .i64 value) (.int .i64 shift) (.slice ia il ic) (.int .i64 lag) (.int .i64 gain) (.int .i64 part) (.slice ka rl kc) (.slice da dl dc)
      have HK8 := Lib.hid (HKP.out _ (HK4.out.trans (hk8.mono (by simp))))
      have HL0 := Lib.hid (HI4.out.far HFI.out hk8 (fun x hx => HBS.out x (by simp at hx ⊢; exact .inr hx)))
      have HL1 := Lib.hid (HQ4.out.far HFK.out hk8 (fun x hx => HBS.out x (by simp at hx ⊢; exact .inr hx)))
      have HL2 := Lib.hid (HD4.out.far HFD.out hk8 (fun x hx => HBS.out x (by simp at hx ⊢; exact .inr hx)))
      have HL3 := Lib.hid (HO4.out.far HFO.out hk8 (fun x hx => HBS.out x (by simp at hx ⊢; exact .inr hx)))
      have HR8 := Lib.hid (HR4.out.keeps hk8 (by simp; omega) (fun g off e => by have := HA.out g off e; simp; omega))
      unfold Go.Proofs.YtefbakhhlonafaaGreat.set9 at hX8 hk8 HK8 HR8 HL0 HL1 HL2 HL3
      have R0 := hX8.c 0 (.int .i64 kind) rfl
      have R1 := hX8.c 1 (.int .i64 value) rfl
      have R2 := hX8.c 2 (.int .i64 shift) rfl
      have R3 := hX8.c 3 (.slice ia il ic) rfl
      have R4 := hX8.c 4 (.int .i64 lag) rfl
      have R5 := hX8.c 5 (.int .i64 gain) rfl
      have R6 := hX8.c 6 (.int .i64 part) rfl
      have R7 := hX8.c 7 (.slice ka rl kc) rfl
      have R8 := hX8.c 8 (.slice da dl dc) rfl
      refine bodyPost_ret (v := .tuple #[.agg #[.int .i64 kind, .int .i64 value, .int .i64 shift, .slice ia il ic, .int .i64 lag, .int .i64 gain, .int .i64 part, .slice ka rl kc, .slice da dl dc], .slice oa ol oc]) (by simp [results, Tryz.results16, go_sem, R0, R1, R2, R3, R4, R5, R6, R7, R8]) rfl ?_
      have hres := HRES.out
      rw [if_neg (show ¬ (G.err ≠ 0) from fun x => x HGE.out)] at hres
      rw [hres]
      have hsz : w.heap.size ≤ W0.heap.size := by omega
      exact ⟨ia, ka, da, oa, ic, kc, dc, oc, by unfold blkV; dsimp only; rw [HIE.out, HQE.out, HDE.out, HOE.out], HR8.out, ⟨HL0.out, HL1.out, HL2.out, HI3.out.il, HI3.out.rl, HI3.out.dl, HI3.out.ic, HI3.out.rc, HI3.out.dc⟩, HL3.out, by dsimp only; rw [HOE.out]; exact HOC.out, fun g off e => Nat.le_trans hsz (HFI.out g off e), fun g off e => Nat.le_trans hsz (HFK.out g off e), fun g off e => Nat.le_trans hsz (HFD.out g off e), fun g off e => Nat.le_trans hsz (HFO.out g off e), HK8.out⟩
    · have HE4 : Hid (∃ sa sl sc, e = .returned (.tuple #[.slice sa sl sc, .int .i64 cd])) := by
        rcases HE3.out with ⟨_, h⟩ | ⟨_, oa, oc, h, _⟩
        · exact ⟨_, _, _, h⟩
        · exact ⟨_, _, _, h⟩
      obtain ⟨sa, sl, sc, he⟩ := HE4.out
      subst he
      have hres := HRES.out
      rw [if_pos hg] at hres
      have HRS := Lib.hid hres
      have u1 : (G.err != 0) = true := bne_iff_ne.2 hg
      generalize hge : G.err = ge at *
      clear hge hg HE3 HE4 HCD HRES hres
      go_wp2_with fail
      refine HG3.out.mono ?_
      rintro e w4 ⟨rfl, hr4, hk4⟩
      obtain ⟨hX4, hY4, hK4⟩ := HSTEP.out w4 hr4 hk4
      have HX4 := Lib.hid hX4
      have HK4 := Lib.hid hK4
      have HR4 := Lib.hid hr4
      have HF4 := HFA w4 hr4
      clear hX4 hY4 hK4 hr4 hk4
      go_wp2_with fail
      refine HF4.out.mono ?_
      rintro e w5 ⟨rfl, rfl⟩
      have c0 := HX4.out.c 0 (.int .i64 0) rfl
      have c1 := HX4.out.c 1 (.int .i64 0) rfl
      have c2 := HX4.out.c 2 (.int .i64 0) rfl
      have c3 := HX4.out.c 3 (.slice none 0 0) rfl
      have c4 := HX4.out.c 4 (.int .i64 0) rfl
      have c5 := HX4.out.c 5 (.int .i64 0) rfl
      have c6 := HX4.out.c 6 (.int .i64 0) rfl
      have c7 := HX4.out.c 7 (.slice none 0 0) rfl
      have c8 := HX4.out.c 8 (.slice none 0 0) rfl
      have f0 := HX4.out.f 0 (by decide)
      have f1 := HX4.out.f 1 (by decide)
      have f2 := HX4.out.f 2 (by decide)
      have f3 := HX4.out.f 3 (by decide)
      have f4 := HX4.out.f 4 (by decide)
      have f5 := HX4.out.f 5 (by decide)
      have f6 := HX4.out.f 6 (by decide)
      have f7 := HX4.out.f 7 (by decide)
      have f8 := HX4.out.f 8 (by decide)
      go_wp2
      obtain ⟨hX8, hk8⟩ := HX4.out.set9 (.int .i64 0) (.int .i64 0) (.int .i64 0) (.slice none 0 0) (.int .i64 0) (.int .i64 0) (.int .i64 0) (.slice none 0 0) (.slice none 0 0)
      have HK8 := Lib.hid (HKP.out _ (HK4.out.trans (hk8.mono (by simp))))
      have HR8 := Lib.hid (HR4.out.keeps hk8 (by simp; omega) (fun g off e => by have := HA.out g off e; simp; omega))
      unfold Go.Proofs.YtefbakhhlonafaaGreat.set9 at hX8 hk8 HK8 HR8
      have R0 := hX8.c 0 (.int .i64 0) rfl
      have R1 := hX8.c 1 (.int .i64 0) rfl
      have R2 := hX8.c 2 (.int .i64 0) rfl
      have R3 := hX8.c 3 (.slice none 0 0) rfl
      have R4 := hX8.c 4 (.int .i64 0) rfl
      have R5 := hX8.c 5 (.int .i64 0) rfl
      have R6 := hX8.c 6 (.int .i64 0) rfl
      have R7 := hX8.c 7 (.slice none 0 0) rfl
      have R8 := hX8.c 8 (.slice none 0 0) rfl
      refine bodyPost_ret (v := .tuple #[.agg #[.int .i64 0, .int .i64 0, .int .i64 0, .slice none 0 0, .int .i64 0, .int .i64 0, .int .i64 0, .slice none 0 0, .slice none 0 0], .slice none 0 0]) (by simp [results, Tryz.results16, go_sem, R0, R1, R2, R3, R4, R5, R6, R7, R8]) rfl ?_
      rw [HRS.out]
      exact ⟨none, none, none, none, 0, 0, 0, 0, rfl, HR8.out, blkIn_none _, nil_ints _ _, Nat.le_refl _, fresh_none _, fresh_none _, fresh_none _, fresh_none _, HK8.out⟩
end Go.Proofs.YtefbakhhlonafaaGreat
