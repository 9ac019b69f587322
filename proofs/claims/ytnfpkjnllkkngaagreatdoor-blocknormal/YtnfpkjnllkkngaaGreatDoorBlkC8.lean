import Derived.Test.YtnfpkjnllkkngaaGreatDoorBlkC4
import Derived.Test.YtnfpkjnllkkngaaGreatDoorBlkC6

section
namespace Go.Proofs.YtnfpkjnllkkngaaGreatDoor
open Go.RowKit Go.Proofs Go.Proofs.PipeM Go.Proofs.PipeA Go.Proofs.BlkM Go.Proofs.BlkB
open Go.Proofs.LatM (goodL)
open Go.Proofs.FilM (smp codeS)
open Go.Proofs.LagM (goodT codeT codeO onL)
set_option maxRecDepth 100000

/-- isFormed, of all Kinds. -/
theorem cIsFormed (b : Blk) (ia ra da : Option Addr) (ic rc dc : Nat) (n : Nat) (d : Int) (w : World) (hI : BlkIn w b ia ra da ic rc dc) (hn : n ≤ 1024) :
    Calls Tryz.prog 57 #[blkV b ia ra da ic rc dc, .int .i64 n, .int .i64 d] w fun e w' => e = .returned (.bool (formedB b n d)) ∧ Below w.heap.size w w' := by
  obtain ⟨kind, value, shift, index, lag, gain, part, rice, data⟩ := b
  by_cases h2 : kind = 2
  · subst h2; exact cFormed_one value shift lag gain part index rice data ia ra da ic rc dc n d w hI hn
  have HB : Hid (∀ o, Below w.heap.size w (w.alloc o)) := fun o => box_below w o
  have t2 : (kind == 2) = false := beq_eq_false_iff_ne.2 h2
  unfold blkV formedB
  dsimp only
  have hdl := hI.dl
  dsimp only at hdl
  generalize index.length = il at *
  generalize rice.length = rl at *
  generalize data.length = dl at *
  rw [if_neg h2]
  by_cases h3 : kind = 3
  · rw [if_pos h3]
    subst h3
    have HT : Hid ((((dl : Int)) == (n : Int)) = decide (dl = n)) := by
      show _ = _
      by_cases h : dl = n
      · rw [decide_eq_true h]; exact beq_iff_eq.2 (by omega)
      · rw [decide_eq_false h]; exact beq_eq_false_iff_ne.2 (by omega)
    clear h2 hI hdl
    obtain ⟨t, ht⟩ : ∃ t, (((dl : Int)) == (n : Int)) = t := ⟨_, rfl⟩
    rw [ht] at HT
    go_enter Tryz.func57, Tryz.ntmps57
    go_wp2
    go_ret
    exact ⟨by rw [← HT.out]; rfl, HB.out _⟩
  · rw [if_neg h3]
    have t3 : (kind == 3) = false := beq_eq_false_iff_ne.2 h3
    clear h2 h3 hI hdl
    go_enter Tryz.func57, Tryz.ntmps57
    go_wp2
    go_ret
    exact ⟨rfl, HB.out _⟩

/-- What is wrong with a block ahead of its samples. -/
def chkF (b : Blk) (n d : Int) : Int := if !(sizeN n && depthB d) then 1 else formB b n.toNat d
set_option maxHeartbeats 3200000 in
theorem cCheckForm (b : Blk) (ia ra da : Option Addr) (ic rc dc : Nat) (n d : Int) (w : World) (hI : BlkIn w b ia ra da ic rc dc) (hw : Wf9 b) :
    Calls Tryz.prog 32 #[blkV b ia ra da ic rc dc, .int .i64 n, .int .i64 d] w fun e w' => e = .returned (.int .i64 (chkF b n d)) ∧ Below w.heap.size w w' := by
  have HE : Hid (chkF b n d = if !(sizeN n && depthB d) then 1 else formB b n.toNat d) := rfl
  have HS := fun W => Lib.hid (cIsCount n W)
  have HG := fun W => Lib.hid (cIsGood d W)
  have HK := fun W => Lib.hid (cIsKind b.kind W)
  have HF : Hid (∀ m : Nat, n = m → m ≤ 1024 → ∀ W, Below w.heap.size w W → Calls Tryz.prog 57 #[blkV b ia ra da ic rc dc, .int .i64 n, .int .i64 d] W fun e w' => e = .returned (.bool (formedB b m d)) ∧ Below W.heap.size W w') := fun m hm hm2 W hW => by rw [hm]; exact cIsFormed b ia ra da ic rc dc m d W (hI.below hW) hm2
  have HM : Hid (kindB b.kind = true → ∀ W, Calls Tryz.prog 56 #[blkV b ia ra da ic rc dc] W fun e w' => e = .returned (.bool (moreB b)) ∧ Below W.heap.size W w') := fun hk W => cHasMore b ia ra da ic rc dc W hw hI.il hI.rl hI.dl (by have := of_decide_eq_true hk; omega)
  have HEQ : Hid (kindB b.kind = true → ∀ (m k : Nat), formB b m k = if moreB b || !formedB b m k then 2 else 0) := fun hk m k => form_eq hw (by have := of_decide_eq_true hk; omega)
  have HBK : Hid (kindB b.kind = false → ∀ (m : Nat) (k : Int), formB b m k = 16) := fun hk m k => by
    unfold formB wrongKind
    have := of_decide_eq_false hk
    rw [if_pos (by rw [Bool.or_eq_true, decide_eq_true_eq, decide_eq_true_eq]; omega)]
  have HBX : Hid (∀ o, Below w.heap.size w (w.alloc o)) := fun o => box_below w o
  clear hI hw
  generalize chkF b n d = r at *
  cases hs : sizeN n with
  | false =>
    rw [hs, if_pos (by rfl)] at HE
    rw [hs] at HS
    clear hs HF HM HEQ HBK HK
    obtain ⟨kind, value, shift, index, lag, gain, part, rice, data⟩ := b
    unfold blkV
    dsimp only
    generalize index.length = il at *
    generalize rice.length = rl at *
    generalize data.length = dl at *
    go_enter Tryz.func32, Tryz.ntmps32
    go_wp2_with fail
    refine (HS _).out.mono ?_
    rintro e w1 ⟨rfl, rfl⟩
    go_wp2
    go_ret
    exact ⟨by rw [HE.out]; rfl, HBX.out _⟩
  | true =>
    cases hd : depthB d with
    | false =>
      rw [hs, hd, if_pos (by rfl)] at HE
      rw [hs] at HS
      rw [hd] at HG
      clear hs hd HF HM HEQ HBK HK
      obtain ⟨kind, value, shift, index, lag, gain, part, rice, data⟩ := b
      unfold blkV
      dsimp only
      generalize index.length = il at *
      generalize rice.length = rl at *
      generalize data.length = dl at *
      go_enter Tryz.func32, Tryz.ntmps32
      go_wp2_with fail
      refine (HS _).out.mono ?_
      rintro e w1 ⟨rfl, rfl⟩
      go_wp2_with fail
      refine (HG _).out.mono ?_
      rintro e w1 ⟨rfl, rfl⟩
      go_wp2
      go_ret
      exact ⟨by rw [HE.out]; rfl, HBX.out _⟩
    | true =>
      rw [hs, hd, if_neg (by simp)] at HE
      rw [hs] at HS
      rw [hd] at HG
      obtain ⟨m, rfl, hm1, hm2⟩ := sizeN_of hs
      obtain ⟨k, rfl, hk1, hk2⟩ := depthB_of hd
      have HF2 := Lib.hid (HF.out m rfl hm2)
      rw [show ((m : Int)).toNat = m from rfl] at HE
      clear hs hd HF hk1 hk2 hm1
      cases hkd : kindB b.kind with
      | false =>
        have HE2 := Lib.hid (HE.out.trans (HBK.out hkd m k))
        rw [hkd] at HK
        clear hkd HE HEQ HBK HM HF2
        obtain ⟨kind, value, shift, index, lag, gain, part, rice, data⟩ := b
        unfold blkV
        dsimp only at *
        generalize index.length = il at *
        generalize rice.length = rl at *
        generalize data.length = dl at *
        go_enter Tryz.func32, Tryz.ntmps32
        go_wp2_with fail
        refine (HS _).out.mono ?_
        rintro e w1 ⟨rfl, rfl⟩
        go_wp2_with fail
        refine (HG _).out.mono ?_
        rintro e w1 ⟨rfl, rfl⟩
        go_wp2_with fail
        refine (HK _).out.mono ?_
        rintro e w1 ⟨rfl, rfl⟩
        go_wp2
        go_ret
        exact ⟨by rw [HE2.out]; rfl, HBX.out _⟩
      | true =>
        have HE2 := Lib.hid (HE.out.trans (HEQ.out hkd m k))
        have HM2 := Lib.hid (HM.out hkd)
        rw [hkd] at HK
        clear hkd HE HEQ HBK HM
        generalize moreB b = mo at *
        generalize formedB b m k = fo at *
        obtain ⟨kind, value, shift, index, lag, gain, part, rice, data⟩ := b
        unfold blkV at *
        dsimp only at *
        generalize index.length = il at *
        generalize rice.length = rl at *
        generalize data.length = dl at *
        have K : Hid (∀ W, Below (w.heap.size + 1) (w.alloc (.cells #[.int .i64 kind, .int .i64 value, .int .i64 shift, .slice ia il ic, .int .i64 lag, .int .i64 gain, .int .i64 part, .slice ra rl rc, .slice da dl dc] 27)) W → ∀ j v, (#[.int .i64 kind, .int .i64 value, .int .i64 shift, .slice ia il ic, .int .i64 lag, .int .i64 gain, .int .i64 part, .slice ra rl rc, .slice da dl dc] : Array Value)[j]? = some v → W.cell? ⟨w.heap.size, j, none⟩ = some v) := fun W hW j v hj => by
          rw [hW.cell (p := ⟨w.heap.size, j, none⟩) (by simp), cell_of_heap (World.alloc_heap_new w _)]
          exact hj
        cases mo with
        | true =>
          go_enter Tryz.func32, Tryz.ntmps32
          go_wp2_with fail
          refine (HS _).out.mono ?_
          rintro e w1 ⟨rfl, rfl⟩
          go_wp2_with fail
          refine (HG _).out.mono ?_
          rintro e w1 ⟨rfl, rfl⟩
          go_wp2_with fail
          refine (HK _).out.mono ?_
          rintro e w1 ⟨rfl, rfl⟩
          go_wp2_with fail
          refine (HM2.out _).mono ?_
          rintro e w2 ⟨rfl, hb2⟩
          have HB2 : Hid (Below w.heap.size w w2) := (HBX.out _).trans (hb2.mono (by simp))
          clear hb2
          go_wp2
          go_ret
          exact ⟨by rw [HE2.out]; rfl, HB2.out⟩
        | false =>
          go_enter Tryz.func32, Tryz.ntmps32
          go_wp2_with fail
          refine (HS _).out.mono ?_
          rintro e w1 ⟨rfl, rfl⟩
          go_wp2_with fail
          refine (HG _).out.mono ?_
          rintro e w1 ⟨rfl, rfl⟩
          go_wp2_with fail
          refine (HK _).out.mono ?_
          rintro e w1 ⟨rfl, rfl⟩
          go_wp2_with fail
          refine (HM2.out _).mono ?_
          rintro e w2 ⟨rfl, hb2⟩
          have hb2' := hb2.mono (show w.heap.size + 1 ≤ _ by simp)
          have k0 := K.out w2 hb2' 0 (.int .i64 kind) rfl
          have k1 := K.out w2 hb2' 1 (.int .i64 value) rfl
          have k2 := K.out w2 hb2' 2 (.int .i64 shift) rfl
          have k3 := K.out w2 hb2' 3 (.slice ia il ic) rfl
          have k4 := K.out w2 hb2' 4 (.int .i64 lag) rfl
          have k5 := K.out w2 hb2' 5 (.int .i64 gain) rfl
          have k6 := K.out w2 hb2' 6 (.int .i64 part) rfl
          have k7 := K.out w2 hb2' 7 (.slice ra rl rc) rfl
          have k8 := K.out w2 hb2' 8 (.slice da dl dc) rfl
          have HB2 : Hid (Below w.heap.size w w2) := (HBX.out _).trans (hb2.mono (by simp))
          clear hb2 hb2'
          go_wp2_with fail
          refine (HF2.out _ HB2.out).mono ?_
          rintro e w3 ⟨rfl, hb3⟩
          have HB3 : Hid (Below w.heap.size w w3) := HB2.out.trans (hb3.mono HB2.out.size)
          clear hb3 k0 k1 k2 k3 k4 k5 k6 k7 k8
          cases fo with
          | true =>
            go_wp2
            go_ret
            exact ⟨by rw [HE2.out]; rfl, HB3.out⟩
          | false =>
            go_wp2
            go_ret
            exact ⟨by rw [HE2.out]; rfl, HB3.out⟩
end Go.Proofs.YtnfpkjnllkkngaaGreatDoor
end

section
namespace Go.Proofs.YtnfpkjnllkkngaaGreatDoor
open Go.RowKit Go.Proofs Go.Proofs.PipeM Go.Proofs.PipeA Go.Proofs.BlkM Go.Proofs.BlkB
open Go.Proofs.LatM (goodL)
open Go.Proofs.FilM (smp codeS)
open Go.Proofs.LagM (goodT codeT codeO onL)
set_option maxRecDepth 100000

theorem cRepeatH (x : Int) (c : Nat) (w : World) (hc1 : 1 ≤ c) (hc16 : c ≤ 1024) :
    Calls Tryz.prog 59 #[.slice (some ⟨w.heap.size, 0, none⟩) 1 1, .int .i64 (c : Int)] (w.alloc (.cells #[.int .i64 x] 3)) fun e w' => ∃ H, e = .returned (.slice (some ⟨H, 0, none⟩) c c) ∧ IntsAt w' (some ⟨H, 0, none⟩) (List.replicate c x) ∧ w.heap.size ≤ H ∧ Writable w' (some ⟨H, 0, none⟩) c ∧ Below w.heap.size w w' := by
  have hn := World.alloc_heap_new w (.cells #[.int .i64 x] 3)
  refine (cRepeatN w.heap.size 1 c x _ hc1 hc16 (cell_of_heap hn 0) (by simp)).mono ?_
  rintro e w' ⟨H, h1, h2, h3, h5, h4⟩
  exact ⟨H, h1, h2, Nat.le_trans (by simp) h3, h5, (box_below w _).trans (h4.mono (by simp))⟩

/-- Samples that came out, in memory that is new and may be written, or what is wrong. -/
def SampW (code : Int) (m : List Int) (w : World) (e : Ending) (w' : World) : Prop :=
  (code ≠ 0 ∧ e = .returned (.tuple #[.slice none 0 0, .int .i64 code]) ∧ Below w.heap.size w w') ∨
  (code = 0 ∧ ∃ ao cap, e = .returned (.tuple #[.slice ao m.length cap, .int .i64 0]) ∧ IntsAt w' ao m ∧ m.length ≤ cap ∧ Below w.heap.size w w' ∧ FreshOf w ao ∧ Writable w' ao m.length)
theorem SampW.is {c : Int} {m : List Int} {w w' : World} {e : Ending} (h : SampW c m w e w') : SampIs c m w e w' := by
  rcases h with h | ⟨h0, ao, cap, h1, h2, h3, h4, h5, _⟩
  · exact .inl h
  · exact .inr ⟨h0, ao, cap, h1, h2, h3, h4, h5⟩
theorem SampW.bad {c : Int} {m : List Int} {w w' : World} {k : Int} (h : c = k) (hk : k ≠ 0) (hb : Below w.heap.size w w') : SampW c m w (.returned (.tuple #[.slice none 0 0, .int .i64 k])) w' := by
  subst h
  exact .inl ⟨hk, rfl, hb⟩

/-- What is wrong with what comes of a block. -/
theorem wrongOut_two {value shift gain part : Int} {a : Nat} {index rice data : List Int} {n m : Nat} (hm1 : 8 ≤ m) (hm2 : m ≤ 26) (hf : formB ⟨2, value, shift, index, a, gain, part, rice, data⟩ n m = 0) :
    (codeO a gain data ≠ 0 → codeO a gain data = 9) ∧ (codeS index (onL a gain data) (halfOf m - 1) ≠ 0 → codeS index (onL a gain data) (halfOf m - 1) = 9) := by
  obtain ⟨_, _, _, _, hgl, hgt, _, hlo⟩ := two_facts hf
  have hpb := hp_bound hm1 hm2
  constructor
  · intro h
    have h0 := LagM.codeT_of hgt (nOk_in hlo)
    cases hal : (onL a gain data).all LagM.inB with
    | true => exact absurd (LagM.codeO_ok h0 hal) h
    | false => exact LagM.codeO_bad h0 hal
  · intro h
    unfold codeS at h ⊢
    rw [hgl, decide_eq_true (by omega), decide_eq_true (by omega)] at h ⊢
    rw [if_pos (by rfl)] at h ⊢
    split at h
    · rename_i h1
      rw [if_pos h1]
      split at h
      · exact absurd rfl h
      · rename_i h2
        rw [if_neg h2]
    · rename_i h1
      rw [if_neg h1]

theorem formB_data {value shift lag gain part : Int} {index rice data : List Int} {n m : Nat} (hf : formB ⟨3, value, shift, index, lag, gain, part, rice, data⟩ n m = 0) : data.length = n := by
  have h : wrongData ⟨3, value, shift, index, lag, gain, part, rice, data⟩ n = false := by
    cases hwd : wrongData ⟨3, value, shift, index, lag, gain, part, rice, data⟩ n with
    | false => rfl
    | true =>
      unfold formB at hf
      rw [hwd] at hf
      split at hf
      · omega
      · split at hf
        · omega
        · rw [if_pos rfl] at hf
          omega
  unfold wrongData at h
  simp at h
  omega

set_option maxHeartbeats 3200000 in
theorem cTold (b : Blk) (ia ra da : Option Addr) (ic rc dc : Nat) (n m : Nat) (w : World) (hn1 : 1 ≤ n) (hn : n ≤ 1024) (hm1 : 8 ≤ m) (hm2 : m ≤ 26) (hI : BlkIn w b ia ra da ic rc dc) (hf : formB b n m = 0) :
    Calls Tryz.prog 33 #[blkV b ia ra da ic rc dc, .int .i64 n, .int .i64 m] w (SampW (if wrongOut b m then 9 else 0) (outB b n) w) := by
  have HBX : Hid (∀ o, Below w.heap.size w (w.alloc o)) := fun o => box_below w o
  obtain ⟨kind, value, shift, index, lag, gain, part, rice, data⟩ := b
  by_cases h2 : kind = 2
  · subst h2
    obtain ⟨rfl, hdn, hs0, hs1, hgl, hgt, _, hlo⟩ := two_facts hf
    obtain ⟨s, rfl⟩ : ∃ s : Nat, shift = s := ⟨shift.toNat, by omega⟩
    obtain ⟨a, rfl, ha, _⟩ := LagM.goodT_of hgt
    obtain ⟨ho, hso⟩ := wrongOut_two hm1 hm2 hf
    have hOm : outB ⟨2, 0, s, index, a, gain, part, rice, data⟩ n = (smp index (onL a gain data) n).map (· * ((2 ^ s : Nat) : Int)) := by
      unfold outB lowB
      rw [if_pos rfl]
      dsimp only
      rw [show (a : Int).toNat = a from rfl, show (s : Int).toNat = s from rfl, LagM.onL_length, hdn]
      simp
    have hwo : wrongOut ⟨2, 0, s, index, a, gain, part, rice, data⟩ m = (decide (codeO a gain data ≠ 0) || decide (codeS index (onL a gain data) (halfOf m - 1) ≠ 0)) := by simp [wrongOut]
    have HBK : Hid (∀ W, Below w.heap.size w W → Calls Tryz.prog 58 #[blkV ⟨2, 0, s, index, a, gain, part, rice, data⟩ ia ra da ic rc dc, .int .i64 m] W (BackIs (codeO a gain data) (codeS index (onL a gain data) (halfOf m - 1)) ((smp index (onL a gain data) n).map (· * ((2 ^ s : Nat) : Int))) W)) := fun W hW => cBack s a gain part index rice data ia ra da ic rc dc n m W hn1 hn hm1 hm2 (by omega) hdn (hI.below hW)
    rw [hwo, hOm]
    have HO := Lib.hid ho
    have HSO := Lib.hid hso
    generalize codeO a gain data = co at *
    generalize codeS index (onL a gain data) (halfOf m - 1) = cs at *
    generalize (smp index (onL a gain data) n).map (· * ((2 ^ s : Nat) : Int)) = O at *
    obtain ⟨tc, htc⟩ : ∃ tc : Int, tc = if (decide (co ≠ 0) || decide (cs ≠ 0)) then 9 else 0 := ⟨_, rfl⟩
    rw [← htc]
    have HTC := Lib.hid htc
    clear hI hf hdn hs0 hs1 hgl hgt hlo hOm hwo ho hso htc
    unfold blkV at *
    dsimp only at *
    generalize index.length = il at *
    generalize rice.length = rl at *
    generalize data.length = dl at *
    go_enter Tryz.func33, Tryz.ntmps33
    go_wp2_with fail
    refine (HBK.out _ (HBX.out _)).mono ?_
    rintro e w2 (⟨h1, rfl, hb⟩ | ⟨rfl, h1, rfl, hb⟩ | ⟨rfl, rfl, ao, cap, rfl, hi, hcp, hb, hfr, hwr⟩)
    · have HB : Hid (Below w.heap.size w w2) := (HBX.out _).trans (hb.mono (by simp))
      have HN := Lib.hid h1
      clear hb h1
      go_wp2
      refine bodyPost_ret (v := .tuple #[.slice none 0 0, .int .i64 co]) (by simp [results, Tryz.results33, go_sem]) rfl ?_
      have h9 := HTC.out
      rw [decide_eq_true HN.out, Bool.true_or, if_pos rfl] at h9
      rw [h9, HO.out HN.out]
      exact .inl ⟨by omega, rfl, HB.out⟩
    · have HB : Hid (Below w.heap.size w w2) := (HBX.out _).trans (hb.mono (by simp))
      have HN := Lib.hid h1
      clear hb h1
      go_wp2
      refine bodyPost_ret (v := .tuple #[.slice none 0 0, .int .i64 cs]) (by simp [results, Tryz.results33, go_sem]) rfl ?_
      have h9 := HTC.out
      rw [decide_eq_true HN.out, Bool.or_true, if_pos rfl] at h9
      rw [h9, HSO.out HN.out]
      exact .inl ⟨by omega, rfl, HB.out⟩
    · have HB : Hid (Below w.heap.size w w2) := (HBX.out _).trans (hb.mono (by simp))
      have HI := Lib.hid hi
      have HC := Lib.hid hcp
      have HWR := Lib.hid hwr
      have HFR : Hid (FreshOf w ao) := fun g off hh => by
        have := hfr g off hh
        simp at this
        omega
      clear hb hi hcp hfr hwr
      generalize hol : O.length = ol at *
      have HOL := Lib.hid hol
      clear hol
      go_wp2
      refine bodyPost_ret (v := .tuple #[.slice ao ol cap, .int .i64 0]) (by simp [results, Tryz.results33, go_sem]) rfl ?_
      exact .inr ⟨HTC.out, ao, cap, by rw [HOL.out], HI.out, by rw [HOL.out]; exact HC.out, HB.out, HFR.out, by rw [HOL.out]; exact HWR.out⟩
  · have hwo : wrongOut ⟨kind, value, shift, index, lag, gain, part, rice, data⟩ m = false := by unfold wrongOut; dsimp only; rw [decide_eq_false h2]; rfl
    have t2 : (kind == 2) = false := beq_eq_false_iff_ne.2 h2
    rw [hwo, if_neg (by simp)]
    by_cases h3 : kind = 3
    · subst h3
      have hk := formB_data hf
      have hO : outB ⟨3, value, shift, index, lag, gain, part, rice, data⟩ n = data := by unfold outB; rw [if_neg (by show ¬ (3 : Int) = 2; decide), if_pos rfl]
      rw [hO]
      obtain ⟨a0, rfl⟩ : ∃ a0, da = some a0 := by
        obtain ⟨b, off, h, _⟩ := hI.d 0 (by show 0 < data.length; omega)
        exact ⟨_, h⟩
      have HCL : Hid (∀ W, Below w.heap.size w W → Calls Tryz.prog 21 #[.slice (some a0) data.length dc] W (Gx.CopyIs data W)) := fun W hW => Gx.cClone a0 dc data W (by omega) (hI.d.below hW)
      clear hI hf hwo h2 hO hk
      unfold blkV
      dsimp only
      generalize index.length = il at *
      generalize rice.length = rl at *
      generalize hdl : data.length = dl at *
      have HDL := Lib.hid hdl
      clear hdl
      go_enter Tryz.func33, Tryz.ntmps33
      go_wp2_with fail
      refine (HCL.out _ (HBX.out _)).mono ?_
      rintro e w2 ⟨H, hcap, he, hi, ⟨cur, hcur⟩, hcp, hH, _, hb⟩
      rw [HDL.out] at he hcp
      subst he
      have HB : Hid (Below w.heap.size w w2) := (HBX.out _).trans (hb.mono (by simp))
      have HI := Lib.hid hi
      have HC := Lib.hid hcp
      have HWR : Hid (Writable w2 (some ⟨H, 0, none⟩) dl) := fun b' off' e j _ => by cases e; exact frozen_of_heap hcur _
      have HFR : Hid (FreshOf w (some ⟨H, 0, none⟩)) := fun g off hh => by
        cases hh
        simp at hH
        omega
      clear hb hi hcp hH hcur
      go_wp2
      refine bodyPost_ret (v := .tuple #[.slice (some ⟨H, 0, none⟩) dl hcap, .int .i64 0]) (by simp [results, Tryz.results33, go_sem]) rfl ?_
      exact .inr ⟨rfl, some ⟨H, 0, none⟩, hcap, by rw [HDL.out], HI.out, by rw [HDL.out]; exact HC.out, HB.out, HFR.out, by rw [HDL.out]; exact HWR.out⟩
    · have t3 : (kind == 3) = false := beq_eq_false_iff_ne.2 h3
      have hO : outB ⟨kind, value, shift, index, lag, gain, part, rice, data⟩ n = List.replicate n value := by unfold outB; dsimp only; rw [if_neg h2, if_neg h3]
      rw [hO]
      have HR : Hid (∀ o, Calls Tryz.prog 59 #[.slice (some ⟨w.heap.size + 1, 0, none⟩) 1 1, .int .i64 (n : Int)] ((w.alloc o).alloc (.cells #[.int .i64 value] 3)) fun e w' => ∃ H, e = .returned (.slice (some ⟨H, 0, none⟩) n n) ∧ IntsAt w' (some ⟨H, 0, none⟩) (List.replicate n value) ∧ w.heap.size ≤ H ∧ Writable w' (some ⟨H, 0, none⟩) n ∧ Below w.heap.size w w') := fun o => by
        have h := cRepeatH value n (w.alloc o) hn1 hn
        rw [show (w.alloc o).heap.size = w.heap.size + 1 from by simp] at h
        refine h.mono ?_
        rintro e w' ⟨H, h1, h2, h3, h5, h4⟩
        exact ⟨H, h1, h2, by omega, h5, (HBX.out o).trans (h4.mono (by omega))⟩
      clear hI hf hwo h2 h3 hO
      unfold blkV
      dsimp only
      generalize index.length = il at *
      generalize rice.length = rl at *
      generalize data.length = dl at *
      go_enter Tryz.func33, Tryz.ntmps33
      go_wp2_with fail
      refine (HR.out _).mono ?_
      rintro e w2 ⟨H, rfl, hi, hH, hwr, hb⟩
      have HB := Lib.hid hb
      have HWR := Lib.hid hwr
      have HI := Lib.hid hi
      have HFR : Hid (FreshOf w (some ⟨H, 0, none⟩)) := fun g off hh => by
        cases hh
        exact hH
      clear hb hi hH hwr
      go_wp2
      refine bodyPost_ret (v := .tuple #[.slice (some ⟨H, 0, none⟩) n n, .int .i64 0]) (by simp [results, Tryz.results33, go_sem]) rfl ?_
      exact .inr ⟨rfl, some ⟨H, 0, none⟩, n, by rw [List.length_replicate], HI.out, by rw [List.length_replicate]; exact Nat.le_refl _, HB.out, HFR.out, by rw [List.length_replicate]; exact HWR.out⟩
end Go.Proofs.YtnfpkjnllkkngaaGreatDoor
end
