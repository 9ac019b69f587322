import Derived.Test.YtefbakhhlonafaaBlkC7

namespace Go.Proofs.Ytefbakhhlonafaa
open Go.RowKit Go.Proofs Go.Proofs.PipeM Go.Proofs.PipeA Go.Proofs.BlkM Go.Proofs.BlkB
open Go.Proofs.LatM (goodL)
open Go.Proofs.FilM (smp codeS)
open Go.Proofs.LagM (goodT codeT codeO onL)
set_option maxRecDepth 100000

theorem cRepeatH (x : Int) (c : Nat) (w : World) (hc1 : 1 ≤ c) (hc16 : c ≤ 1024) :
    Calls Try.prog 43 #[.slice (some ⟨w.heap.size, 0, none⟩) 1 1, .int .i64 (c : Int)] (w.alloc (.cells #[.int .i64 x] 3)) fun e w' => ∃ H, e = .returned (.slice (some ⟨H, 0, none⟩) c c) ∧ IntsAt w' (some ⟨H, 0, none⟩) (List.replicate c x) ∧ w.heap.size ≤ H ∧ Writable w' (some ⟨H, 0, none⟩) c ∧ Below w.heap.size w w' := by
  have hn := World.alloc_heap_new w (.cells #[.int .i64 x] 3)
  refine (cRepeatN w.heap.size 1 c x _ hc1 hc16 (cell_of_heap hn 0) (by simp)).mono ?_
  rintro e w' ⟨H, h1, h2, h3, h5, h4⟩
  exact ⟨H, h1, h2, Nat.le_trans (by simp) h3, h5, (box_below w _).trans (h4.mono (by simp))⟩

/-- Samples that came out, in memory that is new and may be written, or what is wrong. -/
def SampW (code : Int) (m : List Int) (w : World) (e : Ending) (w' : World) : Prop :=
  (code ≠ 0 ∧ e = .returned (.tuple #[.slice none 0 0, .int .i64 code]) ∧ Below w.heap.size w w') ∨
  (code = 0 ∧ ∃ ao cap, e = .returned (.tuple #[.slice ao m.length cap, .int .i64 0]) ∧ IntsAt w' ao m ∧ m.length ≤ cap ∧ Below w.heap.size w w' ∧ FreshOf w ao ∧ Writable w' ao m.length)
theorem SampW.is {c : Int} {m : List Int} {w w' : World} {e : Ending} (h : SampW c m w e w') : SampIs c m w e w' := by
  rcases h with h | ⟨h0, ao, cap, h1, h2, h3, h4, h5, _⟩
  · exact .inl h
  · exact .inr ⟨h0, ao, cap, h1, h2, h3, h4, h5⟩
theorem SampW.bad {c : Int} {m : List Int} {w w' : World} {k : Int} (h : c = k) (hk : k ≠ 0) (hb : Below w.heap.size w w') : SampW c m w (.returned (.tuple #[.slice none 0 0, .int .i64 k])) w' := by
  subst h
  exact .inl ⟨hk, rfl, hb⟩

/-- What is wrong with what comes of a block. -/
theorem wrongOut_two {value shift gain part : Int} {a : Nat} {index rice data : List Int} {n m : Nat} (hm1 : 8 ≤ m) (hm2 : m ≤ 26) (hf : formB ⟨2, value, shift, index, a, gain, part, rice, data⟩ n m = 0) :
    (codeO a gain data ≠ 0 → codeO a gain data = 9) ∧ (codeS index (onL a gain data) (halfOf m - 1) ≠ 0 → codeS index (onL a gain data) (halfOf m - 1) = 9) := by
  obtain ⟨_, _, _, _, hgl, hgt, _, hlo⟩ := two_facts hf
  have hpb := hp_bound hm1 hm2
  constructor
  · intro h
    have h0 := LagM.codeT_of hgt (nOk_in hlo)
    cases hal : (onL a gain data).all LagM.inB with
    | true => exact absurd (LagM.codeO_ok h0 hal) h
    | false => exact LagM.codeO_bad h0 hal
  · intro h
    unfold codeS at h ⊢
    rw [hgl, decide_eq_true (by omega), decide_eq_true (by omega)] at h ⊢
    rw [if_pos (by rfl)] at h ⊢
    split at h
    · rename_i h1
      rw [if_pos h1]
      split at h
      · exact absurd rfl h
      · rename_i h2
        rw [if_neg h2]
    · rename_i h1
      rw [if_neg h1]

theorem formB_data {value shift lag gain part : Int} {index rice data : List Int} {n m : Nat} (hf : formB ⟨3, value, shift, index, lag, gain, part, rice, data⟩ n m = 0) : data.length = n := by
  have h : wrongData ⟨3, value, shift, index, lag, gain, part, rice, data⟩ n = false := by
    cases hwd : wrongData ⟨3, value, shift, index, lag, gain, part, rice, data⟩ n with
    | false => rfl
    | true =>
      unfold formB at hf
      rw [hwd] at hf
      split at hf
      · omega
      · split at hf
        · omega
        · rw [if_pos rfl] at hf
          omega
  unfold wrongData at h
  simp at h
  omega

set_option maxHeartbeats 3200000 in
theorem cTold (b : Blk) (ia ra da : Option Addr) (ic rc dc : Nat) (n m : Nat) (w : World) (hn1 : 1 ≤ n) (hn : n ≤ 1024) (hm1 : 8 ≤ m) (hm2 : m ≤ 26) (hI : BlkIn w b ia ra da ic rc dc) (hf : formB b n m = 0) :
    Calls Try.prog 20 #[blkV b ia ra da ic rc dc, .int .i64 n, .int .i64 m] w (SampW (if wrongOut b m then 9 else 0) (outB b n) w) := by
  have HBX : Hid (∀ o, Below w.heap.size w (w.alloc o)) := fun o => box_below w o
  obtain ⟨kind, value, shift, index, lag, gain, part, rice, data⟩ := b
  by_cases h2 : kind = 2
  · subst h2
    obtain ⟨rfl, hdn, hs0, hs1, hgl, hgt, _, hlo⟩ := two_facts hf
    obtain ⟨s, rfl⟩ : ∃ s : Nat, shift = s := ⟨shift.toNat, by omega⟩
    obtain ⟨a, rfl, ha, _⟩ := LagM.goodT_of hgt
    obtain ⟨ho, hso⟩ := wrongOut_two hm1 hm2 hf
    have hOm : outB ⟨2, 0, s, index, a, gain, part, rice, data⟩ n = (smp index (onL a gain data) n).map (· * ((2 ^ s : Nat) : Int)) := by
      unfold outB lowB
      rw [if_pos rfl]
      dsimp only
      rw [show (a : Int).toNat = a from rfl, show (s : Int).toNat = s from rfl, LagM.onL_length, hdn]
      simp
    have hwo : wrongOut ⟨2, 0, s, index, a, gain, part, rice, data⟩ m = (decide (codeO a gain data ≠ 0) || decide (codeS index (onL a gain data) (halfOf m - 1) ≠ 0)) := by simp [wrongOut]
    have HBK : Hid (∀ W, Below w.heap.size w W → Calls Try.prog 42 #[blkV ⟨2, 0, s, index, a, gain, part, rice, data⟩ ia ra da ic rc dc, .int .i64 m] W (BackIs (codeO a gain data) (codeS index (onL a gain data) (halfOf m - 1)) ((smp index (onL a gain data) n).map (· * ((2 ^ s : Nat) : Int))) W)) := fun W hW => cBack s a gain part index rice data ia ra da ic rc dc n m W hn1 hn hm1 hm2 (by omega) hdn (hI.below hW)
    rw [hwo, hOm]
    have HO := Lib.hid ho
    have HSO := Lib.hid hso
    generalize codeO a gain data = co at *
    generalize codeS index (onL a gain data) (halfOf m - 1) = cs at *
    generalize (smp index (onL a gain data) n).map (· * ((2 ^ s : Nat) : Int)) = O at *
    obtain ⟨tc, htc⟩ : ∃ tc : Int, tc = if (decide (co ≠ 0) || decide (cs ≠ 0)) then 9 else 0 := ⟨_, rfl⟩
    rw [← htc]
    have HTC := Lib.hid htc
    clear hI hf hdn hs0 hs1 hgl hgt hlo hOm hwo ho hso htc
    unfold blkV at *
    dsimp only at *
    generalize index.length = il at *
    generalize rice.length = rl at *
    generalize data.length = dl at *
    go_enter Try.func20, Try.ntmps20
    go_wp2_with fail
    refine (HBK.out _ (HBX.out _)).mono ?_
    rintro e w2 (⟨h1, rfl, hb⟩ | ⟨rfl, h1, rfl, hb⟩ | ⟨rfl, rfl, ao, cap, rfl, hi, hcp, hb, hfr, hwr⟩)
    · have HB : Hid (Below w.heap.size w w2) := (HBX.out _).trans (hb.mono (by simp))
      have HN := Lib.hid h1
      clear hb h1
      go_wp2
      refine bodyPost_ret (v := .tuple #[.slice none 0 0, .int .i64 co]) (by simp [results, Try.results20, go_sem]) rfl ?_
      have h9 := HTC.out
      rw [decide_eq_true HN.out, Bool.true_or, if_pos rfl] at h9
      rw [h9, HO.out HN.out]
      exact .inl ⟨by omega, rfl, HB.out⟩
    · have HB : Hid (Below w.heap.size w w2) := (HBX.out _).trans (hb.mono (by simp))
      have HN := Lib.hid h1
      clear hb h1
      go_wp2
      refine bodyPost_ret (v := .tuple #[.slice none 0 0, .int .i64 cs]) (by simp [results, Try.results20, go_sem]) rfl ?_
      have h9 := HTC.out
      rw [decide_eq_true HN.out, Bool.or_true, if_pos rfl] at h9
      rw [h9, HSO.out HN.out]
      exact .inl ⟨by omega, rfl, HB.out⟩
    · have HB : Hid (Below w.heap.size w w2) := (HBX.out _).trans (hb.mono (by simp))
      have HI := Lib.hid hi
      have HC := Lib.hid hcp
      have HWR := Lib.hid hwr
      have HFR : Hid (FreshOf w ao) := fun g off hh => by
        have := hfr g off hh
        simp at this
        omega
      clear hb hi hcp hfr hwr
      generalize hol : O.length = ol at *
      have HOL := Lib.hid hol
      clear hol
      go_wp2
      refine bodyPost_ret (v := .tuple #[.slice ao ol cap, .int .i64 0]) (by simp [results, Try.results20, go_sem]) rfl ?_
      exact .inr ⟨HTC.out, ao, cap, by rw [HOL.out], HI.out, by rw [HOL.out]; exact HC.out, HB.out, HFR.out, by rw [HOL.out]; exact HWR.out⟩
  · have hwo : wrongOut ⟨kind, value, shift, index, lag, gain, part, rice, data⟩ m = false := by unfold wrongOut; dsimp only; rw [decide_eq_false h2]; rfl
    have t2 : (kind == 2) = false := beq_eq_false_iff_ne.2 h2
    rw [hwo, if_neg (by simp)]
    by_cases h3 : kind = 3
    · subst h3
      have hk := formB_data hf
      have hO : outB ⟨3, value, shift, index, lag, gain, part, rice, data⟩ n = data := by unfold outB; rw [if_neg (by show ¬ (3 : Int) = 2; decide), if_pos rfl]
      rw [hO]
      obtain ⟨a0, rfl⟩ : ∃ a0, da = some a0 := by
        obtain ⟨b, off, h, _⟩ := hI.d 0 (by show 0 < data.length; omega)
        exact ⟨_, h⟩
      have HCL : Hid (∀ W, Below w.heap.size w W → Calls Try.prog 28 #[.slice (some a0) data.length dc] W (Gx.CopyIs data W)) := fun W hW => Gx.cClone a0 dc data W (by omega) (hI.d.below hW)
      clear hI hf hwo h2 hO hk
      unfold blkV
      dsimp only
      generalize index.length = il at *
      generalize rice.length = rl at *
      generalize hdl : data.length = dl at *
      have HDL := Lib.hid hdl
      clear hdl
      go_enter Try.func20, Try.ntmps20
      go_wp2_with fail
      refine (HCL.out _ (HBX.out _)).mono ?_
      rintro e w2 ⟨H, hcap, he, hi, ⟨cur, hcur⟩, hcp, hH, _, hb⟩
      rw [HDL.out] at he hcp
      subst he
      have HB : Hid (Below w.heap.size w w2) := (HBX.out _).trans (hb.mono (by simp))
      have HI := Lib.hid hi
      have HC := Lib.hid hcp
      have HWR : Hid (Writable w2 (some ⟨H, 0, none⟩) dl) := fun b' off' e j _ => by cases e; exact frozen_of_heap hcur _
      have HFR : Hid (FreshOf w (some ⟨H, 0, none⟩)) := fun g off hh => by
        cases hh
        simp at hH
        omega
      clear hb hi hcp hH hcur
      go_wp2
      refine bodyPost_ret (v := .tuple #[.slice (some ⟨H, 0, none⟩) dl hcap, .int .i64 0]) (by simp [results, Try.results20, go_sem]) rfl ?_
      exact .inr ⟨rfl, some ⟨H, 0, none⟩, hcap, by rw [HDL.out], HI.out, by rw [HDL.out]; exact HC.out, HB.out, HFR.out, by rw [HDL.out]; exact HWR.out⟩
    · have t3 : (kind == 3) = false := beq_eq_false_iff_ne.2 h3
      have hO : outB ⟨kind, value, shift, index, lag, gain, part, rice, data⟩ n = List.replicate n value := by unfold outB; dsimp only; rw [if_neg h2, if_neg h3]
      rw [hO]
      have HR : Hid (∀ o, Calls Try.prog 43 #[.slice (some ⟨w.heap.size + 1, 0, none⟩) 1 1, .int .i64 (n : Int)] ((w.alloc o).alloc (.cells #[.int .i64 value] 3)) fun e w' => ∃ H, e = .returned (.slice (some ⟨H, 0, none⟩) n n) ∧ IntsAt w' (some ⟨H, 0, none⟩) (List.replicate n value) ∧ w.heap.size ≤ H ∧ Writable w' (some ⟨H, 0, none⟩) n ∧ Below w.heap.size w w') := fun o => by
        have h := cRepeatH value n (w.alloc o) hn1 hn
        rw [show (w.alloc o).heap.size = w.heap.size + 1 from by simp] at h
        refine h.mono ?_
        rintro e w' ⟨H, h1, h2, h3, h5, h4⟩
        exact ⟨H, h1, h2, by omega, h5, (HBX.out o).trans (h4.mono (by omega))⟩
      clear hI hf hwo h2 h3 hO
      unfold blkV
      dsimp only
      generalize index.length = il at *
      generalize rice.length = rl at *
      generalize data.length = dl at *
      go_enter Try.func20, Try.ntmps20
      go_wp2_with fail
      refine (HR.out _).mono ?_
      rintro e w2 ⟨H, rfl, hi, hH, hwr, hb⟩
      have HB := Lib.hid hb
      have HWR := Lib.hid hwr
      have HI := Lib.hid hi
      have HFR : Hid (FreshOf w (some ⟨H, 0, none⟩)) := fun g off hh => by
        cases hh
        exact hH
      clear hb hi hH hwr
      go_wp2
      refine bodyPost_ret (v := .tuple #[.slice (some ⟨H, 0, none⟩) n n, .int .i64 0]) (by simp [results, Try.results20, go_sem]) rfl ?_
      exact .inr ⟨rfl, some ⟨H, 0, none⟩, n, by rw [List.length_replicate], HI.out, by rw [List.length_replicate]; exact Nat.le_refl _, HB.out, HFR.out, by rw [List.length_replicate]; exact HWR.out⟩
end Go.Proofs.Ytefbakhhlonafaa
