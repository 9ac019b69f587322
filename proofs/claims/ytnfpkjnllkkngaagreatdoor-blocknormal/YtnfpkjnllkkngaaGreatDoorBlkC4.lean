import Derived.Test.YtnfpkjnllkkngaaGreatDoorBlkC3
import Derived.Test.YtnfpkjnllkkngaaGreatDoorFxFilC6
import Derived.Test.YtnfpkjnllkkngaaGreatDoorGxLagC5
import Derived.Test.YtnfpkjnllkkngaaGreatDoorBlkF6

namespace Go.Proofs.YtnfpkjnllkkngaaGreatDoor
open Go.RowKit Go.Proofs Go.Proofs.PipeM Go.Proofs.PipeA Go.Proofs.BlkM Go.Proofs.BlkB
open Go.Proofs.LatM (goodL)
open Go.Proofs.FilM (smp codeS)
open Go.Proofs.LagM (goodT codeT codeO onL)
set_option maxRecDepth 100000

/-- What comes of a Normal's residuals, in memory that is new, or what is wrong. -/
def BackIs (co cs : Int) (out : List Int) (w : World) (e : Ending) (w' : World) : Prop :=
  (co ≠ 0 ∧ e = .returned (.tuple #[.slice none 0 0, .int .i64 co]) ∧ Below w.heap.size w w') ∨
  (co = 0 ∧ cs ≠ 0 ∧ e = .returned (.tuple #[.slice none 0 0, .int .i64 cs]) ∧ Below w.heap.size w w') ∨
  (co = 0 ∧ cs = 0 ∧ ∃ ao cap, e = .returned (.tuple #[.slice ao out.length cap, .int .i64 0]) ∧ IntsAt w' ao out ∧ out.length ≤ cap ∧ Below w.heap.size w w' ∧ FreshOf w ao ∧ Writable w' ao out.length)
theorem keeps_setCell_b (w : World) (b off : Nat) (v : Value) : Keeps [b] w (w.setCell ⟨b, off, none⟩ v) :=
  ⟨rfl, rfl, rfl, by simp, fun k _ hk => Below.heap_setCell _ _ _ _ (by simpa using hk)⟩
theorem set_far_b {W : World} {H p b off : Nat} {v : Value} (h : b ≠ H) : (W.setCell ⟨H, p, none⟩ v).cell? ⟨b, off, none⟩ = W.cell? ⟨b, off, none⟩ := World.cell?_setCell_other _ _ _ _ (by intro e; cases e; exact h rfl)

set_option maxHeartbeats 6400000 in
theorem cBack (s a : Nat) (gain part : Int) (index rice data : List Int) (ia ra da : Option Addr) (ic rc dc : Nat) (n m : Nat) (w : World) (hn1 : 1 ≤ n) (hn : n ≤ 1024) (hm1 : 8 ≤ m) (hm2 : m ≤ 26) (hs : s ≤ 25) (hdn : data.length = n) (hI : BlkIn w ⟨2, 0, s, index, a, gain, part, rice, data⟩ ia ra da ic rc dc) :
    Calls Tryz.prog 58 #[blkV ⟨2, 0, s, index, a, gain, part, rice, data⟩ ia ra da ic rc dc, .int .i64 m] w (BackIs (codeO a gain data) (codeS index (onL a gain data) (halfOf m - 1)) ((smp index (onL a gain data) n).map (· * ((2 ^ s : Nat) : Int))) w) := by
  have hpb := hp_bound hm1 hm2
  have hsp := pow_small hs
  have hbx := box_below w (.cells #[.int .i64 2, .int .i64 0, .int .i64 s, .slice ia index.length ic, .int .i64 a, .int .i64 gain, .int .i64 part, .slice ra rice.length rc, .slice da data.length dc] 27)
  have HB := Lib.hid hbx
  obtain ⟨w0, hw0⟩ : ∃ w0, w0 = w.alloc (.cells #[.int .i64 2, .int .i64 0, .int .i64 s, .slice ia index.length ic, .int .i64 a, .int .i64 gain, .int .i64 part, .slice ra rice.length rc, .slice da data.length dc] 27) := ⟨_, rfl⟩
  have hnw := World.alloc_heap_new w (.cells #[.int .i64 2, .int .i64 0, .int .i64 s, .slice ia index.length ic, .int .i64 a, .int .i64 gain, .int .i64 part, .slice ra rice.length rc, .slice da data.length dc] 27)
  rw [← hw0] at HB hnw
  have HWL : Hid (w.heap.size < w0.heap.size) := (Array.getElem?_eq_some_iff.1 hnw).1
  have hI0 := hI.below HB.out
  have HTO := fun W => Lib.hid (cTermOf ⟨2, 0, s, index, a, gain, part, rice, data⟩ ia ra da ic rc dc W)
  have HMO := fun W => Lib.hid (cMost m W hm1 hm2)
  have hll := LagM.onL_length a gain data
  obtain ⟨P1, hP1⟩ : ∃ P1, P1 = halfOf (m : Int) - 1 := ⟨_, rfl⟩
  rw [← hP1] at HMO ⊢
  have hP1b : 0 ≤ P1 ∧ P1 ≤ 33554432 := by omega
  obtain ⟨M, hM⟩ : ∃ M, M = smp index (onL a gain data) n := ⟨_, rfl⟩
  have hMl : M.length = n := by rw [hM, FilM.smp_length]
  have hX : ∀ W, Fx.SmpNew index (onL a gain data) P1 W = fun e w' => (codeS index (onL a gain data) P1 ≠ 0 ∧ e = .returned (.tuple #[.slice none 0 0, .int .i64 (codeS index (onL a gain data) P1)]) ∧ Below W.heap.size W w') ∨ (codeS index (onL a gain data) P1 = 0 ∧ ∃ ao cap, e = .returned (.tuple #[.slice ao n cap, .int .i64 0]) ∧ IntsAt w' ao M ∧ n ≤ cap ∧ Below W.heap.size W w' ∧ Fx.NewRow W w' ao n) := fun W => by
    funext e w'
    unfold Fx.SmpNew
    rw [hll, hdn, ← hM]
    rfl
  have hX2 : ∀ W, Gx.OutIs (codeO a gain data) (onL a gain data) W = fun e w' => (codeO a gain data ≠ 0 ∧ e = .returned (.tuple #[.slice none 0 0, .int .i64 (codeO a gain data)]) ∧ Below W.heap.size W w') ∨ (codeO a gain data = 0 ∧ ∃ ao cap, e = .returned (.tuple #[.slice ao n cap, .int .i64 0]) ∧ IntsAt w' ao (onL a gain data) ∧ n ≤ cap ∧ Below W.heap.size W w') := fun W => by
    funext e w'
    unfold Gx.OutIs
    rw [hll, hdn]
    rfl
  have HON2 : Hid (∀ W, Below w0.heap.size w0 W → Calls Tryz.prog 83 #[.agg #[.int .i64 a, .int .i64 gain], .slice da n dc] W fun e w' => (codeO a gain data ≠ 0 ∧ e = .returned (.tuple #[.slice none 0 0, .int .i64 (codeO a gain data)]) ∧ Below W.heap.size W w') ∨ (codeO a gain data = 0 ∧ ∃ ao cap, e = .returned (.tuple #[.slice ao n cap, .int .i64 0]) ∧ IntsAt w' ao (onL a gain data) ∧ n ≤ cap ∧ Below W.heap.size W w')) := fun W hW => by
    have := Gx.cOn a gain da dc data W (by omega) (hI0.d.below hW)
    rw [show ((a : Nat) : Int).toNat = a from rfl, hX2, hdn] at this
    exact this
  have HSA2 : Hid (∀ W ao cap, Below w0.heap.size w0 W → IntsAt W ao (onL a gain data) → Calls Tryz.prog 84 #[.slice ia index.length ic, .slice ao n cap, .int .i64 P1] W fun e w' => (codeS index (onL a gain data) P1 ≠ 0 ∧ e = .returned (.tuple #[.slice none 0 0, .int .i64 (codeS index (onL a gain data) P1)]) ∧ Below W.heap.size W w') ∨ (codeS index (onL a gain data) P1 = 0 ∧ ∃ ao cap, e = .returned (.tuple #[.slice ao n cap, .int .i64 0]) ∧ IntsAt w' ao M ∧ n ≤ cap ∧ Below W.heap.size W w' ∧ Fx.NewRow W w' ao n)) := fun W ao cap hW hi => by
    have := Fx.cSamplesN ia ao ic cap index (onL a gain data) P1 W (by omega) (by have := hI.il; simp only at this; omega) (by omega) (hI0.i.below hW) hi
    rw [hX, hll, hdn] at this
    exact this
  have HSM : Hid (codeS index (onL a gain data) P1 = 0 → ∀ x ∈ M, -67108865 ≤ x ∧ x ≤ 67108864) := fun h => by
    rw [hM]
    unfold codeS at h
    split at h
    · split at h
      · split at h
        · rename_i h3
          rw [hll, hdn] at h3
          exact FilM.all_M (by omega) h3
        · omega
      · omega
    · omega
  have K : Hid (∀ W, Below w0.heap.size w0 W → ∀ j v, (#[.int .i64 2, .int .i64 0, .int .i64 s, .slice ia index.length ic, .int .i64 a, .int .i64 gain, .int .i64 part, .slice ra rice.length rc, .slice da n dc] : Array Value)[j]? = some v → W.cell? ⟨w.heap.size, j, none⟩ = some v) := fun W hW j v hj => by
    rw [hW.cell (p := ⟨w.heap.size, j, none⟩) (Array.getElem?_eq_some_iff.1 hnw).1, cell_of_heap hnw, hdn]
    exact hj
  rw [← hM]
  have HMl := Lib.hid hMl
  unfold blkV at HTO ⊢
  dsimp only at HTO ⊢
  rw [hdn] at HTO hw0 ⊢
  have HW0 := Lib.hid hw0
  have HD0 : Hid (∀ W : World, Below w0.heap.size w0 W → Below w0.heap.size w0 W.drew) := fun W hW => hW.trans ((keeps_drew_b W []).below hW.size (by simp))
  generalize codeO a gain data = co at *
  generalize codeS index (onL a gain data) P1 = cs at *
  generalize onL a gain data = L at *
  generalize index.length = il at *
  generalize rice.length = rl at *
  clear hX hX2 hbx hw0 hnw hI hI0 hll hP1 hM hMl hdn hpb
  have HSK : Hid (∀ W, Below w0.heap.size w0 W → W.cell? ⟨w.heap.size, 0, none⟩ = some (.int .i64 2) ∧ W.cell? ⟨w.heap.size, 1, none⟩ = some (.int .i64 0) ∧ W.cell? ⟨w.heap.size, 2, none⟩ = some (.int .i64 s) ∧ W.cell? ⟨w.heap.size, 3, none⟩ = some (.slice ia il ic) ∧ W.cell? ⟨w.heap.size, 4, none⟩ = some (.int .i64 a) ∧ W.cell? ⟨w.heap.size, 5, none⟩ = some (.int .i64 gain) ∧ W.cell? ⟨w.heap.size, 6, none⟩ = some (.int .i64 part) ∧ W.cell? ⟨w.heap.size, 7, none⟩ = some (.slice ra rl rc) ∧ W.cell? ⟨w.heap.size, 8, none⟩ = some (.slice da n dc)) := fun W hW => ⟨K.out W hW 0 _ rfl, K.out W hW 1 _ rfl, K.out W hW 2 _ rfl, K.out W hW 3 _ rfl, K.out W hW 4 _ rfl, K.out W hW 5 _ rfl, K.out W hW 6 _ rfl, K.out W hW 7 _ rfl, K.out W hW 8 _ rfl⟩
  obtain ⟨SP, hSP⟩ : ∃ SP, SP = ((2 ^ s : Nat) : Int) := ⟨_, rfl⟩
  rw [← hSP] at hsp ⊢
  have HSP : Hid ((2 : Int) ^ s = SP) := by show _ = _; rw [hSP]; simp
  clear hSP
  by_cases c1 : co = 0
  rotate_left
  · have u1 : (co != 0) = true := bne_iff_ne.2 c1
    have HN := Lib.hid c1
    clear c1
    have ps := HSK.out w0 (Below.refl _ _)
    go_enter Tryz.func58, Tryz.ntmps58
    go_wp2_with fail
    rw [← HW0.out]
    go_region_held3 (fun W => W.cell? ⟨w.heap.size, 0, none⟩ = some (.int .i64 2) ∧ W.cell? ⟨w.heap.size, 1, none⟩ = some (.int .i64 0) ∧ W.cell? ⟨w.heap.size, 2, none⟩ = some (.int .i64 s) ∧ W.cell? ⟨w.heap.size, 3, none⟩ = some (.slice ia il ic) ∧ W.cell? ⟨w.heap.size, 4, none⟩ = some (.int .i64 a) ∧ W.cell? ⟨w.heap.size, 5, none⟩ = some (.int .i64 gain) ∧ W.cell? ⟨w.heap.size, 6, none⟩ = some (.int .i64 part) ∧ W.cell? ⟨w.heap.size, 7, none⟩ = some (.slice ra rl rc) ∧ W.cell? ⟨w.heap.size, 8, none⟩ = some (.slice da n dc))
      (first | exact ps | exact p0 | exact p1 | fail)
      (first
        | (go_at_call 63; refine (HTO _).out.mono ?_; rintro e w5 ⟨rfl, hb5⟩; have HB5 : Hid (Below w0.heap.size w0 w5) := (HD0.out w0 (Below.refl _ _)).trans hb5; have p0 := HSK.out w5 HB5.out; clear hb5)
        | (go_at_call 83; refine (HON2.out _ HB5.out).mono ?_; rintro e w6 h6; obtain ⟨rfl, hb6⟩ : e = .returned (.tuple #[.slice none 0 0, .int .i64 co]) ∧ Below w5.heap.size w5 w6 := h6.elim (fun h => h.2) (fun h => absurd h.1 HN.out); have HB6 : Hid (Below w0.heap.size w0 w6) := HB5.out.trans (hb6.mono HB5.out.size); have p1 := HSK.out w6 HB6.out; clear h6 hb6)
        | fail)
    clear ps p0 p1
    go_wp2
    refine bodyPost_ret (v := .tuple #[.slice none 0 0, .int .i64 co]) (by simp [results, Tryz.results58, go_sem]) rfl ?_
    exact .inl ⟨HN.out, rfl, HB.out.trans (HB6.out.mono HB.out.size)⟩
  subst c1
  by_cases c2 : cs = 0
  rotate_left
  · have u2 : (cs != 0) = true := bne_iff_ne.2 c2
    have HN := Lib.hid c2
    clear c2
    have ps := HSK.out w0 (Below.refl _ _)
    go_enter Tryz.func58, Tryz.ntmps58
    go_wp2_with fail
    rw [← HW0.out]
    go_region_held3 (fun W => W.cell? ⟨w.heap.size, 0, none⟩ = some (.int .i64 2) ∧ W.cell? ⟨w.heap.size, 1, none⟩ = some (.int .i64 0) ∧ W.cell? ⟨w.heap.size, 2, none⟩ = some (.int .i64 s) ∧ W.cell? ⟨w.heap.size, 3, none⟩ = some (.slice ia il ic) ∧ W.cell? ⟨w.heap.size, 4, none⟩ = some (.int .i64 a) ∧ W.cell? ⟨w.heap.size, 5, none⟩ = some (.int .i64 gain) ∧ W.cell? ⟨w.heap.size, 6, none⟩ = some (.int .i64 part) ∧ W.cell? ⟨w.heap.size, 7, none⟩ = some (.slice ra rl rc) ∧ W.cell? ⟨w.heap.size, 8, none⟩ = some (.slice da n dc))
      (first | exact ps | exact p0 | exact p1 | fail)
      (first
        | (go_at_call 63; refine (HTO _).out.mono ?_; rintro e w5 ⟨rfl, hb5⟩; have HB5 : Hid (Below w0.heap.size w0 w5) := (HD0.out w0 (Below.refl _ _)).trans hb5; have p0 := HSK.out w5 HB5.out; clear hb5)
        | (go_at_call 83; refine (HON2.out _ HB5.out).mono ?_; rintro e w6 h6; obtain ⟨ao2, cap2, rfl, hi2, _, hb6⟩ := h6.elim (fun h => absurd rfl h.1) (fun h => h.2); have HB6 : Hid (Below w0.heap.size w0 w6) := HB5.out.trans (hb6.mono HB5.out.size); have HI2 := Lib.hid hi2; have p1 := HSK.out w6 HB6.out; clear h6 hb6 hi2)
        | fail)
    clear ps p0 p1
    have k3 := K.out w6 HB6.out 3 (.slice ia il ic) rfl
    go_wp2_with fail
    go_region_held3 (fun W => W.cell? ⟨w.heap.size, 3, none⟩ = some (.slice ia il ic))
      (first | exact k3 | exact p0 | fail)
      (first
        | (go_at_call 67; refine (HMO _).out.mono ?_; rintro e w5 ⟨rfl, rfl⟩)
        | (go_at_call 84; refine (HSA2.out _ _ _ (HD0.out w6 HB6.out) (HI2.out.below ((keeps_drew_b w6 []).below (Nat.le_refl _) (by simp)))).mono ?_; rintro e w7 h7; obtain ⟨rfl, hb7⟩ : e = .returned (.tuple #[.slice none 0 0, .int .i64 cs]) ∧ Below w6.drew.heap.size w6.drew w7 := h7.elim (fun h => h.2) (fun h => absurd h.1 HN.out); have HB7 : Hid (Below w0.heap.size w0 w7) := (HD0.out w6 HB6.out).trans (hb7.mono HB6.out.size); have p0 := K.out w7 HB7.out 3 (.slice ia il ic) rfl; clear h7 hb7)
        | fail)
    go_wp2
    refine bodyPost_ret (v := .tuple #[.slice none 0 0, .int .i64 cs]) (by simp [results, Tryz.results58, go_sem]) rfl ?_
    exact .inr (.inl ⟨rfl, HN.out, rfl, HB.out.trans (HB7.out.mono HB.out.size)⟩)
  subst c2
  have HSM2 := Lib.hid (HSM.out rfl)
  clear HSM
  have ps := HSK.out w0 (Below.refl _ _)
  go_enter Tryz.func58, Tryz.ntmps58
  go_wp2_with fail
  rw [← HW0.out]
  go_region_held3 (fun W => W.cell? ⟨w.heap.size, 0, none⟩ = some (.int .i64 2) ∧ W.cell? ⟨w.heap.size, 1, none⟩ = some (.int .i64 0) ∧ W.cell? ⟨w.heap.size, 2, none⟩ = some (.int .i64 s) ∧ W.cell? ⟨w.heap.size, 3, none⟩ = some (.slice ia il ic) ∧ W.cell? ⟨w.heap.size, 4, none⟩ = some (.int .i64 a) ∧ W.cell? ⟨w.heap.size, 5, none⟩ = some (.int .i64 gain) ∧ W.cell? ⟨w.heap.size, 6, none⟩ = some (.int .i64 part) ∧ W.cell? ⟨w.heap.size, 7, none⟩ = some (.slice ra rl rc) ∧ W.cell? ⟨w.heap.size, 8, none⟩ = some (.slice da n dc))
    (first | exact ps | exact p0 | exact p1 | fail)
    (first
      | (go_at_call 63; refine (HTO _).out.mono ?_; rintro e w5 ⟨rfl, hb5⟩; have HB5 : Hid (Below w0.heap.size w0 w5) := (HD0.out w0 (Below.refl _ _)).trans hb5; have p0 := HSK.out w5 HB5.out; clear hb5)
      | (go_at_call 83; refine (HON2.out _ HB5.out).mono ?_; rintro e w6 h6; obtain ⟨ao2, cap2, rfl, hi2, _, hb6⟩ := h6.elim (fun h => absurd rfl h.1) (fun h => h.2); have HB6 : Hid (Below w0.heap.size w0 w6) := HB5.out.trans (hb6.mono HB5.out.size); have HI2 := Lib.hid hi2; have p1 := HSK.out w6 HB6.out; clear h6 hb6 hi2)
      | fail)
  clear ps p0 p1
  have k3 := K.out w6 HB6.out 3 (.slice ia il ic) rfl
  go_wp2_with fail
  go_region_held3 (fun W => W.cell? ⟨w.heap.size, 3, none⟩ = some (.slice ia il ic))
    (first | exact k3 | exact p0 | fail)
    (first
      | (go_at_call 67; refine (HMO _).out.mono ?_; rintro e w5 ⟨rfl, rfl⟩)
      | (go_at_call 84; refine (HSA2.out _ _ _ (HD0.out w6 HB6.out) (HI2.out.below ((keeps_drew_b w6 []).below (Nat.le_refl _) (by simp)))).mono ?_; rintro e w7 h7; obtain ⟨ao3, cap3, rfl, hi3, hcap3, hb7, hnr⟩ := h7.elim (fun h => absurd rfl h.1) (fun h => h.2); have HB7 : Hid (Below w0.heap.size w0 w7) := (HD0.out w6 HB6.out).trans (hb7.mono HB6.out.size); have HI3 := Lib.hid hi3; have HC3 := Lib.hid hcap3; have HNR := Lib.hid hnr; have p0 := K.out w7 HB7.out 3 (.slice ia il ic) rfl; clear h7 hb7 hi3 hcap3 hnr)
      | fail)
  obtain ⟨H, cur, rfl, hH, hcur⟩ := HNR.out.resolve_left (by omega)
  have hKA := Gx.fill_start (f := fun j => M.getD j 0 * SP) (p := 0) HI3.out hcur (fun j hj _ => absurd hj (Nat.not_lt_zero _))
  rw [HMl.out] at hKA
  have HKA := Lib.hid hKA
  have hHlt : H < w7.heap.size := (Array.getElem?_eq_some_iff.1 hcur).1
  have hHw : w.heap.size < H := Nat.lt_of_lt_of_le HWL.out (Nat.le_trans HB6.out.size hH)
  clear hH hcur hKA p0 k3
  go_wp2
  go_loopg [9, 35] n (fun gk q i wr => ∃ c : Nat, c ≤ n ∧ gk + c = n ∧ i = .int .i64 c ∧ Hid (Gx.KeysAt wr H n (Gx.fillF (fun j => M.getD j 0 * SP) M c)) ∧ Hid (Keeps [H] w7 wr))
  case atStart => exact ⟨0, Nat.zero_le _, by omega, rfl, HKA, Keeps.refl _ _⟩
  case round =>
    obtain ⟨c, hc, hgk, rfl, HKC, HWC⟩ := hrel
    have HGK := Lib.hid hgk
    clear hgk HKA
    have hHwr : H < wr.heap.size := Nat.lt_of_lt_of_le hHlt HWC.out.size
    by_cases hlt : c < n
    · have hcm : c < M.length := by rw [HMl.out]; exact hlt
      have hxb := HSM2.out _ (List.getElem_mem hcm)
      obtain ⟨x, hx⟩ : ∃ x, x = M[c] := ⟨_, rfl⟩
      rw [← hx] at hxb
      have hgd : M.getD c 0 = x := by rw [LagM.getD_lt hcm, hx]
      obtain ⟨c0, f0⟩ := Gx.fill_at HKC.out hlt x (by rw [if_neg (Nat.lt_irrefl _), hgd])
      have k2 : wr.cell? ⟨w.heap.size, 2, none⟩ = some (.int .i64 s) := (HWC.out.cell (p := ⟨w.heap.size, 2, none⟩) (Nat.lt_trans hHw hHlt) (by simp; omega)).trans (K.out w7 HB7.out 2 (.int .i64 s) rfl)
      obtain ⟨z, hz⟩ : ∃ z, z = x * SP := ⟨_, rfl⟩
      have HY : Hid (M.getD c 0 * SP = z) := by show _ = _; rw [hgd, hz]
      have hprod : -2251799851925504 ≤ x * SP ∧ x * SP ≤ 2251799851925504 := by
        have h1 : x.natAbs ≤ 67108865 := by omega
        have h2 : SP.natAbs ≤ 33554432 := by omega
        have h3 := Nat.mul_le_mul h1 h2
        rw [← Int.natAbs_mul] at h3
        omega
      have HZ : Hid (wrap64 (x * 2 ^ s) = z) := by show _ = _; rw [HSP.out, hz]; exact IntWalk.wrap64_in _ (by omega)
      clear hx hgd hcm hxb hprod hz
      go_wp2_with fail
      refine wp_region_held_drew (S := fun W => W.cell? ⟨w.heap.size, 2, none⟩ = some (.int .i64 s)) (by kernel_rfl) k2 (fun hHeld => ?_)
      refine Gx.take_at (i := 0) (d := some 38) (v := ?_) rfl rfl (by kernel_rfl) (by kernel_rfl) (by kernel_rfl) (fun _ _ _ h => h) (Or.inl ⟨by rfl, ?_⟩) hHeld ?_
      rotate_left
      · intro w9 hSw; have s2 := hSw; go_simp; try with_reducible rfl
      simp only [Act.put, List.setIfInBounds_toArray, List.set_cons_zero, List.set_cons_succ]
      refine Gx.take_at (i := 1) (d := some 39) (v := ?_) rfl rfl (by kernel_rfl) (by kernel_rfl) (by kernel_rfl) (fun _ _ _ h => h) (Or.inl ⟨by rfl, ?_⟩) hHeld ?_
      rotate_left
      · intro w9 hSw; have s2 := hSw; go_simp; try with_reducible rfl
      simp only [Act.put, List.setIfInBounds_toArray, List.set_cons_zero, List.set_cons_succ]
      refine Gx.take_at (i := 2) (d := some 40) (v := ?_) rfl rfl (by kernel_rfl) (by kernel_rfl) (by kernel_rfl) (fun _ _ _ h => h) (Or.inl ⟨by rfl, ?_⟩) hHeld ?_
      rotate_left
      · intro w9 hSw; have s2 := hSw; go_simp; try with_reducible rfl
      simp only [Act.put, List.setIfInBounds_toArray, List.set_cons_zero, List.set_cons_succ]
      refine Gx.take_at (i := 4) (d := some 42) (v := ?_) rfl rfl (by kernel_rfl) (by kernel_rfl) (by kernel_rfl) (fun _ _ _ h => h) (Or.inl ⟨by rfl, ?_⟩) hHeld ?_
      rotate_left
      · intro w9 hSw; have s2 := hSw; go_simp; try with_reducible rfl
      simp only [Act.put, List.setIfInBounds_toArray, List.set_cons_zero, List.set_cons_succ]
      refine Gx.take_at (i := 5) (d := some 43) (v := ?_) rfl rfl (by kernel_rfl) (by kernel_rfl) (by kernel_rfl) (fun _ _ _ h => h) (Or.inl ⟨by rfl, ?_⟩) hHeld ?_
      rotate_left
      · intro w9 hSw; have s2 := hSw; go_simp; try with_reducible rfl
      simp only [Act.put, List.setIfInBounds_toArray, List.set_cons_zero, List.set_cons_succ]
      refine wpAnyH_ready (rs := [3]) (by kernel_rfl) (by simp) ?_
      refine AllReadyH.cons rfl (fun K hK => ?_) ?_
      · go_simp
        refine hK.out _ _ ?_ (fun hHeld => ?_)
        · first | exact hHeld | exact (set_far_b (by omega)).trans hHeld
        clear hK K
        refine Gx.take_at (i := 6) (d := some 44) (v := ?_) rfl rfl (by kernel_rfl) (by kernel_rfl) (by kernel_rfl) (fun _ _ _ h => h) (Or.inl ⟨by rfl, ?_⟩) hHeld ?_
        rotate_left
        · intro w9 hSw; have s2 := hSw; go_simp; try with_reducible rfl
        simp only [Act.put, List.setIfInBounds_toArray, List.set_cons_zero, List.set_cons_succ]
        refine Gx.take_at (i := 7) (d := some 45) (v := ?_) rfl rfl (by kernel_rfl) (by kernel_rfl) (by kernel_rfl) (fun _ _ _ h => h) (Or.inl ⟨by rfl, ?_⟩) hHeld ?_
        rotate_left
        · intro w9 hSw; have s2 := hSw; go_simp; try with_reducible rfl
        simp only [Act.put, List.setIfInBounds_toArray, List.set_cons_zero, List.set_cons_succ]
        refine wpAnyH_ready (rs := [8]) (by kernel_rfl) (by simp) ?_
        refine AllReadyH.cons rfl (fun K hK => ?_) ?_
        · go_simp
          refine hK.out _ _ ?_ (fun hHeld => ?_)
          · first | exact hHeld | exact (set_far_b (by omega)).trans hHeld
          clear hK K
          refine wpAnyH_done (by kernel_rfl) ?_ _
          have HK6 : Hid (Gx.KeysAt (wr.setCell ⟨H, c, none⟩ (.int .i64 (wrap64 (x * 2 ^ s)))).drew H n (Gx.fillF (fun j => M.getD j 0 * SP) M (c + 1))) := by have := Gx.fill_set HKC.out hlt; rw [HY.out, ← HZ.out] at this; exact this
          have HW6 : Hid (Keeps [H] w7 (wr.setCell ⟨H, c, none⟩ (.int .i64 (wrap64 (x * 2 ^ s)))).drew) := (HWC.out.trans (keeps_setCell_b _ _ _ _)).trans (keeps_drew_b _ [H])
          clear hHeld c0 f0 k2
          go_wp2
          go_roundg (gk - 1)
          case rel => exact ⟨c + 1, by omega, by have := HGK.out; omega, by go_num, HK6, HW6⟩
          case measure => have := HGK.out; omega
        exact AllReadyH.nil
      exact AllReadyH.nil

    · obtain rfl : c = n := by omega
      have hMm : (M.map (· * SP)).length = c := by rw [List.length_map, HMl.out]
      have HIO : Hid (IntsAt wr (some ⟨H, 0, none⟩) (M.map (· * SP))) := by
        have := Gx.fill_end (l := M) (m := M.map (· * SP)) (by rw [HMl.out]; exact HKC.out) (by rw [HMl.out]; exact Nat.le_refl _) (by simp) (fun j hj => by rw [List.getElem_map, LagM.getD_lt]) hHwr
        exact this
      have HBW : Hid (Below w.heap.size w wr) := (HB.out.trans (HB7.out.mono HB.out.size)).trans (HWC.out.below (Nat.le_trans HB.out.size HB7.out.size) (by simp; omega))
      have HML := Lib.hid hMm
      clear hMm
      go_wp2
      refine bodyPost_ret (v := .tuple #[.slice (some ⟨H, 0, none⟩) c cap3, .int .i64 0]) (by simp [results, Tryz.results58, go_sem]) rfl ?_
      exact .inr (.inr ⟨rfl, rfl, some ⟨H, 0, none⟩, cap3, by rw [HML.out], HIO.out, by rw [HML.out]; exact HC3.out, HBW.out, (fun g off hh => by cases hh; omega), fun b' off' e j hj => by cases e; rw [HML.out] at hj; rw [Nat.zero_add]; exact (HKC.out j hj).2⟩)
end Go.Proofs.YtnfpkjnllkkngaaGreatDoor
