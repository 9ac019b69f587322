import Derived.Test.YtcgkalfclammfaaFilC3
namespace Go.Proofs.Ytcgkalfclammfaa
open Go.RowKit Go.Proofs Go.Proofs.PipeA Go.Proofs.LatM Go.Proofs.FilM
set_option maxRecDepth 100000

/-- A course's way to tell a residual, bound. -/
def tellV (cv : Value) : Value := .func (.func 24) #[cv] #[]

set_option maxHeartbeats 1600000 in
theorem cAll (cv : Value) (m : List Int) (w : World) (hm : m.length ≤ 100000)
    (ht : ∀ i (h : i < m.length) W, Below w.heap.size w W → Calls Try.prog 24 #[cv, .int .i64 (i : Int)] W fun e W' => e = .returned (.int .i64 m[i]) ∧ Below W.heap.size W W') :
    Calls Try.prog 22 #[.int .i64 (m.length : Int), tellV cv] w (NewIs m w) := by
  obtain ⟨cs, hcs, hmk⟩ := makeInts m.length (by omega)
  have HT := Lib.hid ht
  have HK := Lib.hid (keys_new (w := w) m hcs)
  have HB := Lib.hid (box_below w (.cells cs 3))
  clear ht hcs
  unfold tellV
  go_enter Try.func22, Try.ntmps22
  go_wp2
  go_loopg [6, 11] m.length (fun gk q1 i wr => ∃ j : Nat, j ≤ m.length ∧ gk + j = m.length ∧ i = .int .i64 j ∧ Hid (KeysAt wr w.heap.size m.length (fillV m j)) ∧ Hid (Below w.heap.size w wr) ∧ w.heap.size < wr.heap.size)
  case atStart => exact ⟨0, Nat.zero_le _, by omega, rfl, HK, HB, by simp⟩
  case round =>
    obtain ⟨j, hjc, hgk, rfl, HKA, HW, hsz⟩ := hrel
    have HGK := Lib.hid hgk
    clear hgk
    by_cases hlt : j < m.length
    · have HC := Lib.hid (HT.out j hlt wr HW.out)
      have HS : Hid (m.getD j 0 = m[j]) := getD_at hlt
      generalize m[j] = x at HC HS
      obtain ⟨kc, kf⟩ := HKA.out j hlt
      clear kc kf
      go_wp2_with fail
      refine HC.out.mono ?_
      rintro e w1 ⟨rfl, hb1⟩
      have HKA1 := Lib.hid (HKA.out.keeps (keeps_of_below hb1 []) (by simp) hsz)
      have HW1 := Lib.hid (HW.out.trans (hb1.mono HW.out.size))
      have hsz1 : w.heap.size < w1.heap.size := Nat.lt_of_lt_of_le hsz hb1.size
      obtain ⟨kc, kf⟩ := HKA1.out j hlt
      clear hb1 HC HKA HW
      go_wp2
      go_roundg (gk - 1)
      case rel => exact ⟨j + 1, by omega, by have := HGK.out; omega, by go_num, keys_step HKA1.out hlt HS.out.symm, HW1.out.setCell (p := ⟨w.heap.size, j, none⟩) (Nat.le_refl _) _, by simpa using hsz1⟩
      case measure => have := HGK.out; omega
    · obtain rfl : j = m.length := by omega
      have HF : Hid (NewIs m w (.returned (.slice (some ⟨w.heap.size, 0, none⟩) m.length m.length)) wr) :=
        ⟨w.heap.size, rfl, keys_ints HKA.out rfl rfl hsz, Nat.le_refl _, hsz, HW.out⟩
      go_wp2
      go_ret
      exact HF.out

/-- What Residuals leaves. -/
def ResIs (l xs : List Int) (w : World) (e : Ending) (w' : World) : Prop :=
  (codeR l xs ≠ 0 ∧ e = .returned (.tuple #[.slice none 0 0, .int .i64 (codeR l xs)]) ∧ Below w.heap.size w w') ∨
  (codeR l xs = 0 ∧ ∃ H, e = .returned (.tuple #[.slice (some ⟨H, 0, none⟩) xs.length xs.length, .int .i64 0]) ∧ IntsAt w' (some ⟨H, 0, none⟩) (res l xs) ∧ w.heap.size ≤ H ∧ H < w'.heap.size ∧ Below w.heap.size w w')

set_option maxHeartbeats 1600000 in
theorem cResiduals (ao bo : Option Addr) (cap cap2 : Nat) (l xs : List Int) (w : World) (hll : l.length ≤ 9223372036854775807) (hxl : xs.length ≤ 100000) (hcap : xs.length ≤ cap2) (hi : IntsAt w ao l) (hj : IntsAt w bo xs) :
    Calls Try.prog 11 #[.slice ao l.length cap, .slice bo xs.length cap2] w (ResIs l xs w) := by
  have HG := Lib.hid (cGood ao cap l w hll hi)
  have HC := Lib.hid (cContainsNoSample bo cap2 xs w (by omega) hj)
  rw [any_not] at HC
  have hmf : ∀ (fn : Fn) (first cap : Array Value) (w : World), (Instr.makeFunc fn first cap).run Try.prog w = .ok (.func fn first cap) w := fun _ _ _ _ => rfl
  cases hgd : goodL l with
  | false =>
    have hcd : codeR l xs = 1 := by unfold codeR; rw [hgd]; rfl
    rw [hgd] at HG
    have HF := fun W (h : Below w.heap.size w W) => (Or.inl ⟨by omega, by rw [hcd], h⟩ : ResIs l xs w (.returned (.tuple #[.slice none 0 0, .int .i64 1])) W)
    have HFH := Lib.hid HF
    clear hi hj hcd HF
    go_enter Try.func11, Try.ntmps11
    go_wp2_with fail
    refine HG.out.mono ?_
    rintro e w1 ⟨rfl, rfl⟩
    go_wp2
    refine bodyPost_ret (v := .tuple #[.slice none 0 0, .int .i64 1]) (by simp [results, Try.results11, go_sem]) rfl ?_
    exact HFH.out _ (Below.refl _ _)
  | true =>
    rw [hgd] at HG
    cases hs : xs.all isS with
    | false =>
      have hcd : codeR l xs = 9 := by unfold codeR; rw [hgd, hs]; rfl
      rw [hs] at HC
      have HF := fun W (h : Below w.heap.size w W) => (Or.inl ⟨by omega, by rw [hcd], h⟩ : ResIs l xs w (.returned (.tuple #[.slice none 0 0, .int .i64 9])) W)
      have HFH := Lib.hid HF
      clear hi hj hcd HF
      go_enter Try.func11, Try.ntmps11
      go_wp2_with fail
      refine HG.out.mono ?_
      rintro e w1 ⟨rfl, rfl⟩
      go_wp2_with fail
      refine HC.out.mono ?_
      rintro e w1 ⟨rfl, rfl⟩
      go_wp2
      refine bodyPost_ret (v := .tuple #[.slice none 0 0, .int .i64 9]) (by simp [results, Try.results11, go_sem]) rfl ?_
      exact HFH.out _ (Below.refl _ _)
    | true =>
      have HCD : Hid (codeR l xs = 0) := by show _ = _; unfold codeR; rw [hgd, hs]; rfl
      rw [hs] at HC
      have HP := Lib.hid (cPredictorOf ao cap l w hgd hi)
      have hl16 := good_len hgd
      have HJ := Lib.hid hj
      have HGD := Lib.hid hgd
      have HSS := Lib.hid hs
      clear hi hj hgd hs
      go_enter Try.func11, Try.ntmps11
      go_wp2_with fail
      refine HG.out.mono ?_
      rintro e w1 ⟨rfl, rfl⟩
      go_wp2_with fail
      refine HC.out.mono ?_
      rintro e w1 ⟨rfl, rfl⟩
      go_wp2_with fail
      refine HP.out.mono ?_
      rintro e w2 ⟨G, pcap, rfl, hP, hG, hpc, hb2⟩
      have HAL : Hid (Calls Try.prog 22 #[.int .i64 (xs.length : Int), tellV (courseV G pcap l.length bo xs.length cap2)] w2 (NewIs (res l xs) w2)) := by
        have := cAll (courseV G pcap l.length bo xs.length cap2) (res l xs) w2 (by rw [res_length]; omega) (fun i h W hW => by
          rw [res_length] at h
          have := cUnforeseen G pcap l.length bo cap2 i l xs W HGD.out hl16 h (by omega) hcap HSS.out (hP.below hW) ((HJ.out.below hb2).below hW)
          rw [foreM_all] at this
          rw [res_at h]
          exact this)
        rw [res_length] at this
        exact this
      have HB2 := Lib.hid hb2
      unfold tellV courseV at HAL
      clear hP hb2 hG hpc
      go_wp2_with fail
      refine HAL.out.mono ?_
      rintro e w3 ⟨H, rfl, h1, h2, h3, h4⟩
      rw [res_length]
      have HF : Hid (ResIs l xs w (.returned (.tuple #[.slice (some ⟨H, 0, none⟩) xs.length xs.length, .int .i64 0])) w3) :=
        .inr ⟨HCD.out, H, rfl, h1, by have := HB2.out.size; omega, h3, HB2.out.trans (h4.mono HB2.out.size)⟩
      clear h1 h2 h3 h4
      go_wp2
      refine bodyPost_ret (v := .tuple #[.slice (some ⟨H, 0, none⟩) xs.length xs.length, .int .i64 0]) (by simp [results, Try.results11, go_sem]) rfl ?_
      exact HF.out
end Go.Proofs.Ytcgkalfclammfaa
