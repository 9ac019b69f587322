import Derived.Test.YtdkefmnaleagfaaLawR3
namespace Go.Proofs.Ytdkefmnaleagfaa
open Go.RowKit Go.Proofs Go.Proofs.PipeM Go.Proofs.PipeA

/-- Three cells of a block. -/
structure Box1 (w : World) (b : Nat) (v0 v1 v2 : Value) : Prop where
  lt : b < w.heap.size
  c0 : w.cell? ⟨b, 0, none⟩ = some v0
  c1 : w.cell? ⟨b, 1, none⟩ = some v1
  c2 : w.cell? ⟨b, 2, none⟩ = some v2
  f0 : w.frozen? ⟨b, 0, none⟩ = false
  f1 : w.frozen? ⟨b, 1, none⟩ = false
  f2 : w.frozen? ⟨b, 2, none⟩ = false

theorem Box1.keeps {w w' : World} {b : Nat} {bs : List Nat} {v0 v1 v2 : Value} (h : Box1 w b v0 v1 v2) (hk : Keeps bs w w') (hb : b ∉ bs) : Box1 w' b v0 v1 v2 :=
  ⟨Nat.lt_of_lt_of_le h.lt hk.size, (hk.cell (p := ⟨b, 0, none⟩) h.lt hb).trans h.c0, (hk.cell (p := ⟨b, 1, none⟩) h.lt hb).trans h.c1, (hk.cell (p := ⟨b, 2, none⟩) h.lt hb).trans h.c2,
    (hk.frozen (p := ⟨b, 0, none⟩) h.lt hb).trans h.f0, (hk.frozen (p := ⟨b, 1, none⟩) h.lt hb).trans h.f1, (hk.frozen (p := ⟨b, 2, none⟩) h.lt hb).trans h.f2⟩

theorem Box1.set3 {w : World} {b : Nat} {v0 v1 v2 : Value} (h : Box1 w b v0 v1 v2) (x0 x1 x2 : Value) :
    Box1 (((w.setCell ⟨b, 0, none⟩ x0).setCell ⟨b, 1, none⟩ x1).setCell ⟨b, 2, none⟩ x2) b x0 x1 x2 ∧ Keeps [b] w (((w.setCell ⟨b, 0, none⟩ x0).setCell ⟨b, 1, none⟩ x1).setCell ⟨b, 2, none⟩ x2) := by
  obtain ⟨q0, q1, q2⟩ := set3_cells h.c0 h.c1 h.c2 x0 x1 x2
  refine ⟨⟨by simpa using h.lt, q0, q1, q2, by simp [h.f0], by simp [h.f1], by simp [h.f2]⟩, rfl, rfl, rfl, by simp, fun k _ hn => ?_⟩
  simp at hn
  rw [Below.heap_setCell _ _ _ _ (by simp; omega), Below.heap_setCell _ _ _ _ (by simp; omega), Below.heap_setCell _ _ _ _ (by simp; omega)]

theorem Box1.new (w : World) (v0 v1 v2 : Value) (t : TypeId) : Box1 (w.alloc (.cells #[v0, v1, v2] t)) w.heap.size v0 v1 v2 :=
  ⟨by simp, by simp, by simp, by simp, by simp, by simp, by simp⟩

def mbox (m : MR) (w : World) (b : Nat) : Prop := Box1 w b (.string (str m.bits)) (.int .i64 m.all) (.int .i64 m.fail)

theorem rice_len (m : MR) (k : Int) : (m.rice k).1.bits.length ≤ m.bits.length := by
  have hg : ∀ (m : MR) (e : Int), (m.give e).bits.length ≤ m.bits.length := fun m e => by unfold MR.give; split <;> simp
  unfold MR.rice
  split
  · exact hg m 1
  · split
    · unfold MR.riceA
      split
      · exact Nat.le_trans (take_len _ _) (run_len _ _)
      · exact Nat.le_trans (take_len _ _) (run_len _ _)
    · unfold MR.riceB
      have hb := Nat.le_trans (take_len (m.run 24).1 34) (run_len m 24)
      by_cases hd : ((m.run 24).1.take 34).2 / 2 ^ k.toNat < 24
      · simp only [if_pos hd]
        have := Nat.le_trans (hg ((m.run 24).1.take 34).1 2) hb
        split <;> exact this
      · simp only [if_neg hd]
        split <;> exact hb

/-- What holds between two numbers that are taken. -/
def TakesRel (w : World) (R M : Nat) (ao : Option Addr) (s : RS) (m : MR) (wr : World) : Prop :=
  RdA wr R ao s ∧ mbox m wr M ∧ Sim s m ∧ m.bits.length ≤ 800 ∧ Below w.heap.size w wr ∧ w.heap.size ≤ R ∧ w.heap.size ≤ M ∧ R ≠ M ∧ (∀ g off, ao = some ⟨g, off, none⟩ → g ≠ R ∧ g ≠ M)

set_option maxRecDepth 100000 in
set_option maxHeartbeats 1600000 in
theorem rtakes_small (ao bo : Option Addr) (cap cap2 : Nat) (zs : List Nat) (l : List Int) (w : World) (hl : zs.length ≤ 100) (hl2 : l.length ≤ 30) (hz : ∀ z ∈ zs, z < 256) (hd : BytesAt w ao zs) (hi : IntsAt w bo l) :
    Calls Try.prog 5 #[.slice ao zs.length cap, .slice bo l.length cap2] w fun e w' => e = .returned (.bool true) ∧ Below w.heap.size w w' := by
  obtain ⟨ao2, ha2, hao⟩ : ∃ ao2 : Option Addr, (0 < zs.length → ao = ao2) ∧ ∀ g off, ao2 = some ⟨g, off, none⟩ → g < w.heap.size := by
    by_cases h0 : 0 < zs.length
    · refine ⟨ao, fun _ => rfl, fun g off hg => ?_⟩
      obtain ⟨g', off', h1, h2, _⟩ := hd 0 h0
      rw [hg] at h1
      simp at h1
      omega
    · exact ⟨none, fun h => absurd h h0, fun g off hg => by cases hg⟩
  have HD := Lib.hid hd
  have HZ := Lib.hid hz
  have HI := Lib.hid hi
  have HA2 := Lib.hid ha2
  have HAO := Lib.hid hao
  clear hd hz hi hao ha2
  go_enter Try.func5, Try.ntmps5
  go_wp2_with fail
  refine (awake2 w).mono ?_
  rintro e w1 ⟨rfl, hb1⟩
  have HB1 := Lib.hid hb1
  clear hb1
  have t1 : decide ((100 : Int) < (zs.length : Int)) = false := decide_eq_false (by omega)
  have t2 : decide ((30 : Int) < (l.length : Int)) = false := decide_eq_false (by omega)
  go_wp2_with fail
  refine (aOpen ao ao2 cap zs w1 HA2.out (HD.out.below HB1.out) HZ.out (by omega)).mono ?_
  rintro e w2 ⟨rfl, hr2, hb2⟩
  have HB2 : Hid (Below w.heap.size w w2) := HB1.out.trans (hb2.mono HB1.out.size)
  have HR2 := Lib.hid hr2
  have HRG : Hid (w.heap.size ≤ w1.heap.size) := HB1.out.size
  have HR1 : Hid (w1.heap.size < w2.heap.size) := hr2.lt
  clear hr2 hb2
  go_wp2_with fail
  refine (mOpen ao cap zs w2 (by omega) HZ.out (HD.out.below HB2.out)).mono ?_
  rintro e w3 ⟨rfl, hb3⟩
  have HB3 : Hid (Below w.heap.size w w3) := HB2.out.trans (hb3.mono HB2.out.size)
  have HR3 := Lib.hid (HR2.out.keeps (keeps_of_below hb3 []) (by simp) (by simp))
  have HS3 : Hid (w2.heap.size ≤ w3.heap.size) := hb3.size
  obtain ⟨A8, hA8⟩ : ∃ A8 : Int, A8 = ((8 * zs.length : Nat) : Int) := ⟨_, rfl⟩
  rw [← hA8]
  clear hA8
  have hv : (MR.mk (bitsOf zs) A8 0).val = .agg #[.string (str (bitsOf zs)), .int .i64 A8, .int .i64 0] := rfl
  rw [hv]
  have HTR : Hid (TakesRel w w1.heap.size w3.heap.size ao2 ⟨bitsOf zs, 0⟩ ⟨bitsOf zs, A8, 0⟩ (w3.alloc (.cells #[.string (str (bitsOf zs)), .int .i64 A8, .int .i64 0] 44))) := by
    have hk : Keeps [] w3 (w3.alloc (.cells #[.string (str (bitsOf zs)), .int .i64 A8, .int .i64 0] 44)) := keeps_of_below ((Below.refl _ _).alloc (Nat.le_refl _) _) _
    have h1 := HR1.out
    have h3 := HS3.out
    have h0 := HRG.out
    refine ⟨HR3.out.keeps hk (by simp) (by simp), Box1.new _ _ _ _ _, ⟨rfl, fun _ => rfl, fun hc => absurd rfl hc⟩, by simp [bitsOf_length]; omega, HB3.out.alloc HB3.out.size _, HRG.out, HB3.out.size, by omega, fun g off hg => ?_⟩
    have := HAO.out g off hg
    omega
  clear hb3 hv HR2 HR3
  go_wp2
  generalize w3.alloc (.cells #[.string (str (bitsOf zs)), .int .i64 A8, .int .i64 0] 44) = W4 at HTR ⊢
  generalize w3.heap.size = M at HTR ⊢
  generalize w1.heap.size = R at HTR ⊢
  go_loopg [8, 9, 10, 32] l.length (fun gk k n want i wr => ∃ (j : Nat) (s : RS) (m : MR), j ≤ l.length ∧ gk + j = l.length ∧ i = .int .i64 j ∧ Hid (TakesRel w R M ao2 s m wr))
  case atStart => exact ⟨0, _, _, Nat.zero_le _, by omega, rfl, HTR⟩
  case round =>
    obtain ⟨j, s, m, hj, hgk, rfl, HT⟩ := hrel
    have HGK := Lib.hid hgk
    clear hgk HTR
    by_cases hlt : j < l.length
    · obtain ⟨hrd, hmb, hsim, hml, hbel, hR, hM, hRM, haoRM⟩ := HT.out
      obtain ⟨g, off, rfl, hg, hcell⟩ := (HI.out.below hbel) j hlt
      obtain ⟨k, hk⟩ : ∃ k, k = l[j] := ⟨_, rfl⟩
      rw [← hk] at hcell
      have HRD := Lib.hid hrd
      have HMB := Lib.hid hmb
      have HSIM := Lib.hid hsim
      have HBEL := Lib.hid hbel
      have HR := Lib.hid hR
      have HM := Lib.hid hM
      have HRM := Lib.hid hRM
      have HARM := Lib.hid haoRM
      clear hrd hmb hsim hbel hR hM hRM haoRM hk hg
      go_wp2_with fail
      refine (cTake R ao2 s k wr HRD.out).mono ?_
      rintro e w5 ⟨rfl, hr5⟩
      have HMB5 := Lib.hid (Box1.keeps HMB.out hr5.2 (by have := HRM.out; simp; exact Ne.symm this))
      have HB5 : Hid (Below w.heap.size w w5) := HBEL.out.trans (hr5.2.below HBEL.out.size (by intro y hy; simp at hy; have := HR.out; omega))
      have HRD5 := Lib.hid hr5.1
      clear hr5
      have c0 := HMB5.out.c0
      have c1 := HMB5.out.c1
      have c2 := HMB5.out.c2
      have HMR := fun W => Lib.hid (mRice m k W (by omega))
      have hsim2 := HSIM.out.rice k
      have hrl := rice_len m k
      have hmv : m.val = .agg #[.string (str m.bits), .int .i64 m.all, .int .i64 m.fail] := rfl
      rw [hmv] at HMR
      rw [hsim2.2]
      obtain ⟨⟨m2, want⟩, hm2⟩ : ∃ t, t = m.rice k := ⟨_, rfl⟩
      obtain ⟨s2, hs2⟩ : ∃ s2, s2 = (s.rice k).1 := ⟨_, rfl⟩
      rw [← hm2] at HMR hsim2 hrl ⊢
      rw [← hs2] at HRD5 hsim2
      simp only at hsim2 hrl
      have HSIM2 := Lib.hid hsim2.1
      clear hm2 hs2 hsim2 hmv hcell
      obtain ⟨l2, all2, fail2⟩ := m2
      simp only at hrl
      generalize str m.bits = sm at c0 HMR
      generalize m.all = am at c1 HMR
      generalize m.fail = fm at c2 HMR
      go_wp2_with fail
      refine (HMR _).out.mono ?_
      rintro e w6 ⟨rfl, hb6⟩
      have hv2 : (MR.mk l2 all2 fail2).val = .agg #[.string (str l2), .int .i64 all2, .int .i64 fail2] := rfl
      rw [hv2]
      have HMB6 := Lib.hid (HMB5.out.keeps (keeps_of_below hb6 []) (by simp))
      have HRD6 := Lib.hid (HRD5.out.keeps (keeps_of_below hb6 []) (by simp) (by simp))
      have HB6 : Hid (Below w.heap.size w w6) := HB5.out.trans (hb6.mono HB5.out.size)
      clear hb6 hv2 c0 c1 c2 HMR
      have c0 := HMB6.out.c0
      have c1 := HMB6.out.c1
      have c2 := HMB6.out.c2
      have f0 := HMB6.out.f0
      have f1 := HMB6.out.f1
      have f2 := HMB6.out.f2
      have hset := HMB6.out.set3 (.string (str l2)) (.int .i64 all2) (.int .i64 fail2)
      have hsz2 : (str l2).size = l2.length := str_size l2
      obtain ⟨sl, hsl⟩ : ∃ sl, sl = str l2 := ⟨_, rfl⟩
      have HMB7 := Lib.hid hset.1
      have HRD7 := Lib.hid (HRD6.out.keeps hset.2 (by have := HRM.out; simp; exact this) (fun g' off' hg' => by have := HARM.out g' off' hg'; simp; exact this.2))
      have HB7 : Hid (Below w.heap.size w (((w6.setCell ⟨M, 0, none⟩ (.string (str l2))).setCell ⟨M, 1, none⟩ (.int .i64 all2)).setCell ⟨M, 2, none⟩ (.int .i64 fail2))) := below_set3 HB6.out _ HM.out _ _ _
      rw [← hsl] at HMB7 HRD7 HB7 hsz2 ⊢
      have HSL := Lib.hid hsl
      have HSZ := Lib.hid hsz2
      clear hset hsz2 hsl
      go_wp2
      generalize ((w6.setCell ⟨M, 0, none⟩ (.string sl)).setCell ⟨M, 1, none⟩ (.int .i64 all2)).setCell ⟨M, 2, none⟩ (.int .i64 fail2) = W7 at HMB7 HRD7 HB7 ⊢
      clear c0 c1 c2 f0 f1 f2
      have c0 := HMB7.out.c0
      have c2 := HMB7.out.c2
      have HFL : Hid (∀ q, Calls Try.prog 25 #[.pointer (some ⟨R, 0, none⟩)] (W7.drewN q) fun e w' => e = .returned (.int .i64 fail2) ∧ W7.drewN q = w') := fun q => by
        have := aFail R ao2 s2 (W7.drewN q) (HRD7.out.drewN q)
        rw [HSIM2.out.err] at this
        exact this
      have HLE : Hid (fail2 = 0 → ∀ q, Calls Try.prog 26 #[.pointer (some ⟨R, 0, none⟩)] (W7.drewN q) fun e w' => e = .returned (.int .i64 (sl.size : Int)) ∧ ∃ m, w' = (W7.drewN q).drewN m) := fun hf q => by
        have := aLeft R ao2 s2 (W7.drewN q) (HRD7.out.drewN q)
        rw [HSIM2.out.bits hf] at this
        rw [HSZ.out]
        exact this
      have HTR2 : Hid (∀ q, TakesRel w R M ao2 s2 ⟨l2, all2, fail2⟩ (W7.drewN q)) := fun q => by
        have hk := keeps_drewN W7 q []
        refine ⟨HRD7.out.drewN q, ?_, HSIM2.out, by simp only; omega, HB7.out.trans (hk.below HB7.out.size (by simp)), HR.out, HM.out, HRM.out, HARM.out⟩
        have h1 : Box1 W7 M (.string (str l2)) (.int .i64 all2) (.int .i64 fail2) := by rw [← HSL.out]; exact HMB7.out
        exact h1.keeps hk (by simp)
      have t3 : (want != want) = false := by simp
      have t4 : (fail2 != fail2) = false := by simp
      by_cases hf : fail2 = 0
      · have t5 : (fail2 == 0) = true := beq_iff_eq.2 hf
        have HLE2 := Lib.hid (HLE.out hf)
        have t6 : ((sl.size : Int) != (sl.size : Int)) = false := by simp
        clear hf
        go_quiet ((first | (go_at_call 25; exact quiet_left (HFL.out _)) | (go_at_call 26; exact Calls.quiet_of (HLE2.out _))))
        go_wp2
        go_roundg (gk - 1)
        case rel => exact ⟨j + 1, s2, _, by omega, by have := HGK.out; omega, by go_num, HTR2.out _⟩
        case measure => have := HGK.out; omega
      · have t5 : (fail2 == 0) = false := beq_eq_false_iff_ne.2 hf
        clear hf
        go_quiet ((go_at_call 25; exact quiet_left (HFL.out _)))
        go_wp2
        go_roundg (gk - 1)
        case rel => exact ⟨j + 1, s2, _, by omega, by have := HGK.out; omega, by go_num, HTR2.out _⟩
        case measure => have := HGK.out; omega
    · obtain rfl : j = l.length := by omega
      have HBEL : Hid (Below w.heap.size w wr) := HT.out.2.2.2.2.1
      go_wp2
      go_ret
      exact ⟨rfl, HBEL.out⟩

set_option maxHeartbeats 800000 in
theorem rtakes_big (ao bo : Option Addr) (cap cap2 len len2 : Nat) (w : World) (hl : 100 < len ∨ 30 < len2) :
    Calls Try.prog 5 #[.slice ao len cap, .slice bo len2 cap2] w fun e w' => e = .returned (.bool true) ∧ Below w.heap.size w w' := by
  have t : decide ((100 : Int) < (len : Int)) = true ∨ (decide ((100 : Int) < (len : Int)) = false ∧ decide ((30 : Int) < (len2 : Int)) = true) := by
    by_cases h : 100 < len
    · exact Or.inl (decide_eq_true (by omega))
    · exact Or.inr ⟨decide_eq_false (by omega), decide_eq_true (by omega)⟩
  clear hl
  rcases t with t1 | ⟨t1, t2⟩
  all_goals
    go_enter Try.func5, Try.ntmps5
    go_wp2_with fail
    refine (awake2 w).mono ?_
    rintro e w1 ⟨rfl, hb1⟩
    have HB1 := Lib.hid hb1
    clear hb1
    go_wp2_with fail
    refine (awake2 w1).mono ?_
    rintro e w2 ⟨rfl, hb2⟩
    have HB2 := Lib.hid hb2
    clear hb2
    go_wp2
    go_ret
    exact ⟨rfl, HB1.out.trans (HB2.out.mono HB1.out.size)⟩
end Go.Proofs.Ytdkefmnaleagfaa
