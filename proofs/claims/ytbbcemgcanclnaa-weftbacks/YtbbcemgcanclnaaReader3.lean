import Derived.Test.YtbbcemgcanclnaaReader2
namespace Go.Proofs.Ytbbcemgcanclnaa
open Go.RowKit Go.Proofs Go.Proofs.PipeM Go.Proofs.PipeA

/-- A reader as the document has it: the bits that are left; what it failed with (then it has none). -/
structure RS where
  bits : List Bool
  err : Int

def RS.give (s : RS) (e : Int) : RS := if e = 0 ∨ s.err ≠ 0 then s else ⟨[], e⟩

/-- A reader in memory, upon bytes that lie at ao. -/
def RdA (w : World) (b : Nat) (ao : Option Addr) (s : RS) : Prop :=
  ∃ ao' cap zs p, RdIs w b ao' cap zs p s.err ∧ s.bits = (bitsOf zs).drop p ∧ (0 < zs.length → ao' = ao) ∧ (s.err ≠ 0 → zs = [])

theorem RdA.lt {w : World} {b : Nat} {ao : Option Addr} {s : RS} (h : RdA w b ao s) : b < w.heap.size := by
  obtain ⟨_, _, _, _, h, _⟩ := h; exact h.lt

theorem RdA.len {w : World} {b : Nat} {ao : Option Addr} {s : RS} (h : RdA w b ao s) : s.bits.length ≤ 800000000 := by
  obtain ⟨_, _, zs, p, h, hb, _⟩ := h
  rw [hb]; have := h.len; simp [bitsOf_length]; omega

theorem RdA.spent {w : World} {b : Nat} {ao : Option Addr} {s : RS} (h : RdA w b ao s) (he : s.err ≠ 0) : s.bits = [] := by
  obtain ⟨_, _, zs, p, _, hb, _, hz⟩ := h
  rw [hb, hz he]; simp [bitsOf]

theorem RdA.keeps {w w' : World} {bs : List Nat} {b : Nat} {ao : Option Addr} {s : RS} (h : RdA w b ao s) (hk : Keeps bs w w') (hb : b ∉ bs)
    (hn : ∀ g off, ao = some ⟨g, off, none⟩ → g ∉ bs) : RdA w' b ao s := by
  obtain ⟨ao', cap, zs, p, h1, h2, h3, h4⟩ := h
  exact ⟨ao', cap, zs, p, h1.keeps hk hb (fun h0 g off hg => hn g off ((h3 h0).symm.trans hg)), h2, h3, h4⟩

/-- What a call of a reader leaves. -/
def Reads (w : World) (b : Nat) (ao : Option Addr) (s : RS) (w' : World) : Prop := RdA w' b ao s ∧ Keeps [b] w w'

theorem Reads.refl {w : World} {b : Nat} {ao : Option Addr} {s : RS} (h : RdA w b ao s) : Reads w b ao s w := ⟨h, Keeps.refl _ _⟩
theorem Reads.next {w w1 w2 : World} {b : Nat} {ao : Option Addr} {s s' : RS} (h : Reads w b ao s w1) (h2 : Reads w1 b ao s' w2) : Reads w b ao s' w2 := ⟨h2.1, h.2.trans h2.2⟩

theorem reads_took {w w' : World} {b : Nat} {ao ao' : Option Addr} {cap : Nat} {zs : List Nat} {p : Nat} {s : RS} (h : Took w b ao' cap zs p s.err w') (hb : s.bits = (bitsOf zs).drop p) (ha : 0 < zs.length → ao' = ao) (hz : s.err ≠ 0 → zs = []) : Reads w b ao s w' :=
  ⟨⟨ao', cap, zs, p, h.1, hb, ha, hz⟩, h.2⟩

/-- A reader that lets go of its bits. -/
theorem rd_failed {w : World} {b : Nat} {ao : Option Addr} {cap : Nat} {zs : List Nat} {p : Nat} {err : Int} (h : RdIs w b ao cap zs p err) (e : Int) :
    Took w b none 0 [] 0 e (((w.setCell ⟨b, 0, none⟩ (.slice none 0 0)).setCell ⟨b, 1, none⟩ (.int .i64 0)).setCell ⟨b, 2, none⟩ (.int .i64 e)) := by
  have k0 : (w.setCell ⟨b, 0, none⟩ (.slice none 0 0)).cell? ⟨b, 0, none⟩ = some (.slice none 0 0) := World.cell?_setCell_same _ _ _ h.c0
  have k1 : (w.setCell ⟨b, 0, none⟩ (.slice none 0 0)).cell? ⟨b, 1, none⟩ = some (.int .i64 p) := by simp [World.cell?_setCell_other, h.c1]
  have k2 : (w.setCell ⟨b, 0, none⟩ (.slice none 0 0)).cell? ⟨b, 2, none⟩ = some (.int .i64 err) := by simp [World.cell?_setCell_other, h.c2]
  have m0 : ((w.setCell ⟨b, 0, none⟩ (.slice none 0 0)).setCell ⟨b, 1, none⟩ (.int .i64 0)).cell? ⟨b, 0, none⟩ = some (.slice none 0 0) := by simp [World.cell?_setCell_other, k0]
  have m1 : ((w.setCell ⟨b, 0, none⟩ (.slice none 0 0)).setCell ⟨b, 1, none⟩ (.int .i64 0)).cell? ⟨b, 1, none⟩ = some (.int .i64 0) := World.cell?_setCell_same _ _ _ k1
  have m2 : ((w.setCell ⟨b, 0, none⟩ (.slice none 0 0)).setCell ⟨b, 1, none⟩ (.int .i64 0)).cell? ⟨b, 2, none⟩ = some (.int .i64 err) := by simp [World.cell?_setCell_other, k2]
  refine ⟨⟨by simp; exact h.lt, ?_, ?_, ?_, by simp [h.f0], by simp [h.f1], by simp [h.f2], fun j hj => by simp at hj, fun h0 => by simp at h0, fun z hz => by simp at hz, by simp, by simp⟩, ?_⟩
  · simpa [World.cell?_setCell_other] using m0
  · simpa [World.cell?_setCell_other] using m1
  · exact World.cell?_setCell_same _ _ _ m2
  · refine ⟨rfl, rfl, rfl, by simp, fun k _ hn => ?_⟩
    simp at hn
    rw [Below.heap_setCell _ _ _ _ (by simp; omega), Below.heap_setCell _ _ _ _ (by simp; omega), Below.heap_setCell _ _ _ _ (by simp; omega)]

set_option maxHeartbeats 400000 in
theorem aGive (b : Nat) (ao : Option Addr) (s : RS) (e : Int) (w : World) (h : RdA w b ao s) :
    Calls Try.prog 33 #[.pointer (some ⟨b, 0, none⟩), .int .i64 e] w fun r w' => r = .returned (.tuple #[]) ∧ Reads w b ao (s.give e) w' := by
  have H := Lib.hid h
  obtain ⟨ao', cap, zs, p, h1, h2, h3, h4⟩ := h
  by_cases he : e = 0
  · have t1 : (e == 0) = true := beq_iff_eq.2 he
    have HS : Hid (s.give e = s) := by show _ = _; unfold RS.give; rw [if_pos (Or.inl he)]
    clear he h1 h2 h3 h4
    go_enter Try.func33, Try.ntmps33
    go_wp2
    refine bodyPost_ret (v := .tuple #[]) (by simp [results, Try.results33, go_sem]) rfl ?_
    exact ⟨rfl, by rw [HS.out]; exact Reads.refl H.out⟩
  · have t1 : (e == 0) = false := beq_eq_false_iff_ne.2 he
    have c2 := h1.c2
    by_cases hs : s.err = 0
    · have t2 : (s.err != 0) = false := by simp [hs]
      have HS : Hid (s.give e = ⟨[], e⟩) := by show _ = _; unfold RS.give; rw [if_neg (by simp [he, hs])]
      have c0 := h1.c0
      have c1 := h1.c1
      have f0 := h1.f0
      have f1 := h1.f1
      have f2 := h1.f2
      have hlt := h1.lt
      obtain ⟨er, her⟩ : ∃ er, er = s.err := ⟨_, rfl⟩
      rw [← her] at c2 t2
      clear he hs her h2 h3 h4
      have H1 := Lib.hid h1
      clear h1
      go_enter Try.func33, Try.ntmps33
      go_wp2
      go_end0
      exact ⟨rfl, by rw [HS.out]; exact reads_took (rd_failed H1.out e) (by simp [bitsOf]) (fun h => by simp at h) (fun _ => rfl)⟩
    · have t2 : (s.err != 0) = true := by rw [bne_iff_ne]; exact hs
      have HS : Hid (s.give e = s) := by show _ = _; unfold RS.give; rw [if_pos (Or.inr hs)]
      obtain ⟨er, her⟩ : ∃ er, er = s.err := ⟨_, rfl⟩
      rw [← her] at c2 t2
      clear he hs h1 h2 h3 h4 her
      go_enter Try.func33, Try.ntmps33
      go_wp2
      refine bodyPost_ret (v := .tuple #[]) (by simp [results, Try.results33, go_sem]) rfl ?_
      exact ⟨rfl, by rw [HS.out]; exact Reads.refl H.out⟩

/-- Left, of any reader. -/
theorem aLeft (b : Nat) (ao : Option Addr) (s : RS) (w : World) (h : RdA w b ao s) :
    Calls Try.prog 19 #[.pointer (some ⟨b, 0, none⟩)] w fun e w' => e = .returned (.int .i64 (s.bits.length : Int)) ∧ ∃ n, w' = w.drewN n := by
  obtain ⟨ao', cap, zs, p, h1, h2, h3, h4⟩ := h
  have e : s.bits.length = 8 * zs.length - p := by rw [h2]; simp [bitsOf_length]
  rw [e]
  exact rLeft b ao' cap zs p s.err w h1

theorem aFail (b : Nat) (ao : Option Addr) (s : RS) (w : World) (h : RdA w b ao s) :
    Calls Try.prog 18 #[.pointer (some ⟨b, 0, none⟩)] w fun e w' => e = .returned (.int .i64 s.err) ∧ w = w' := by
  obtain ⟨ao', cap, zs, p, h1, h2, h3, h4⟩ := h
  exact rFail b ao' cap zs p s.err w h1

theorem RdA.drewN {w : World} {b : Nat} {ao : Option Addr} {s : RS} (h : RdA w b ao s) (n : Nat) : RdA (w.drewN n) b ao s :=
  h.keeps (keeps_drewN w n []) (by simp) (by simp)

/-- Take: what it answers, and what it leaves. -/
def RS.takeOk (s : RS) (n : Int) : Prop := 0 ≤ n ∧ n ≤ 48 ∧ n ≤ s.bits.length
def RS.takeV (s : RS) (n : Int) : Nat := if 0 ≤ n ∧ n ≤ 48 ∧ n ≤ s.bits.length then num (s.bits.take n.toNat) else 0
def RS.takeS (s : RS) (n : Int) : RS :=
  if n < 0 ∨ 48 < n then s.give 1 else if (s.bits.length : Int) < n then s.give 3 else ⟨s.bits.drop n.toNat, s.err⟩

set_option maxHeartbeats 400000 in
theorem aTake (b : Nat) (ao : Option Addr) (s : RS) (n : Int) (w : World) (h : RdA w b ao s) :
    Calls Try.prog 43 #[.pointer (some ⟨b, 0, none⟩), .int .i64 n] w fun r w' => r = .returned (.int .u64 (s.takeV n)) ∧ Reads w b ao (s.takeS n) w' := by
  by_cases hr : n < 0 ∨ 48 < n
  · have HV : Hid (s.takeV n = 0) := by show _ = _; unfold RS.takeV; rw [if_neg (by omega)]
    have HS : Hid (s.takeS n = s.give 1) := by show _ = _; unfold RS.takeS; rw [if_pos hr]
    have HG := Lib.hid (aGive b ao s 1 w h)
    have t : decide (n < 0) = true ∨ (decide (n < 0) = false ∧ decide (48 < n) = true) := by
      by_cases hn : n < 0
      · exact Or.inl (decide_eq_true hn)
      · exact Or.inr ⟨decide_eq_false hn, decide_eq_true (by omega)⟩
    clear hr h
    rcases t with t1 | ⟨t1, t2⟩
    all_goals
      go_enter Try.func43, Try.ntmps43
      go_wp2_with fail
      refine HG.out.mono ?_
      rintro e w1 ⟨rfl, hw1⟩
      have HW1 := Lib.hid hw1
      clear hw1
      go_wp2
      go_ret
      exact ⟨by rw [HV.out]; rfl, by rw [HS.out]; exact HW1.out⟩
  · by_cases hl : (s.bits.length : Int) < n
    · have HV : Hid (s.takeV n = 0) := by show _ = _; unfold RS.takeV; rw [if_neg (by omega)]
      have HS : Hid (s.takeS n = s.give 3) := by show _ = _; unfold RS.takeS; rw [if_neg hr, if_pos hl]
      have t1 : decide (n < 0) = false := decide_eq_false (by omega)
      have t2 : decide (48 < n) = false := decide_eq_false (by omega)
      have t3 : decide ((s.bits.length : Int) < n) = true := decide_eq_true hl
      have H := Lib.hid h
      clear hr hl h
      go_enter Try.func43, Try.ntmps43
      go_wp2_with fail
      refine (aLeft b ao s w H.out).mono ?_
      rintro e w1 ⟨rfl, hm⟩
      have H1 : Hid (RdA w1 b ao s) := by obtain ⟨m, rfl⟩ := hm; exact H.out.drewN m
      have K1 : Hid (Keeps [b] w w1) := by obtain ⟨m, rfl⟩ := hm; exact keeps_drewN w m [b]
      clear hm
      go_wp2_with fail
      refine (aGive b ao s 3 w1 H1.out).mono ?_
      rintro e w2 ⟨rfl, hw2⟩
      have HW2 := Lib.hid hw2
      clear hw2
      go_wp2
      go_ret
      exact ⟨by rw [HV.out]; rfl, by rw [HS.out]; exact ⟨HW2.out.1, K1.out.trans HW2.out.2⟩⟩
    · obtain ⟨m, rfl⟩ := Int.eq_ofNat_of_zero_le (show 0 ≤ n by omega)
      obtain ⟨ao', cap, zs, p, h1, h2, h3, h4⟩ := h
      have e : s.bits.length = 8 * zs.length - p := by rw [h2]; simp [bitsOf_length]
      have HV : s.takeV (m : Int) = num (bitsAt zs p m) := by unfold RS.takeV; rw [if_pos (by omega), Int.toNat_natCast, h2]; rfl
      have HS : s.takeS (m : Int) = ⟨s.bits.drop m, s.err⟩ := by unfold RS.takeS; rw [if_neg hr, if_neg hl, Int.toNat_natCast]
      rw [HV, HS]
      refine (rTake b ao' cap zs p m s.err w h1 (by omega) (by have := h1.le; omega)).mono ?_
      rintro e w1 ⟨rfl, ht⟩
      exact ⟨rfl, reads_took (s := ⟨s.bits.drop m, s.err⟩) ht (by simp [h2, List.drop_drop]) h3 h4⟩
end Go.Proofs.Ytbbcemgcanclnaa
