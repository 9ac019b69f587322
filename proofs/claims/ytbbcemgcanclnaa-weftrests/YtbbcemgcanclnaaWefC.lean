import Derived.Test.YtbbcemgcanclnaaWefF5
import Derived.Test.YtbbcemgcanclnaaWefT2
import Derived.Test.YtbbcemgcanclnaaWefC7
import Derived.Test.YtbbcemgcanclnaaWefC9
import Derived.Test.YtbbcemgcanclnaaWefCA
namespace Go.Proofs.Ytbbcemgcanclnaa
open Go.RowKit Go.Proofs Go.Proofs.PipeM Go.Proofs.PipeA Go.Proofs.WefM
set_option maxRecDepth 100000
/-- Numbers of 64 bits. -/
def I64 (n : Int) : Prop := -9223372036854775808 ≤ n ∧ n ≤ 9223372036854775807
def WvIn (x : Wv) : Prop := I64 x.master ∧ I64 x.g0 ∧ I64 x.g1 ∧ I64 x.g2
theorem cRestW (x : Wv) (ao bo : Option Addr) (cap cap2 : Nat) (own m : List Int) (w : World) (_ : WvIn x) (hl : own.length ≤ 100000) (hl2 : m.length ≤ 100000) (_ : own.length ≤ cap) (_ : m.length ≤ cap2) (hi : IntsAt w ao own) (hj : IntsAt w bo m) :
    Calls Try.prog 9 #[wvV x, .slice ao own.length cap, .slice bo m.length cap2] w (RowR (codeRest x own m) (restL x own m) w) := cRestW' x ao bo cap cap2 own m w hl hl2 hi hj
theorem cBackW (x : Wv) (ao bo : Option Addr) (cap cap2 : Nat) (own m : List Int) (most : Int) (w : World) (_ : WvIn x) (_ : I64 most) (ho : ∀ y ∈ own, I64 y) (hl : own.length ≤ 100000) (hl2 : m.length ≤ 100000) (_ : own.length ≤ cap) (_ : m.length ≤ cap2) (hi : IntsAt w ao own) (hj : IntsAt w bo m) :
    Calls Try.prog 12 #[wvV x, .slice ao own.length cap, .slice bo m.length cap2, .int .i64 most] w (RowR (codeBack x own m most) (backL x own m) w) := cBackW' x ao bo cap cap2 own m most w ho hl hl2 hi hj
theorem cBestW (ao bo : Option Addr) (cap cap2 : Nat) (own m : List Int) (w : World) (hl : own.length ≤ 1000) (_ : own.length ≤ cap) (_ : m.length ≤ cap2) (hi : IntsAt w ao own) (hj : IntsAt w bo m) (hc : codeRest ⟨false, 0, 0, 0, 0⟩ own m = 0) :
    Calls Try.prog 20 #[.slice ao own.length cap, .slice bo m.length cap2] w fun e w' => e = .returned (.agg #[.int .i64 0, .int .i64 (bestTo own m 15 : Nat), .int .i64 0]) ∧ Below w.heap.size w w' := cBestW' ao bo cap cap2 own m w hl hi hj hc

theorem FTake.below {w W W1 : World} {b : Nat} {ao : Option Addr} {s : RS} {XB : Nat} {xs : Array Value} (h : FTake w b ao s XB xs W) (hb : Below W.heap.size W W1) : FTake w b ao s XB xs W1 :=
  ⟨h.rd.keeps (keeps_of_below hb []) (by simp) (by simp), h.r.below hb, h.x.below hb, h.k.trans (keeps_of_below hb [b]), h.xb, h.lt, h.ha⟩
/-- The weave that comes, by its fields. -/
theorem weave_fields (s : RS) (ch : Int) : s.weave ch = (if goodW s.fields.2 ch = true then s.fields.1 else s.fields.1.give 2, if (if goodW s.fields.2 ch = true then s.fields.1 else s.fields.1.give 2).err = 0 then s.fields.2 else ⟨false, 0, 0, 0, 0⟩) := by
  unfold RS.weave RS.fields
  split
  · rw [if_pos (good_none (ch := ch))]
    simp
  · generalize (⟨true, (s.takeS 1).takeV 3, (((s.takeS 1).takeS 3).gains 0).signedV 5, (((s.takeS 1).takeS 3).gains 1).signedV 5, (((s.takeS 1).takeS 3).gains 2).signedV 5⟩ : Wv) = x
    generalize ((s.takeS 1).takeS 3).gains 3 = s5
    unfold weaveEndS
    simp only
    by_cases he : s5.err = 0
    · rw [if_pos he]
      cases hg : goodW x ch
      · have h2 : (s5.give 2).err = 2 := by unfold RS.give; rw [if_neg (by omega)]
        simp [h2]
      · simp [he]
    · rw [if_neg he]
      cases hg : goodW x ch
      · simp [RS.give_spent he, he]
      · simp [he]

set_option maxHeartbeats 3200000 in
theorem cTakeW (b : Nat) (ao : Option Addr) (s : RS) (ch : Int) (w : World) (_ : I64 ch) (h : RdA w b ao s) (ha : ∀ g off, ao = some ⟨g, off, none⟩ → g < w.heap.size) :
    Calls Try.prog 15 #[.pointer (some ⟨b, 0, none⟩), .int .i64 ch] w fun e w' => e = .returned (wvV (s.weave ch).2) ∧ RdA w' b ao (s.weave ch).1 ∧ Keeps [b] w w' := by
  have hlt := h.lt
  have hbx := box_below w (.cells #[.bool false, .int .i64 0, .int .i64 0, .int .i64 0, .int .i64 0] 24)
  have hB0 := boxN_new w #[.bool false, .int .i64 0, .int .i64 0, .int .i64 0, .int .i64 0] 24
  obtain ⟨W0, hW0⟩ : ∃ W0, W0 = w.alloc (.cells #[.bool false, .int .i64 0, .int .i64 0, .int .i64 0, .int .i64 0] 24) := ⟨_, rfl⟩
  rw [← hW0] at hbx hB0
  have hsz0 : w.heap.size ≤ W0.heap.size := hbx.size
  have hR0 : RdA W0 b ao s := h.keeps (keeps_of_below hbx []) (by simp) (by simp)
  have HFD := Lib.hid (cFieldsW b ao s W0 hR0 (fun g off e => Nat.lt_of_lt_of_le (ha g off e) hsz0))
  have HE := Lib.hid (weave_fields s ch)
  generalize s.weave ch = R at *
  generalize s.fields = fd at *
  obtain ⟨s5, x⟩ := fd
  obtain ⟨xs, xm, xa, xb, xc⟩ := x
  dsimp only at HE HFD
  have HGD := fun W => Lib.hid (cGoodW ⟨xs, xm, xa, xb, xc⟩ ch W)
  have HB0 := Lib.hid hB0
  have HBX := Lib.hid hbx
  have HW0 := Lib.hid hW0
  have HA := Lib.hid ha
  have HLT := Lib.hid hlt
  unfold wvV at HFD HGD ⊢
  obtain ⟨d, hd⟩ : ∃ d, goodW ⟨xs, xm, xa, xb, xc⟩ ch = d := ⟨_, rfl⟩
  rw [hd] at HE HGD
  obtain ⟨s6, hs6⟩ : ∃ s6, s6 = if d = true then s5 else s5.give 2 := ⟨_, rfl⟩
  rw [← hs6] at HE
  have HS6 := Lib.hid hs6
  dsimp only at HFD HGD HE
  clear h ha hbx hB0 hR0 hW0 hlt hd hs6 hsz0
  go_enter Try.func15, Try.ntmps15
  go_wp2_with fail
  rw [← HW0.out]
  refine HFD.out.mono ?_
  rintro e w2 ⟨rfl, hr, hk⟩
  have hB2 := HB0.out.keeps hk (by have := HLT.out; simp; omega)
  have hk2 := (keeps_of_below HBX.out [b]).trans hk
  have bx := box_below w2 (.cells #[.bool false, .int .i64 0, .int .i64 0, .int .i64 0, .int .i64 0] 24)
  have nx := boxN_new w2 #[.bool false, .int .i64 0, .int .i64 0, .int .i64 0, .int .i64 0] 24
  have hsz : w.heap.size < w2.heap.size := hB2.lt
  have hF : FTake w b ao s5 w2.heap.size #[.bool false, .int .i64 0, .int .i64 0, .int .i64 0, .int .i64 0] (w2.alloc (.cells #[.bool false, .int .i64 0, .int .i64 0, .int .i64 0, .int .i64 0] 24)) :=
    ⟨hr.keeps (keeps_of_below bx []) (by simp) (by simp), hB2.below bx, nx, hk2.trans (keeps_of_below bx [b]), hsz, HLT.out, HA.out⟩
  obtain ⟨W2, hW2⟩ : ∃ W2, w2.alloc (.cells #[.bool false, .int .i64 0, .int .i64 0, .int .i64 0, .int .i64 0] 24) = W2 := ⟨_, rfl⟩
  obtain ⟨XB, hXB⟩ : ∃ XB, w2.heap.size = XB := ⟨_, rfl⟩
  rw [hW2, hXB] at hF
  have x0 := hF.x.c 0 (.bool false) rfl
  have x1 := hF.x.c 1 (.int .i64 0) rfl
  have x2 := hF.x.c 2 (.int .i64 0) rfl
  have x3 := hF.x.c 3 (.int .i64 0) rfl
  have x4 := hF.x.c 4 (.int .i64 0) rfl
  have xf0 := hF.x.f 0 (show 0 < 5 by decide)
  have xf1 := hF.x.f 1 (show 1 < 5 by decide)
  have xf2 := hF.x.f 2 (show 2 < 5 by decide)
  have xf3 := hF.x.f 3 (show 3 < 5 by decide)
  have xf4 := hF.x.f 4 (show 4 < 5 by decide)
  have hF5 : FTake w b ao s5 XB #[.bool xs, .int .i64 xm, .int .i64 xa, .int .i64 xb, .int .i64 xc] _ := ((((hF.put (xs' := #[.bool xs, .int .i64 0, .int .i64 0, .int .i64 0, .int .i64 0]) 0 (.bool xs) (show 0 < 5 by decide) rfl).put (xs' := #[.bool xs, .int .i64 xm, .int .i64 0, .int .i64 0, .int .i64 0]) 1 (.int .i64 xm) (show 1 < 5 by decide) rfl).put (xs' := #[.bool xs, .int .i64 xm, .int .i64 xa, .int .i64 0, .int .i64 0]) 2 (.int .i64 xa) (show 2 < 5 by decide) rfl).put (xs' := #[.bool xs, .int .i64 xm, .int .i64 xa, .int .i64 xb, .int .i64 0]) 3 (.int .i64 xb) (show 3 < 5 by decide) rfl).put (xs' := #[.bool xs, .int .i64 xm, .int .i64 xa, .int .i64 xb, .int .i64 xc]) 4 (.int .i64 xc) (show 4 < 5 by decide) rfl
  have HF5 := Lib.hid hF5
  have y0 := hF5.x.c 0 (.bool xs) rfl
  have y1 := hF5.x.c 1 (.int .i64 xm) rfl
  have y2 := hF5.x.c 2 (.int .i64 xa) rfl
  have y3 := hF5.x.c 3 (.int .i64 xb) rfl
  have y4 := hF5.x.c 4 (.int .i64 xc) rfl
  clear hF nx bx hk2 hB2 hr hk hsz hF5 HFD
  go_wp2_with fail
  refine (HGD _).out.mono ?_
  rintro e w3 ⟨rfl, hb3⟩
  have HF6 := Lib.hid (HF5.out.below hb3)
  have HGV := Lib.hid (aGive b ao s5 2 w3 HF6.out.rd)
  clear x0 xf0 x1 xf1 x2 xf2 x3 xf3 x4 xf4 y0 y1 y2 y3 y4 hb3 HF5 HGD
  cases d with
  | true =>
    obtain rfl : s6 = s5 := by rw [HS6.out, if_pos rfl]
    have HFL := Lib.hid (aFail b ao s6 w3 HF6.out.rd)
    clear HGV HS6
    go_wp2_with fail
    refine HFL.out.mono ?_
    rintro e w4 ⟨rfl, rfl⟩
    clear HFL
    have x0 := HF6.out.x.c 0 (.bool xs) rfl
    have x1 := HF6.out.x.c 1 (.int .i64 xm) rfl
    have x2 := HF6.out.x.c 2 (.int .i64 xa) rfl
    have x3 := HF6.out.x.c 3 (.int .i64 xb) rfl
    have x4 := HF6.out.x.c 4 (.int .i64 xc) rfl
    have c0 := HF6.out.r.c 0 (.bool false) rfl
    have c1 := HF6.out.r.c 1 (.int .i64 0) rfl
    have c2 := HF6.out.r.c 2 (.int .i64 0) rfl
    have c3 := HF6.out.r.c 3 (.int .i64 0) rfl
    have c4 := HF6.out.r.c 4 (.int .i64 0) rfl
    have f0 := HF6.out.r.f 0 (show 0 < 5 by decide)
    have f1 := HF6.out.r.f 1 (show 1 < 5 by decide)
    have f2 := HF6.out.r.f 2 (show 2 < 5 by decide)
    have f3 := HF6.out.r.f 3 (show 3 < 5 by decide)
    have f4 := HF6.out.r.f 4 (show 4 < 5 by decide)
    by_cases he : s6.err = 0
    · have t9 : (s6.err != 0) = false := by rw [bne_eq_false_iff_eq]; exact he
      have HRR : Hid (R = (s6, ⟨xs, xm, xa, xb, xc⟩)) := by show _ = _; rw [HE.out, if_pos he]
      obtain ⟨e1, e2, e3⟩ := fields_done (w := w) HF6.out.rd HF6.out.r HF6.out.k HLT.out HA.out (.bool xs) (.int .i64 xm) (.int .i64 xa) (.int .i64 xb) (.int .i64 xc)
      have q0 := e1.c 0 (.bool xs) rfl
      have q1 := e1.c 1 (.int .i64 xm) rfl
      have q2 := e1.c 2 (.int .i64 xa) rfl
      have q3 := e1.c 3 (.int .i64 xb) rfl
      have q4 := e1.c 4 (.int .i64 xc) rfl
      have HD := Lib.hid (And.intro e2 e3)
      clear e1 e2 e3
      go_wp2
      refine bodyPost_ret (v := .agg #[.bool xs, .int .i64 xm, .int .i64 xa, .int .i64 xb, .int .i64 xc]) (by simp [results, Try.results15, go_sem, q0, q1, q2, q3, q4]) rfl ?_
      rw [HRR.out]
      exact ⟨rfl, HD.out⟩
    · have t9 : (s6.err != 0) = true := by rw [bne_iff_ne]; exact he
      have HRR : Hid (R = (s6, ⟨false, 0, 0, 0, 0⟩)) := by show _ = _; rw [HE.out, if_neg he]
      obtain ⟨e1, e2, e3⟩ := fields_done (w := w) HF6.out.rd HF6.out.r HF6.out.k HLT.out HA.out (.bool false) (.int .i64 0) (.int .i64 0) (.int .i64 0) (.int .i64 0)
      have q0 := e1.c 0 (.bool false) rfl
      have q1 := e1.c 1 (.int .i64 0) rfl
      have q2 := e1.c 2 (.int .i64 0) rfl
      have q3 := e1.c 3 (.int .i64 0) rfl
      have q4 := e1.c 4 (.int .i64 0) rfl
      have HD := Lib.hid (And.intro e2 e3)
      clear e1 e2 e3
      go_wp2
      refine bodyPost_ret (v := .agg #[.bool false, .int .i64 0, .int .i64 0, .int .i64 0, .int .i64 0]) (by simp [results, Try.results15, go_sem, q0, q1, q2, q3, q4]) rfl ?_
      rw [HRR.out]
      exact ⟨rfl, HD.out⟩
  | false =>
    obtain hs : s6 = s5.give 2 := by rw [HS6.out, if_neg (by decide)]
    rw [← hs] at HGV
    have HS := Lib.hid hs
    clear HS6 hs
    go_wp2_with fail
    refine HGV.out.mono ?_
    rintro e w4 ⟨rfl, hr4⟩
    have HF7 := Lib.hid (HF6.out.call hr4)
    have HFL := Lib.hid (aFail b ao s6 w4 HF7.out.rd)
    clear HGV HF6 hr4
    go_wp2_with fail
    refine HFL.out.mono ?_
    rintro e w5 ⟨rfl, rfl⟩
    clear HFL
    have x0 := HF7.out.x.c 0 (.bool xs) rfl
    have x1 := HF7.out.x.c 1 (.int .i64 xm) rfl
    have x2 := HF7.out.x.c 2 (.int .i64 xa) rfl
    have x3 := HF7.out.x.c 3 (.int .i64 xb) rfl
    have x4 := HF7.out.x.c 4 (.int .i64 xc) rfl
    have c0 := HF7.out.r.c 0 (.bool false) rfl
    have c1 := HF7.out.r.c 1 (.int .i64 0) rfl
    have c2 := HF7.out.r.c 2 (.int .i64 0) rfl
    have c3 := HF7.out.r.c 3 (.int .i64 0) rfl
    have c4 := HF7.out.r.c 4 (.int .i64 0) rfl
    have f0 := HF7.out.r.f 0 (show 0 < 5 by decide)
    have f1 := HF7.out.r.f 1 (show 1 < 5 by decide)
    have f2 := HF7.out.r.f 2 (show 2 < 5 by decide)
    have f3 := HF7.out.r.f 3 (show 3 < 5 by decide)
    have f4 := HF7.out.r.f 4 (show 4 < 5 by decide)
    by_cases he : s6.err = 0
    · have t9 : (s6.err != 0) = false := by rw [bne_eq_false_iff_eq]; exact he
      have HRR : Hid (R = (s6, ⟨xs, xm, xa, xb, xc⟩)) := by show _ = _; rw [HE.out, if_pos he]
      obtain ⟨e1, e2, e3⟩ := fields_done (w := w) HF7.out.rd HF7.out.r HF7.out.k HLT.out HA.out (.bool xs) (.int .i64 xm) (.int .i64 xa) (.int .i64 xb) (.int .i64 xc)
      have q0 := e1.c 0 (.bool xs) rfl
      have q1 := e1.c 1 (.int .i64 xm) rfl
      have q2 := e1.c 2 (.int .i64 xa) rfl
      have q3 := e1.c 3 (.int .i64 xb) rfl
      have q4 := e1.c 4 (.int .i64 xc) rfl
      have HD := Lib.hid (And.intro e2 e3)
      clear e1 e2 e3
      go_wp2
      refine bodyPost_ret (v := .agg #[.bool xs, .int .i64 xm, .int .i64 xa, .int .i64 xb, .int .i64 xc]) (by simp [results, Try.results15, go_sem, q0, q1, q2, q3, q4]) rfl ?_
      rw [HRR.out]
      exact ⟨rfl, HD.out⟩
    · have t9 : (s6.err != 0) = true := by rw [bne_iff_ne]; exact he
      have HRR : Hid (R = (s6, ⟨false, 0, 0, 0, 0⟩)) := by show _ = _; rw [HE.out, if_neg he]
      obtain ⟨e1, e2, e3⟩ := fields_done (w := w) HF7.out.rd HF7.out.r HF7.out.k HLT.out HA.out (.bool false) (.int .i64 0) (.int .i64 0) (.int .i64 0) (.int .i64 0)
      have q0 := e1.c 0 (.bool false) rfl
      have q1 := e1.c 1 (.int .i64 0) rfl
      have q2 := e1.c 2 (.int .i64 0) rfl
      have q3 := e1.c 3 (.int .i64 0) rfl
      have q4 := e1.c 4 (.int .i64 0) rfl
      have HD := Lib.hid (And.intro e2 e3)
      clear e1 e2 e3
      go_wp2
      refine bodyPost_ret (v := .agg #[.bool false, .int .i64 0, .int .i64 0, .int .i64 0, .int .i64 0]) (by simp [results, Try.results15, go_sem, q0, q1, q2, q3, q4]) rfl ?_
      rw [HRR.out]
      exact ⟨rfl, HD.out⟩
end Go.Proofs.Ytbbcemgcanclnaa
