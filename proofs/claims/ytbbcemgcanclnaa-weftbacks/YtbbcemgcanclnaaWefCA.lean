import Derived.Test.YtbbcemgcanclnaaWefC4
import Derived.Test.YtbbcemgcanclnaaWefT1
import Derived.Test.YtbbcemgcanclnaaWefS
namespace Go.Proofs.Ytbbcemgcanclnaa
open Go.RowKit Go.Proofs Go.Proofs.PipeM Go.Proofs.PipeA Go.Proofs.WefM
set_option maxRecDepth 100000

/-- The gains that came. -/
def gotS (s : RS) (c j : Nat) : Int := if j < c then (s.gains j).signedV 5 else 0
def wvSs (M : Int) (s : RS) (c : Nat) : Array Value := #[.bool true, .int .i64 M, .int .i64 (gotS s c 0), .int .i64 (gotS s c 1), .int .i64 (gotS s c 2)]
theorem wvSs_zero (M : Int) (s : RS) : wvSs M s 0 = #[.bool true, .int .i64 M, .int .i64 0, .int .i64 0, .int .i64 0] := by simp [wvSs, gotS]
theorem wvSs_three (M : Int) (s : RS) : wvSs M s 3 = #[.bool true, .int .i64 M, .int .i64 ((s.gains 0).signedV 5), .int .i64 ((s.gains 1).signedV 5), .int .i64 ((s.gains 2).signedV 5)] := by simp [wvSs, gotS]
theorem wvSs_step (M : Int) (s : RS) {c : Nat} (h : c < 3) : wvSs M s (c + 1) = (wvSs M s c).setIfInBounds (2 + c) (.int .i64 ((s.gains c).signedV 5)) := by
  match c, h with
  | 0, _ => rfl
  | 1, _ => rfl
  | 2, _ => rfl
theorem wvSs_old (M : Int) (s : RS) {c : Nat} (h : c < 3) : ∃ v, (wvSs M s c)[2 + c]? = some v := by
  match c, h with
  | 0, _ => exact ⟨_, rfl⟩
  | 1, _ => exact ⟨_, rfl⟩
  | 2, _ => exact ⟨_, rfl⟩
/-- A weave as it stands in bits. -/
def RS.fields (s : RS) : RS × Wv :=
  if s.takeV 1 = 0 then (s.takeS 1, ⟨false, 0, 0, 0, 0⟩)
  else (((s.takeS 1).takeS 3).gains 3, ⟨true, (s.takeS 1).takeV 3, (((s.takeS 1).takeS 3).gains 0).signedV 5, (((s.takeS 1).takeS 3).gains 1).signedV 5, (((s.takeS 1).takeS 3).gains 2).signedV 5⟩)
theorem takeV_ltW (s : RS) (n : Nat) : s.takeV n < 2 ^ n := by
  unfold RS.takeV
  split
  · have := num_lt (s.bits.take (n : Int).toNat)
    refine Nat.lt_of_lt_of_le this (Nat.pow_le_pow_right (by decide) ?_)
    rw [List.length_take]
    omega
  · exact Nat.two_pow_pos n

/-- How the boxes lie while a weave's fields are taken. -/
structure FTake (w : World) (b : Nat) (ao : Option Addr) (s : RS) (XB : Nat) (xs : Array Value) (W : World) : Prop where
  rd : RdA W b ao s
  r : BoxN W w.heap.size #[.bool false, .int .i64 0, .int .i64 0, .int .i64 0, .int .i64 0]
  x : BoxN W XB xs
  k : Keeps [b] w W
  xb : w.heap.size < XB
  lt : b < w.heap.size
  ha : ∀ g off, ao = some ⟨g, off, none⟩ → g < w.heap.size
theorem FTake.call {w W W1 : World} {b : Nat} {ao : Option Addr} {s s' : RS} {XB : Nat} {xs : Array Value} (h : FTake w b ao s XB xs W) (hr : Reads W b ao s' W1) : FTake w b ao s' XB xs W1 := by
  have h1 := h.xb
  have h2 := h.lt
  exact ⟨hr.1, h.r.keeps hr.2 (by simp; omega), h.x.keeps hr.2 (by simp; omega), h.k.trans hr.2, h1, h2, h.ha⟩
theorem FTake.put {w W : World} {b : Nat} {ao : Option Addr} {s : RS} {XB : Nat} {xs xs' : Array Value} (h : FTake w b ao s XB xs W) (j : Nat) (v : Value) (hj : j < xs.size) (hc : xs' = xs.setIfInBounds j v) : FTake w b ao s XB xs' (W.setCell ⟨XB, j, none⟩ v) := by
  have hk := keeps_setCell W XB j v
  have h1 := h.xb
  have h2 := h.lt
  have h3 := h.ha
  exact ⟨h.rd.keeps hk (by simp; omega) (fun g off e => by have := h3 g off e; simp; omega), h.r.keeps hk (by simp; omega), h.x.set j v hj hc, h.k.trans_new hk (by intro x hx; simp at hx; exact .inr (by omega)), h1, h2, h3⟩
/-- The results are laid. -/
theorem fields_done {w W : World} {b : Nat} {ao : Option Addr} {s : RS} (hrd : RdA W b ao s) (hr : BoxN W w.heap.size #[.bool false, .int .i64 0, .int .i64 0, .int .i64 0, .int .i64 0]) (hk : Keeps [b] w W) (hlt : b < w.heap.size) (ha : ∀ g off, ao = some ⟨g, off, none⟩ → g < w.heap.size) (b0 b1 b2 b3 b4 : Value) :
    BoxN (((((W.setCell ⟨w.heap.size, 0, none⟩ b0).setCell ⟨w.heap.size, 1, none⟩ b1).setCell ⟨w.heap.size, 2, none⟩ b2).setCell ⟨w.heap.size, 3, none⟩ b3).setCell ⟨w.heap.size, 4, none⟩ b4) w.heap.size #[b0, b1, b2, b3, b4] ∧
    RdA (((((W.setCell ⟨w.heap.size, 0, none⟩ b0).setCell ⟨w.heap.size, 1, none⟩ b1).setCell ⟨w.heap.size, 2, none⟩ b2).setCell ⟨w.heap.size, 3, none⟩ b3).setCell ⟨w.heap.size, 4, none⟩ b4) b ao s ∧
    Keeps [b] w (((((W.setCell ⟨w.heap.size, 0, none⟩ b0).setCell ⟨w.heap.size, 1, none⟩ b1).setCell ⟨w.heap.size, 2, none⟩ b2).setCell ⟨w.heap.size, 3, none⟩ b3).setCell ⟨w.heap.size, 4, none⟩ b4) := by
  obtain ⟨h1, k1⟩ := hr.set5 b0 b1 b2 b3 b4
  exact ⟨h1, hrd.keeps k1 (by simp; omega) (fun g off e => by have := ha g off e; simp; omega), hk.trans_new k1 (by intro x hx; simp at hx; exact .inr (by omega))⟩

set_option maxHeartbeats 3200000 in
theorem cFieldsW (b : Nat) (ao : Option Addr) (s : RS) (w : World) (h : RdA w b ao s) (ha : ∀ g off, ao = some ⟨g, off, none⟩ → g < w.heap.size) :
    Calls Try.prog 32 #[.pointer (some ⟨b, 0, none⟩)] w fun e w' => e = .returned (wvV s.fields.2) ∧ RdA w' b ao s.fields.1 ∧ Keeps [b] w w' := by
  have hlt := h.lt
  have hbx := box_below w (.cells #[.bool false, .int .i64 0, .int .i64 0, .int .i64 0, .int .i64 0] 24)
  have hB0 := boxN_new w #[.bool false, .int .i64 0, .int .i64 0, .int .i64 0, .int .i64 0] 24
  obtain ⟨W0, hW0⟩ : ∃ W0, W0 = w.alloc (.cells #[.bool false, .int .i64 0, .int .i64 0, .int .i64 0, .int .i64 0] 24) := ⟨_, rfl⟩
  rw [← hW0] at hbx hB0
  have hR0 : RdA W0 b ao s := h.keeps (keeps_of_below hbx []) (by simp) (by simp)
  have HT1 := Lib.hid (aTake b ao s 1 W0 hR0)
  have HT2 := fun W (hr : RdA W b ao (s.takeS 1)) => Lib.hid (aTake b ao (s.takeS 1) 3 W hr)
  have hl3 : (s.takeS 1).takeV 3 < 2 ^ 3 := takeV_ltW _ 3
  have HE : Hid (s.fields = if s.takeV 1 = 0 then (s.takeS 1, ⟨false, 0, 0, 0, 0⟩) else (((s.takeS 1).takeS 3).gains 3, ⟨true, (s.takeS 1).takeV 3, (((s.takeS 1).takeS 3).gains 0).signedV 5, (((s.takeS 1).takeS 3).gains 1).signedV 5, (((s.takeS 1).takeS 3).gains 2).signedV 5⟩)) := rfl
  have HSG : Hid (∀ c W, RdA W b ao (((s.takeS 1).takeS 3).gains c) → Calls Try.prog 44 #[.pointer (some ⟨b, 0, none⟩), .int .i64 5] W fun r w' => r = .returned (.int .i64 ((((s.takeS 1).takeS 3).gains c).signedV 5)) ∧ Reads W b ao (((s.takeS 1).takeS 3).gains (c + 1)) w') := fun c W hr => aSigned b ao _ 5 W hr
  generalize s.takeV 1 = v1 at *
  generalize (s.takeS 1).takeV 3 = v3 at *
  generalize s.fields = R at *
  generalize s.takeS 1 = s1 at *
  generalize s1.takeS 3 = s3 at *
  have HB0 := Lib.hid hB0
  have HBX := Lib.hid hbx
  have HW0 := Lib.hid hW0
  have HA := Lib.hid ha
  have HLT := Lib.hid hlt
  have hv3 : IntKind.i64.wrap (v3 : Int) = (v3 : Int) := IntWalk.i64_in _ (by omega)
  unfold wvV
  clear h ha hbx hB0 hR0 hW0 hlt hl3
  by_cases h1 : v1 = 0
  · have hR : R = (s1, ⟨false, 0, 0, 0, 0⟩) := by rw [HE.out, if_pos h1]
    subst hR
    subst h1
    clear HE HT2 HSG hv3
    go_enter Try.func32, Try.ntmps32
    go_wp2_with fail
    rw [← HW0.out]
    refine HT1.out.mono ?_
    rintro e w1 ⟨rfl, hr1⟩
    have hB1 := HB0.out.keeps hr1.2 (by have := HLT.out; simp; omega)
    obtain ⟨e1, e2, e3⟩ := fields_done (w := w) hr1.1 hB1 ((keeps_of_below HBX.out [b]).trans hr1.2) HLT.out HA.out (.bool false) (.int .i64 0) (.int .i64 0) (.int .i64 0) (.int .i64 0)
    have c0 := hB1.c 0 (.bool false) rfl
    have c1 := hB1.c 1 (.int .i64 0) rfl
    have c2 := hB1.c 2 (.int .i64 0) rfl
    have c3 := hB1.c 3 (.int .i64 0) rfl
    have c4 := hB1.c 4 (.int .i64 0) rfl
    have f0 := hB1.f 0 (show 0 < 5 by decide)
    have f1 := hB1.f 1 (show 1 < 5 by decide)
    have f2 := hB1.f 2 (show 2 < 5 by decide)
    have f3 := hB1.f 3 (show 3 < 5 by decide)
    have f4 := hB1.f 4 (show 4 < 5 by decide)
    have q0 := e1.c 0 (.bool false) rfl
    have q1 := e1.c 1 (.int .i64 0) rfl
    have q2 := e1.c 2 (.int .i64 0) rfl
    have q3 := e1.c 3 (.int .i64 0) rfl
    have q4 := e1.c 4 (.int .i64 0) rfl
    have HD := Lib.hid (And.intro e2 e3)
    clear e1 e2 e3 hr1 hB1
    go_wp2
    refine bodyPost_ret (v := .agg #[.bool false, .int .i64 0, .int .i64 0, .int .i64 0, .int .i64 0]) (by simp [results, Try.results32, go_sem, q0, q1, q2, q3, q4]) rfl ?_
    exact ⟨rfl, HD.out⟩
  · have t1 : ((v1 : Int) == 0) = false := by rw [beq_eq_false_iff_ne]; omega
    have t1n : (v1 == 0) = false := by rw [beq_eq_false_iff_ne]; exact h1
    have hR : R = (s3.gains 3, ⟨true, v3, (s3.gains 0).signedV 5, (s3.gains 1).signedV 5, (s3.gains 2).signedV 5⟩) := by rw [HE.out, if_neg h1]
    subst hR
    clear HE h1
    go_enter Try.func32, Try.ntmps32
    go_wp2_with fail
    rw [← HW0.out]
    refine HT1.out.mono ?_
    rintro e w1 ⟨rfl, hr1⟩
    have HR1 := Lib.hid hr1
    have HT2a := HT2 w1 hr1.1
    clear hr1 HT2
    go_wp2_with fail
    refine HT2a.out.mono ?_
    rintro e w2 ⟨rfl, hr2⟩
    have hr := HR1.out.next hr2
    have hB2 := HB0.out.keeps hr.2 (by have := HLT.out; simp; omega)
    have hk2 := (keeps_of_below HBX.out [b]).trans hr.2
    have bx := box_below w2 (.cells #[.bool false, .int .i64 0, .int .i64 0, .int .i64 0, .int .i64 0] 24)
    have nx := boxN_new w2 #[.bool false, .int .i64 0, .int .i64 0, .int .i64 0, .int .i64 0] 24
    have hsz : w.heap.size < w2.heap.size := hB2.lt
    have hF : FTake w b ao s3 w2.heap.size #[.bool false, .int .i64 0, .int .i64 0, .int .i64 0, .int .i64 0] (w2.alloc (.cells #[.bool false, .int .i64 0, .int .i64 0, .int .i64 0, .int .i64 0] 24)) :=
      ⟨hr.1.keeps (keeps_of_below bx []) (by simp) (by simp), hB2.below bx, nx, hk2.trans (keeps_of_below bx [b]), hsz, HLT.out, HA.out⟩
    obtain ⟨W2, hW2⟩ : ∃ W2, w2.alloc (.cells #[.bool false, .int .i64 0, .int .i64 0, .int .i64 0, .int .i64 0] 24) = W2 := ⟨_, rfl⟩
    obtain ⟨XB, hXB⟩ : ∃ XB, w2.heap.size = XB := ⟨_, rfl⟩
    rw [hW2, hXB] at hF
    have x0 := hF.x.c 0 (.bool false) rfl
    have x1 := hF.x.c 1 (.int .i64 0) rfl
    have x2 := hF.x.c 2 (.int .i64 0) rfl
    have x3 := hF.x.c 3 (.int .i64 0) rfl
    have x4 := hF.x.c 4 (.int .i64 0) rfl
    have xf0 := hF.x.f 0 (show 0 < 5 by decide)
    have xf1 := hF.x.f 1 (show 1 < 5 by decide)
    have xf2 := hF.x.f 2 (show 2 < 5 by decide)
    have xf3 := hF.x.f 3 (show 3 < 5 by decide)
    have xf4 := hF.x.f 4 (show 4 < 5 by decide)
    have HFT : Hid (FTake w b ao (s3.gains 0) XB (wvSs v3 s3 0) _) := Lib.hid (((((hF.put (xs' := #[.bool true, .int .i64 0, .int .i64 0, .int .i64 0, .int .i64 0]) 0 (.bool true) (show 0 < 5 by decide) rfl).put (xs' := #[.bool true, .int .i64 v3, .int .i64 0, .int .i64 0, .int .i64 0]) 1 (.int .i64 v3) (show 1 < 5 by decide) rfl).put (xs' := #[.bool true, .int .i64 v3, .int .i64 0, .int .i64 0, .int .i64 0]) 2 (.int .i64 0) (show 2 < 5 by decide) rfl).put (xs' := #[.bool true, .int .i64 v3, .int .i64 0, .int .i64 0, .int .i64 0]) 3 (.int .i64 0) (show 3 < 5 by decide) rfl).put (xs' := wvSs v3 s3 0) 4 (.int .i64 0) (show 4 < 5 by decide) (wvSs_zero v3 s3))
    clear hF nx bx hk2 hB2 hr hr2 hsz HR1 HT2a HT1
    go_wp2
    clear x0 xf0 x1 xf1 x2 xf2 x3 xf3 x4 xf4
    go_loopg [4, 13] 3 (fun gk q i wr => ∃ c : Nat, c ≤ 3 ∧ gk + c = 3 ∧ i = .int .i64 c ∧ Hid (FTake w b ao (s3.gains c) XB (wvSs v3 s3 c) wr))
    case atStart => exact ⟨0, by omega, by omega, rfl, HFT⟩
    case round =>
      obtain ⟨c, hc, hgk, rfl, HT⟩ := hrel
      have HGK := Lib.hid hgk
      clear hgk HFT
      by_cases hlt3 : c < 3
      · have HST := Lib.hid (wvSs_step v3 s3 hlt3)
        have HS1 := Lib.hid (HSG.out c wr HT.out.rd)
        obtain ⟨ov, hov⟩ := wvSs_old v3 s3 hlt3
        have HOV := Lib.hid hov
        generalize (s3.gains c).signedV 5 = iv at *
        clear hov
        go_wp2_with fail
        refine HS1.out.mono ?_
        rintro e w6 ⟨rfl, hr6⟩
        have T6 := HT.out.call hr6
        have e2 := T6.x.c (2 + c) ov HOV.out
        have ef2 := T6.x.f (2 + c) (show 2 + c < 5 by omega)
        have HT8 : Hid (FTake w b ao (s3.gains (c + 1)) XB (wvSs v3 s3 (c + 1)) _) := Lib.hid (T6.put (xs' := wvSs v3 s3 (c + 1)) (2 + c) (.int .i64 iv) (show 2 + c < 5 by omega) HST.out)
        clear T6 hr6 HS1
        go_wp2
        go_roundg (gk - 1)
        case rel => exact ⟨c + 1, by omega, by have := HGK.out; omega, by go_num, HT8⟩
        case measure => have := HGK.out; omega
      · obtain rfl : c = 3 := by omega
        have hT3 := HT.out
        rw [wvSs_three] at hT3
        clear HSG HT HGK hlt3 hc
        generalize hi0 : (s3.gains 0).signedV 5 = i0 at *
        generalize hi1 : (s3.gains 1).signedV 5 = i1 at *
        generalize hi2 : (s3.gains 2).signedV 5 = i2 at *
        generalize hs5 : s3.gains 3 = s5 at *
        have HI := Lib.hid (And.intro hi0 (And.intro hi1 (And.intro hi2 hs5)))
        clear hi0 hi1 hi2 hs5
        obtain ⟨e1, e2, e3⟩ := fields_done (w := w) hT3.rd hT3.r hT3.k HLT.out HA.out (.bool true) (.int .i64 v3) (.int .i64 i0) (.int .i64 i1) (.int .i64 i2)
        have x0 := hT3.x.c 0 (.bool true) rfl
        have x1 := hT3.x.c 1 (.int .i64 v3) rfl
        have x2 := hT3.x.c 2 (.int .i64 i0) rfl
        have x3 := hT3.x.c 3 (.int .i64 i1) rfl
        have x4 := hT3.x.c 4 (.int .i64 i2) rfl
        have c0 := hT3.r.c 0 (.bool false) rfl
        have c1 := hT3.r.c 1 (.int .i64 0) rfl
        have c2 := hT3.r.c 2 (.int .i64 0) rfl
        have c3 := hT3.r.c 3 (.int .i64 0) rfl
        have c4 := hT3.r.c 4 (.int .i64 0) rfl
        have f0 := hT3.r.f 0 (show 0 < 5 by decide)
        have f1 := hT3.r.f 1 (show 1 < 5 by decide)
        have f2 := hT3.r.f 2 (show 2 < 5 by decide)
        have f3 := hT3.r.f 3 (show 3 < 5 by decide)
        have f4 := hT3.r.f 4 (show 4 < 5 by decide)
        have q0 := e1.c 0 (.bool true) rfl
        have q1 := e1.c 1 (.int .i64 v3) rfl
        have q2 := e1.c 2 (.int .i64 i0) rfl
        have q3 := e1.c 3 (.int .i64 i1) rfl
        have q4 := e1.c 4 (.int .i64 i2) rfl
        have HD := Lib.hid (And.intro e2 e3)
        clear e1 e2 e3 hT3
        go_wp2
        refine bodyPost_ret (v := .agg #[.bool true, .int .i64 v3, .int .i64 i0, .int .i64 i1, .int .i64 i2]) (by simp [results, Try.results32, go_sem, q0, q1, q2, q3, q4]) rfl ?_
        rw [HI.out.1, HI.out.2.1, HI.out.2.2.1, HI.out.2.2.2]
        exact ⟨rfl, HD.out⟩
end Go.Proofs.Ytbbcemgcanclnaa
