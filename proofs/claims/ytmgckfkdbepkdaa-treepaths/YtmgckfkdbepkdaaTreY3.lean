import Derived.Test.YtmgckfkdbepkdaaTreY2
namespace Go.Proofs.Ytmgckfkdbepkdaa
open Go.RowKit Go.Proofs Go.Proofs.PipeM Go.Proofs.PipeA Go.Proofs.TreM
set_option maxRecDepth 100000

/-- The machine that tells ways to the law's closure. -/
def AtP (w0 : World) (b B10 B11 B12 m : Nat) (j : Nat) (s : PtS) (w : World) : Prop := RdAt b j ⟨s.rest, s.bad, []⟩ (.slice none 0 0) w ∧ PSt w0 B10 B11 B12 m s.c w
def ownP (b B10 B12 : Nat) (_ : World) (x : Nat) : Prop := x = b ∨ x = B12 ∨ x = B10
theorem PSt.keeps {w0 : World} {B10 B11 B12 m c : Nat} {w w' : World} {bs : List Nat} (h : PSt w0 B10 B11 B12 m c w) (hk : Keeps bs w w') (h10 : B10 ∉ bs) (h11 : B11 ∉ bs) (h12 : B12 ∉ bs) (hb : ∀ x ∈ bs, w0.heap.size ≤ x) : PSt w0 B10 B11 B12 m c w' :=
  ⟨(hk.block _ (Array.getElem?_eq_some_iff.1 h.ok).1 h12).trans h.ok, (hk.block _ (Array.getElem?_eq_some_iff.1 h.n).1 h10).trans h.n, (hk.block _ (Array.getElem?_eq_some_iff.1 h.m).1 h11).trans h.m, h.below.trans (hk.below h.below.size hb)⟩
theorem pt_two (ws : List (List UInt8)) (lv : List Int) (m size : Nat) (s : PtS) (n : Nat) :
    (ptM ws lv m size).two s n = ((rdM.two ⟨s.rest, s.bad, []⟩ n).1, ⟨(rdM.two ⟨s.rest, s.bad, []⟩ n).2.rest, (rdM.two ⟨s.rest, s.bad, []⟩ n).2.bad, s.c⟩) ∧ (rdM.two ⟨s.rest, s.bad, []⟩ n).2.out = [] := by
  obtain ⟨rest, bad, c⟩ := s
  cases rest <;> exact ⟨rfl, rfl⟩
theorem pathWalks {w0 : World} {B4 B7 B9 B10 B11 B12 : Nat} {wao : Option Addr} {wcap : Nat} {lao : Option Addr} {lcap : Nat} {ws : List (List UInt8)} {lv : List Int} {m size : Nat} (E : PEnv w0 B4 B7 B9 B10 B11 B12 wao wcap lao lcap ws lv m size)
    (b : Nat) (hb : w0.heap.size ≤ b) (h10 : b ≠ B10) (h11 : b ≠ B11) (h12 : b ≠ B12) :
    Walks (ptM ws lv m size) (AtP w0 b B10 B11 B12 m) (ownP b B10 B12) 36 34 #[.pointer (some ⟨b, 0, none⟩)] #[] #[]
      #[.pointer (some ⟨B12, 0, none⟩), .pointer (some ⟨B10, 0, none⟩), .pointer (some ⟨B9, 0, none⟩), .pointer (some ⟨B7, 0, none⟩), .pointer (some ⟨B4, 0, none⟩), .pointer (some ⟨B11, 0, none⟩)] where
  eg1 := fun _ _ => by kernel_rfl
  eg2 := fun _ _ => by kernel_rfl
  mn := fun j j' s w hj ⟨h, hp⟩ => ⟨⟨h.lt, h.c0, h.c1, h.c2, h.f0, h.f1, h.f2, h.own, h.hr, by have := h.hm; omega⟩, hp⟩
  lt := fun j s w x ⟨h, hp⟩ hx => by
    rcases hx with rfl | rfl | rfl
    · exact h.lt
    · exact (Array.getElem?_eq_some_iff.1 hp.ok).1
    · exact (Array.getElem?_eq_some_iff.1 hp.n).1
  st := fun j s w w' ⟨h, hp⟩ hbl => ⟨⟨h.keeps (keeps_of_below hbl []) (by simp) (by simp), hp.keeps (keeps_of_below hbl []) (by simp) (by simp) (by simp) (by simp)⟩, fun x hx => hx⟩
  two := fun j s n w _ ⟨h, hp⟩ => by
    obtain ⟨e1, e2⟩ := pt_two ws lv m size s n
    refine (rTwo b j ⟨s.rest, s.bad, []⟩ (.slice none 0 0) n w h).mono ?_
    rintro e w' ⟨rfl, h', hk⟩
    rw [Int.toNat_natCast] at h' ⊢
    rw [e1]
    refine ⟨rfl, ⟨?_, hp.keeps hk (by simp; omega) (by simp; omega) (by simp; omega) (by simpa using hb)⟩, lives_keeps hk (fun x hx => .inl (by simpa using hx)) (fun x hx => .inl hx)⟩
    generalize (rdM.two ⟨s.rest, s.bad, []⟩ n).2 = y at *
    obtain ⟨r, bd, o⟩ := y
    obtain rfl : o = [] := e2
    exact h'
  leaf := fun j s p n w _ hp4 hpre ⟨h, hp⟩ => by
    refine (pYield E s.c n p w hp hpre.1 hpre.2.1 hpre.2.2 hp4).mono ?_
    rintro e w' ⟨rfl, hp', hk⟩
    have h' := h.keeps hk (by simp; omega) (by simp [Value.ownBlock])
    exact ⟨rfl, ⟨⟨h'.lt, h'.c0, h'.c1, h'.c2, h'.f0, h'.f1, h'.f2, h'.own, h'.hr, by
      have e : 0 + (j + 1) ≤ 1000 := h'.hm
      show 0 + j ≤ 1000
      omega⟩, hp'⟩, lives_keeps hk (fun x hx => by
      simp at hx
      rcases hx with rfl | rfl
      · exact .inr (.inl rfl)
      · exact .inr (.inr rfl)) (fun x hx => .inl hx)⟩

/-- What the law's closure was told in the end. -/
theorem paths_end {n m : Nat} {s : List UInt8} {lv : List Int} {ws : List (List UInt8)} (hr : rd 4 n s = some (lv, [])) (hw : (pth 4 n s []).1 = ws) :
    walkOk (ptM ws lv m n) 4 n [] ⟨s, false, 0⟩ ∧ (walkF (ptM ws lv m n) 4 n [] ⟨s, false, 0⟩).2.c = min ws.length (max m 1) ∧ ws.length = lv.length := by
  obtain ⟨v, e, hl, _⟩ := pth_like 4 n s lv [] [] hr
  obtain rfl : v = ws := by rw [← hw, e]
  have hpos : 0 < lv.length := rd_pos hr
  obtain ⟨o, f, g⟩ := ptM_ok v lv m n 4 n [] s 0 lv [] [] [] hr (by rw [e]; simp) (by simp) (by simp) (.inr rfl)
  refine ⟨o, ?_, hl⟩
  by_cases h : 0 + lv.length < m
  · rw [f h]
    simp only
    omega
  · rw [(g (by omega)).2]
    omega

set_option maxHeartbeats 1600000 in
theorem cPaths_yes {w0 : World} {B4 B7 B9 B10 B11 B12 : Nat} {wao : Option Addr} {wcap : Nat} {lao : Option Addr} {lcap : Nat} {ws : List (List UInt8)} {lv : List Int} {m n : Nat} (E : PEnv w0 B4 B7 B9 B10 B11 B12 wao wcap lao lcap ws lv m n)
    (s : List UInt8) (TB SB : Nat) (W : World) (h1 : 1 ≤ n) (hs : s.length ≤ 100000) (hr : rd 4 n s = some (lv, [])) (hw : (pth 4 n s []).1 = ws)
    (ht : W.cell? ⟨TB, 0, none⟩ = some (.string (bs s))) (htl : TB < W.heap.size) (hsz : W.cell? ⟨SB, 0, none⟩ = some (.int .i64 (n : Int))) (hsl : SB < W.heap.size) (hp : PSt w0 B10 B11 B12 m 0 W) :
    Calls Try.prog 53 #[.func (.func 34) #[] #[.pointer (some ⟨B12, 0, none⟩), .pointer (some ⟨B10, 0, none⟩), .pointer (some ⟨B9, 0, none⟩), .pointer (some ⟨B7, 0, none⟩), .pointer (some ⟨B4, 0, none⟩), .pointer (some ⟨B11, 0, none⟩)],
        .pointer (some ⟨TB, 0, none⟩), .pointer (some ⟨SB, 0, none⟩)] W
      fun e W' => (∃ v, e = .returned v) ∧ PSt w0 B10 B11 B12 m (min ws.length (max m 1)) W' := by
  obtain ⟨ho, hc, hlen⟩ := paths_end (m := m) hr hw
  have HT := Lib.hid (cIsTree n s W hs)
  rw [decide_eq_true (codeL_some (sizeB_nat h1 E.sz) (leavesOf_some.2 hr))] at HT
  have HC := Lib.hid hc
  have HP := Lib.hid hp
  have HW := fun (w1 : World) (hb : Below W.heap.size W w1) => Lib.hid (show Calls Try.prog 38 _ (w1.alloc (.cells #[.string (bs s), .bool false, .slice none 0 0] 68)) _ from by
    have hp1 := hp.keeps (keeps_of_below hb []) (by simp) (by simp) (by simp) (by simp)
    have l12 := (Array.getElem?_eq_some_iff.1 hp1.ok).1
    have l10 := (Array.getElem?_eq_some_iff.1 hp1.n).1
    have l11 := (Array.getElem?_eq_some_iff.1 hp1.m).1
    have hbx := box_below w1 (.cells #[.string (bs s), .bool false, .slice none 0 0] 68)
    exact cWalk (pathWalks E w1.heap.size (by have := hp1.below.size; omega) (by omega) (by omega) (by omega)) 4 n 1 [] ⟨s, false, 0⟩ (w1.alloc (.cells #[.string (bs s), .bool false, .slice none 0 0] 68)) rfl E.sz ho
      ⟨readAt_new w1 s (1 + cst 4) hs (by decide), hp1.keeps (keeps_of_below hbx []) (by simp) (by simp) (by simp) (by simp)⟩)
  have HTC := fun (w1 : World) (hb : Below W.heap.size W w1) => (hb.cell (p := ⟨TB, 0, none⟩) htl).trans ht
  have HSC := fun (w1 : World) (hb : Below W.heap.size W w1) => (hb.cell (p := ⟨SB, 0, none⟩) hsl).trans hsz
  clear ho hc hlen hr hw E hp
  go_enter Try.func53, Try.ntmps53
  go_wp2_with fail
  refine HT.out.mono ?_
  rintro e w1 ⟨rfl, hb1⟩
  have k1 := HTC w1 hb1
  have k2 := HSC w1 hb1
  have l2 := Nat.lt_of_lt_of_le hsl hb1.size
  have HW1 := Lib.hid (HW w1 hb1).out
  clear hb1 HTC HSC HW
  go_wp2_with fail
  refine HW1.out.mono ?_
  rintro e w2 ⟨rfl, ⟨_, hp2⟩, _⟩
  rw [HC.out] at hp2
  have HF := Lib.hid hp2
  clear hp2
  go_wp2
  go_end0
  exact ⟨⟨_, rfl⟩, HF.out⟩

set_option maxHeartbeats 800000 in
theorem cPaths_no (s : List UInt8) (size : Int) (y : Value) (TB SB : Nat) (W : World) (hs : s.length ≤ 100000) (hc : codeL size s ≠ 0)
    (ht : W.cell? ⟨TB, 0, none⟩ = some (.string (bs s))) (hsz : W.cell? ⟨SB, 0, none⟩ = some (.int .i64 size)) :
    Calls Try.prog 53 #[y, .pointer (some ⟨TB, 0, none⟩), .pointer (some ⟨SB, 0, none⟩)] W fun e W' => (∃ v, e = .returned v) ∧ Below W.heap.size W W' := by
  have HT := Lib.hid (cIsTree size s W hs)
  rw [decide_eq_false hc] at HT
  clear hc
  go_enter Try.func53, Try.ntmps53
  go_wp2_with fail
  refine HT.out.mono ?_
  rintro e w1 ⟨rfl, hb1⟩
  have HB1 := Lib.hid hb1
  clear hb1
  go_wp2
  refine bodyPost_ret (results_none rfl _ _ _) rfl ?_
  exact ⟨⟨_, rfl⟩, HB1.out⟩

theorem cTPaths (S : ByteArray) (size : Int) (w : World) :
    Calls Try.prog 33 #[.string S, .int .i64 size] w fun e w' => e = .returned (.func (.func 53) #[] #[.pointer (some ⟨w.heap.size, 0, none⟩), .pointer (some ⟨w.heap.size + 1, 0, none⟩)]) ∧
      w' = (w.alloc (.cells #[.string S] 9)).alloc (.cells #[.int .i64 size] 3) := by
  go_enter Try.func33, Try.ntmps33
  go_wp2
  go_ret
  exact ⟨rfl, rfl⟩
end Go.Proofs.Ytmgckfkdbepkdaa
