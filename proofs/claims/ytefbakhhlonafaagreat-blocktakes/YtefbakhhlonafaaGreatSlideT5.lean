import Derived.Test.YtefbakhhlonafaaGreatSlideT4

namespace Go.Proofs.YtefbakhhlonafaaGreat
open Go.RowKit Go.Shelf Go.Proofs Go.Proofs.PipeM Go.Proofs.PipeA
set_option maxRecDepth 100000

attribute [local go_sem] Oper.semAt_some

/-- The frame behind the making of the list and of the parameters. -/
def takeA (w : World) (b n p m LB KB BX : Nat) : Array Value :=
  #[.pointer (some ⟨b, 0, none⟩), .int .i64 (n : Int), .pointer (some ⟨w.heap.size, 0, none⟩), undef, .pointer (some ⟨w.heap.size + 1, 0, none⟩), .pointer (some ⟨w.heap.size + 1 + 1, 0, none⟩), .int .i64 (p : Int), .slice (some ⟨LB, 0, none⟩) n n, .pointer (some ⟨BX, 0, none⟩), undef, undef, undef,
    .int .i64 (n : Int), .bool true, .bool false, undef, undef, undef, .pointer (some ⟨b, 0, none⟩), .int .u64 (p : Int), .int .i64 (p : Int), .int .i64 (n : Int), .int .i64 (p : Int), .bool true, .bool false, undef, undef, undef, .int .i64 (n : Int), .slice (some ⟨LB, 0, none⟩) n n, .int .i64 (p : Int), .int .i64 (m : Int), .slice (some ⟨KB, 0, none⟩) m m,
    undef, undef, undef, undef, undef, undef, undef, undef, undef, undef, undef, undef, undef, undef, undef, undef, undef, undef, undef, undef, undef, undef, undef, undef, undef, undef, undef, undef, undef, undef, undef, undef, undef, undef, undef]

/-- What is made there. -/
def Made (wt : World) (m : Nat) (csL csK : Array Value) (LB KB BX : Nat) (W : World) : Prop :=
  W.heap[LB]? = some (.cells csL 3) ∧ W.heap[KB]? = some (.cells csK 3) ∧ W.heap[BX]? = some (.cells #[.slice (some ⟨KB, 0, none⟩) m m] 22) ∧ wt.heap.size ≤ LB ∧ wt.heap.size ≤ KB ∧ wt.heap.size ≤ BX ∧ LB ≠ KB ∧ LB ≠ BX ∧ KB ≠ BX ∧ Below wt.heap.size wt W

theorem KeysAt.keeps {W W' : World} {H m : Nat} {f : Nat → Int} {bs : List Nat} (h : KeysAt W H m f) (hk : Keeps bs W W') (hn : H ∉ bs) (hlt : H < W.heap.size) : KeysAt W' H m f :=
  fun j hj => ⟨(hk.cell (p := ⟨H, j, none⟩) hlt hn).trans (h j hj).1, (hk.frozen (p := ⟨H, j, none⟩) hlt hn).trans (h j hj).2⟩
theorem KeysAt.set {W : World} {H m x : Nat} {f : Nat → Int} (h : KeysAt W H m f) (hx : x < m) (v : Int) : KeysAt (W.setCell ⟨H, x, none⟩ (.int .i64 v)) H m (fun j => if j = x then v else f j) := by
  intro j hj
  rw [World.frozen?_setCell]
  by_cases e : j = x
  · subst e
    rw [World.cell?_setCell_same' _ _ _ (by rw [(h j hj).1]; rfl)]
    exact ⟨by simp, (h j hj).2⟩
  · rw [World.cell?_setCell_other _ _ _ _ (by intro e2; cases e2; exact e rfl)]
    simp only [if_neg e]
    exact h j hj
theorem KeysAt.congr {W : World} {H m : Nat} {f g : Nat → Int} (h : KeysAt W H m f) (he : ∀ j, j < m → g j = f j) : KeysAt W H m g :=
  fun j hj => by rw [he j hj]; exact h j hj
theorem run_err {size : Nat} {t : TS} {l : List Nat} (hl : l ≠ []) (h : (t.run size l).ok = true) : (t.run size l).s.err = 0 := by
  rcases List.eq_nil_or_concat l with rfl | ⟨l', x, rfl⟩
  · exact absurd rfl hl
  · rw [List.concat_eq_append, run_snoc] at h ⊢
    simp [TS.step] at h
    exact h.2

/-- The frame of a round. -/
def roundA (B0 B1 B2 b n p m size LB KB BX c t x : Nat) (v39 v40 v41 v42 v43 v44 : Value) : Array Value :=
  #[.pointer (some ⟨b, 0, none⟩), .int .i64 (n : Int), .pointer (some ⟨B0, 0, none⟩), undef, .pointer (some ⟨B1, 0, none⟩), .pointer (some ⟨B2, 0, none⟩), .int .i64 (p : Int), .slice (some ⟨LB, 0, none⟩) n n, .pointer (some ⟨BX, 0, none⟩), .int .i64 (x : Int), (.slice (some ⟨LB, x * size, none⟩) size (n - x * size)), undef,
    .int .i64 (n : Int), .bool true, .bool false, undef, undef, undef, .pointer (some ⟨b, 0, none⟩), .int .u64 (p : Int), .int .i64 (p : Int), .int .i64 (n : Int), .int .i64 (p : Int), .bool true, .bool false, undef, undef, undef, .int .i64 (n : Int), .slice (some ⟨LB, 0, none⟩) n n, .int .i64 (p : Int), .int .i64 (m : Int), .slice (some ⟨KB, 0, none⟩) m m,
    .slice (some ⟨LB, 0, none⟩) n n, .int .i64 (p : Int), .agg #[.slice (some ⟨LB, 0, none⟩) n n, .int .i64 (p : Int)], .func (.func 124) #[] #[.pointer (some ⟨c, 0, none⟩), .pointer (some ⟨t, 0, none⟩)], .int .i64 (x : Int), (.slice (some ⟨LB, x * size, none⟩) size (n - x * size)),
    v39, v40, v41, v42, v43, v44, undef, undef, undef, undef, undef, undef, undef, undef, undef, undef, undef, undef, undef, undef, undef, undef, undef, undef, undef, undef, undef, undef, undef]

/-- Where the taking stands behind these parts. -/
def runP (size : Nat) (s0 : RS) {m : Nat} (pre : List (Fin m)) : TS := (⟨s0, true, fun _ => 0, fun _ => 0⟩ : TS).run size (pre.map (·.val))
theorem runP_snoc (size : Nat) (s0 : RS) {m : Nat} (pre : List (Fin m)) (x : Fin m) : runP size s0 (pre ++ [x]) = (runP size s0 pre).step size x.val := by
  unfold runP; rw [List.map_append]; exact run_snoc _ _ _ _

/-- What abides in a round, and between rounds. -/
def TakeI (b : Nat) (ao : Option Addr) (size n LB KB : Nat) (s0 : RS) (W6 : World) {m : Nat} (pre : List (Fin m)) (W : World) : Prop :=
  (runP size s0 pre).ok = true ∧ (RdA W b ao (runP size s0 pre).s ∧ (Keeps [b, LB, KB] W6 W ∧ (KeysAt W KB m (runP size s0 pre).keys ∧ KeysAt W LB n (runP size s0 pre).list)))
/-- What is left where a part failed. -/
def TakeX (b : Nat) (ao : Option Addr) (size LB KB B1 B2 : Nat) (s0 : RS) (W6 : World) {m : Nat} (cd : Code) (pre : List (Fin m)) (W : World) : Prop :=
  (cd = .ret ∧ ∃ (pre' : List (Fin m)) (x : Fin m), pre = pre' ++ [x] ∧ (runP size s0 pre').ok = true ∧ (runP size s0 pre).s.err ≠ 0) ∧ (RdA W b ao (runP size s0 pre).s ∧ (Keeps [b, LB, KB, B1, B2] W6 W ∧
    ((W.cell? ⟨B1, 0, none⟩ = some (.slice none 0 0) ∧ W.frozen? ⟨B1, 0, none⟩ = false) ∧ ((W.cell? ⟨B2, 0, none⟩ = some (.int .i64 0) ∧ W.frozen? ⟨B2, 0, none⟩ = false) ∧ (W.cell? ⟨B2, 1, none⟩ = some (.slice none 0 0) ∧ W.frozen? ⟨B2, 1, none⟩ = false)))))

def setR (W : World) (B1 B2 : Nat) (v0 v1 v2 : Value) : World := ((W.setCell ⟨B1, 0, none⟩ v0).setCell ⟨B2, 0, none⟩ v1).setCell ⟨B2, 1, none⟩ v2
theorem setR_is {W : World} {B1 B2 : Nat} {x0 x1 x2 : Value} (v0 v1 v2 : Value) (hne : B1 ≠ B2) (h0 : W.cell? ⟨B1, 0, none⟩ = some x0) (h1 : W.cell? ⟨B2, 0, none⟩ = some x1) (h2 : W.cell? ⟨B2, 1, none⟩ = some x2) :
    Keeps [B1, B2] W (setR W B1 B2 v0 v1 v2) ∧ (setR W B1 B2 v0 v1 v2).cell? ⟨B1, 0, none⟩ = some v0 ∧ (setR W B1 B2 v0 v1 v2).cell? ⟨B2, 0, none⟩ = some v1 ∧ (setR W B1 B2 v0 v1 v2).cell? ⟨B2, 1, none⟩ = some v2 := by
  unfold setR
  refine ⟨?_, ?_, ?_, ?_⟩
  · exact (((keeps_setCell W B1 0 _).mono (by simp)).trans ((keeps_setCell _ B2 0 _).mono (by simp))).trans ((keeps_setCell _ B2 1 _).mono (by simp))
  · rw [World.cell?_setCell_other _ _ _ _ (by simp), World.cell?_setCell_other _ _ _ _ (by intro e; cases e; exact hne rfl)]
    exact World.cell?_setCell_same' _ _ _ (by rw [h0]; rfl)
  · rw [World.cell?_setCell_other _ _ _ _ (by simp)]
    exact World.cell?_setCell_same' _ _ _ (by rw [World.cell?_setCell_other _ _ _ _ (by intro e; cases e; exact hne rfl), h1]; rfl)
  · exact World.cell?_setCell_same' _ _ _ (by rw [World.cell?_setCell_other _ _ _ _ (by simp), World.cell?_setCell_other _ _ _ _ (by simp), h2]; rfl)

theorem size_of {n p m size : Nat} (hm : m = 2 ^ p) (hsp : n = size * m) (hm1 : 1 ≤ m) : n / 2 ^ p = size := by
  rw [← hm, hsp]; exact Nat.mul_div_cancel _ hm1

theorem stop_body {n p m size : Nat} {s0 : RS} {pre : List (Fin m)} {x : Fin m} (hm : m = 2 ^ p) (hsp : n = size * m) (hm1 : 1 ≤ m) (hok : (runP size s0 pre).ok = true) (herr : (runP size s0 (pre ++ [x])).s.err ≠ 0)
    (hS : (pre ++ [x]).map (·.val) = List.range (pre ++ [x]).length) : s0.slideB n p = ((runP size s0 (pre ++ [x])).s, [], 0, []) := by
  rw [List.map_append, List.length_append, List.length_singleton, List.range_succ] at hS
  obtain ⟨h1, h2⟩ := List.append_inj hS (by simp)
  have hx : x.val = pre.length := by simpa using h2
  have hq : pre.length + 1 ≤ m := by have := x.2; omega
  have hr : runP size s0 pre = (⟨s0, true, fun _ => 0, fun _ => 0⟩ : TS).run size (List.range' 0 pre.length) := by unfold runP; rw [h1, List.range_eq_range']
  rw [runP_snoc, hx, hr] at herr ⊢
  rw [hr] at hok
  have hb := body_stop size (m - (pre.length + 1)) pre.length 0 ⟨s0, true, fun _ => 0, fun _ => 0⟩ hok (by rw [Nat.zero_add]; exact herr)
  rw [show pre.length + 1 + (m - (pre.length + 1)) = m by omega, Nat.zero_add] at hb
  unfold RS.slideB
  rw [size_of hm hsp hm1, ← hm, hb, if_pos herr]

theorem done_body {n p m size : Nat} {s0 : RS} {xs : List (Fin m)} (hm : m = 2 ^ p) (hsp : n = size * m) (hm1 : 1 ≤ m) (hok : (runP size s0 xs).ok = true) (hS : xs.map (·.val) = List.range m) :
    s0.slideB n p = ((runP size s0 xs).s, (List.range n).map (runP size s0 xs).list, p, (List.range m).map (runP size s0 xs).keys) := by
  have hr : runP size s0 xs = (⟨s0, true, fun _ => 0, fun _ => 0⟩ : TS).run size (List.range' 0 m) := by unfold runP; rw [hS, List.range_eq_range']
  have he : (runP size s0 xs).s.err = 0 := run_err (by rw [hS]; intro h; have := congrArg List.length h; simp at this; omega) hok
  rw [hr] at hok he ⊢
  have hb := body_run size m 0 ⟨s0, true, fun _ => 0, fun _ => 0⟩ hok
  simp only [Nat.zero_mul, Nat.zero_add] at hb
  unfold RS.slideB
  rw [size_of hm hsp hm1, ← hm, hb, if_neg (by simp [he]), hsp, Nat.mul_comm size m]

theorem ints_of_keys {W : World} {H m : Nat} {f : Nat → Int} (h : KeysAt W H m f) (hlt : H < W.heap.size) : IntsAt W (some ⟨H, 0, none⟩) ((List.range m).map f) := by
  intro j hj
  have hjm : j < m := by simpa using hj
  refine ⟨H, 0, rfl, hlt, ?_⟩
  rw [Nat.zero_add, (h j hjm).1]
  simp

set_option maxHeartbeats 6400000 in
theorem cSTake_main (b : Nat) (ao : Option Addr) (s : RS) (n p m size : Nat) (w : World) (h : RdA w b ao s) (ha : ∀ g off, ao = some ⟨g, off, none⟩ → g < w.heap.size) (hn : lenOk n = true) (hn2 : n ≤ 1024) (hp : powOk n (p : Int) = true) (hv : s.takeV 2 = p)
    (h3 : p ≤ 3) (hm : m = 2 ^ p) (hsp : n = size * m) (hs : 1 ≤ size) :
    Calls Tryz.prog 90 #[.pointer (some ⟨b, 0, none⟩), .int .i64 n] w (TakeIs w b ao ((s.takeS 2).slideB n p)) := by
  have hm8 : m ≤ 8 := by rw [hm]; exact Nat.le_trans (Nat.pow_le_pow_right (by decide) h3) (by decide)
  have hm1 : 1 ≤ m := by rw [hm]; exact Nat.two_pow_pos p
  have hs2 : size ≤ 1024 := by
    have : size * 1 ≤ size * m := Nat.mul_le_mul_left size hm1
    omega
  have HI := fun W => Lib.hid (cIsLen n W)
  rw [hn] at HI
  have HP := fun W => Lib.hid (cIsPow n (p : Int) W (by omega))
  rw [hp] at HP
  have H := Lib.hid h
  have hb := h.lt
  obtain ⟨csL, hcsL, hmkL⟩ := makeInts n (by omega)
  obtain ⟨csK, hcsK, hmkK⟩ := makeInts m (by omega)
  have E4 : IntKind.i64.wrap ((2 : Int) ^ p) = (m : Int) := by
    have : ((2 : Int) ^ p) = ((2 ^ p : Nat) : Int) := by rw [Int.natCast_pow]; rfl
    rw [this, ← hm]
    exact IntWalk.i64_in _ ⟨by omega, by omega⟩
  have E5 : wrap64 ((2 : Int) ^ p) = (m : Int) := by
    have : ((2 : Int) ^ p) = ((2 ^ p : Nat) : Int) := by rw [Int.natCast_pow]; rfl
    rw [this, ← hm]
    exact IntWalk.wrap64_in _ ⟨by omega, by omega⟩
  have HSP := Lib.hid hsp
  have HM := Lib.hid hm
  have HV := Lib.hid hv
  have HCL := Lib.hid hcsL
  have HCK := Lib.hid hcsK
  clear h hn hp hsp hm hv hcsL hcsK
  refine (callsIn_wide (n := 5)).1 ?_
  refine callsIn_of_wp_marks Tryz.func90 rfl trivial ?_ rfl
  simp only [Tryz.ntmps90, List.size_toArray, List.length_cons, List.length_nil, Nat.reduceAdd, Nat.reduceSub, Array.replicate_succ, Array.replicate_zero, List.push_toArray, List.append_toArray, List.nil_append, List.cons_append]
  gi_wp2_with fail
  refine ⟨trivial, (callsIn_wide.2 (HI _).out).mono ?_⟩
  obtain ⟨h1, h2, h3', hz, hbl⟩ := alloc3h w (.cells #[.pointer (some ⟨b, 0, none⟩)] 40) (.cells #[.slice none 0 0] 22) (.cells #[.int .i64 0, .slice none 0 0] 101)
  generalize ((w.alloc (.cells #[.pointer (some ⟨b, 0, none⟩)] 40)).alloc (.cells #[.slice none 0 0] 22)).alloc (.cells #[.int .i64 0, .slice none 0 0] 101) = w3 at h1 h2 h3' hz hbl ⊢
  rintro e wq ⟨rfl, rfl⟩
  have b0 : w3.cell? ⟨w.heap.size, 0, none⟩ = some (.pointer (some ⟨b, 0, none⟩)) := cell_of_heap h1 0
  have HT := Lib.hid (aTake b ao s 2 w3 (H.out.keeps (keeps_of_below hbl []) (by simp) (by simp)))
  rw [HV.out] at HT
  gi_wp2_with fail
  refine ⟨trivial, (callsIn_wide.2 HT.out).mono ?_⟩
  rintro e wt ⟨rfl, hrt, hkt⟩
  have hwr : IntKind.i64.wrap (p : Int) = (p : Int) := IntWalk.i64_in _ ⟨by omega, by omega⟩
  gi_wp2_with fail
  refine ⟨trivial, (callsIn_wide.2 (HP _).out).mono ?_⟩
  rintro e wx ⟨rfl, rfl⟩
  gi_wp2_with fail
  refine Code.wpIn_mono (Q := fun e a W => e = .normal ∧ ∃ LB KB BX, a = { tmps := takeA w b n p m LB KB BX, defers := [] } ∧ Made wt m csL csK LB KB BX W) ?mono ?reg
  case reg =>
    gi_region
    · obtain ⟨a1, a2, a3, _, a5⟩ := alloc3h wt (.cells csL 3) (.cells csK 3) (.cells #[.slice (some ⟨wt.heap.size + 1, 0, none⟩) m m] 22)
      exact ⟨rfl, wt.heap.size, wt.heap.size + 1, wt.heap.size + 1 + 1, rfl, a1, a2, a3, by omega, by omega, by omega, by omega, by omega, by omega, a5.drew⟩
    · obtain ⟨a1, a2, a3, _, a5⟩ := alloc3h wt (.cells csL 3) (.cells #[.slice (some ⟨wt.heap.size + 1 + 1, 0, none⟩) m m] 22) (.cells csK 3)
      exact ⟨rfl, wt.heap.size, wt.heap.size + 1 + 1, wt.heap.size + 1, rfl, a1, a3, a2, by omega, by omega, by omega, by omega, by omega, by omega, a5.drew⟩
    · obtain ⟨a1, a2, a3, _, a5⟩ := alloc3h wt (.cells csK 3) (.cells csL 3) (.cells #[.slice (some ⟨wt.heap.size, 0, none⟩) m m] 22)
      exact ⟨rfl, wt.heap.size + 1, wt.heap.size, wt.heap.size + 1 + 1, rfl, a2, a1, a3, by omega, by omega, by omega, by omega, by omega, by omega, a5.drew⟩
    · obtain ⟨a1, a2, a3, _, a5⟩ := alloc3h wt (.cells csK 3) (.cells #[.slice (some ⟨wt.heap.size, 0, none⟩) m m] 22) (.cells csL 3)
      exact ⟨rfl, wt.heap.size + 1 + 1, wt.heap.size, wt.heap.size + 1, rfl, a3, a1, a2, by omega, by omega, by omega, by omega, by omega, by omega, a5.drew⟩
    · obtain ⟨a1, a2, a3, _, a5⟩ := alloc3h wt (.cells #[.slice (some ⟨wt.heap.size + 1 + 1, 0, none⟩) m m] 22) (.cells csL 3) (.cells csK 3)
      exact ⟨rfl, wt.heap.size + 1, wt.heap.size + 1 + 1, wt.heap.size, rfl, a2, a3, a1, by omega, by omega, by omega, by omega, by omega, by omega, a5.drew⟩
    · obtain ⟨a1, a2, a3, _, a5⟩ := alloc3h wt (.cells #[.slice (some ⟨wt.heap.size + 1, 0, none⟩) m m] 22) (.cells csK 3) (.cells csL 3)
      exact ⟨rfl, wt.heap.size + 1 + 1, wt.heap.size + 1, wt.heap.size, rfl, a3, a2, a1, by omega, by omega, by omega, by omega, by omega, by omega, a5.drew⟩
  case mono =>
    rintro e a W5 ⟨rfl, LB, KB, BX, rfl, hL, hK, hX, l1, k1, x1, n1, n2, n3, hb5⟩
    unfold takeA
    have HPT := Lib.hid (cParts (some ⟨LB, 0, none⟩) n n p W5 h3)
    have hztt := hkt.size
    have HK5 : Hid (Keeps [b] w W5) := ((keeps_of_below hbl [b]).trans hkt).trans (keeps_of_below hb5 [b])
    have HRD5 := Lib.hid (hrt.keeps (keeps_of_below hb5 []) (by simp) (by simp))
    have hz5 := hb5.size
    have hK5 : ∀ k, k < wt.heap.size → k ≠ b → W5.heap[k]? = w3.heap[k]? ∨ w3.heap.size ≤ k := fun k hk hkb => by
      rcases Nat.lt_or_ge k w3.heap.size with h | h
      · exact Or.inl ((hb5.block k hk).trans (hkt.block k h (by simpa using hkb)))
      · exact Or.inr h
    have g0 : W5.heap[w.heap.size]? = some (.cells #[.pointer (some ⟨b, 0, none⟩)] 40) := by
      rcases hK5 w.heap.size (by omega) (by omega) with h | h
      · exact h.trans h1
      · omega
    have g1 : W5.heap[w.heap.size + 1]? = some (.cells #[.slice none 0 0] 22) := by
      rcases hK5 (w.heap.size + 1) (by omega) (by omega) with h | h
      · exact h.trans h2
      · omega
    have g2 : W5.heap[w.heap.size + 1 + 1]? = some (.cells #[.int .i64 0, .slice none 0 0] 101) := by
      rcases hK5 (w.heap.size + 1 + 1) (by omega) (by omega) with h | h
      · exact h.trans h3'
      · omega
    have hl5 : LB < W5.heap.size := (Array.getElem?_eq_some_iff.1 hL).1
    have hk5 : KB < W5.heap.size := (Array.getElem?_eq_some_iff.1 hK).1
    have hx5 : BX < W5.heap.size := (Array.getElem?_eq_some_iff.1 hX).1
    clear hK5 hkt hbl hrt h1 h2 h3' HT hb5 hmkL hmkK E4 E5 HI HP b0
    gi_wp2_with fail
    refine ⟨trivial, (callsIn_wide.2 HPT.out).mono ?_⟩
    rintro e W6 ⟨c, t, rfl, hpa, hc1, ht1, hc2, ht2, hb6⟩
    unfold partsF
    gi_wp2_with fail
    have hseq := each1_stops (n := 4) LB 0 n n p size m c t W6 (by omega) h3 HM.out HSP.out hs hn2 (Nat.le_refl _) hpa hc2 ht2
    have hz6 := hb6.size
    have q0 : W6.cell? ⟨w.heap.size, 0, none⟩ = some (.pointer (some ⟨b, 0, none⟩)) := (hb6.cell (p := ⟨w.heap.size, 0, none⟩) (by show w.heap.size < _; omega)).trans (cell_of_heap g0 0)
    have r0 : W6.cell? ⟨w.heap.size + 1, 0, none⟩ = some (.slice none 0 0) := (hb6.cell (p := ⟨w.heap.size + 1, 0, none⟩) (by show w.heap.size + 1 < _; omega)).trans (cell_of_heap g1 0)
    have r1 : W6.cell? ⟨w.heap.size + 1 + 1, 0, none⟩ = some (.int .i64 0) := (hb6.cell (p := ⟨w.heap.size + 1 + 1, 0, none⟩) (by show w.heap.size + 1 + 1 < _; omega)).trans (cell_of_heap g2 0)
    have r2 : W6.cell? ⟨w.heap.size + 1 + 1, 1, none⟩ = some (.slice none 0 0) := (hb6.cell (p := ⟨w.heap.size + 1 + 1, 1, none⟩) (by show w.heap.size + 1 + 1 < _; omega)).trans (cell_of_heap g2 1)
    have f0 : W6.frozen? ⟨w.heap.size + 1, 0, none⟩ = false := (hb6.frozen (p := ⟨w.heap.size + 1, 0, none⟩) (by show w.heap.size + 1 < _; omega)).trans (frozen_of_heap g1 0)
    have f1 : W6.frozen? ⟨w.heap.size + 1 + 1, 0, none⟩ = false := (hb6.frozen (p := ⟨w.heap.size + 1 + 1, 0, none⟩) (by show w.heap.size + 1 + 1 < _; omega)).trans (frozen_of_heap g2 0)
    have f2 : W6.frozen? ⟨w.heap.size + 1 + 1, 1, none⟩ = false := (hb6.frozen (p := ⟨w.heap.size + 1 + 1, 1, none⟩) (by show w.heap.size + 1 + 1 < _; omega)).trans (frozen_of_heap g2 1)
    have x0 : W6.cell? ⟨BX, 0, none⟩ = some (.slice (some ⟨KB, 0, none⟩) m m) := (hb6.cell (p := ⟨BX, 0, none⟩) (by show BX < _; omega)).trans (cell_of_heap hX 0)
    have HKEY : Hid (KeysAt W6 KB m (fun _ => 0)) := fun j hj => ⟨((hb6.cell (p := ⟨KB, j, none⟩) (by show KB < _; omega)).trans (cell_of_heap hK j)).trans (HCK.out j hj), (hb6.frozen (p := ⟨KB, j, none⟩) (by show KB < _; omega)).trans (frozen_of_heap hK j)⟩
    have HLST : Hid (KeysAt W6 LB n (fun _ => 0)) := fun j hj => ⟨((hb6.cell (p := ⟨LB, j, none⟩) (by show LB < _; omega)).trans (cell_of_heap hL j)).trans (HCL.out j hj), (hb6.frozen (p := ⟨LB, j, none⟩) (by show LB < _; omega)).trans (frozen_of_heap hL j)⟩
    have HRD6 := Lib.hid (HRD5.out.keeps (keeps_of_below hb6 []) (by simp) (by simp))
    have HK6 : Hid (Keeps [b] w W6) := HK5.out.trans (keeps_of_below hb6 [b])
    clear g0 g1 g2 hL hK hX hpa hb6 HCK HCL HRD5 HK5 HPT
    have hcb : c ≠ b := by omega
    have htb : t ≠ b := by omega
    generalize hB1 : w.heap.size + 1 = B1 at *
    generalize hB2 : B1 + 1 = B2 at *
    have hao6 : ∀ g off, ao = some ⟨g, off, none⟩ → g < W6.heap.size := fun g off h => by have := ha g off h; omega
    refine wpIn_rangeFunc_ownG rfl (by omega) (gf := 124) (lb := #[.pointer (some ⟨c, 0, none⟩), .pointer (some ⟨t, 0, none⟩)]) rfl trivial (enters_of Tryz.func124 (by kernel_rfl) rfl)
      hseq kpB_t (kpB_b hc2 ht2) (Below.refl _ _) (fun _ => rfl)
      (fun pre W => TakeI b ao size n LB KB (s.takeS 2) W6 pre W)
      (fun cd pre W => TakeX b ao size LB KB B1 B2 (s.takeS 2) W6 cd pre W)
      (own_and ((own_rda (by omega) hao6 _).and (own_keeps.and ((own_keys _).and (own_keys _)))))
      (fun cd => own_and ((own_rda (by omega) hao6 _).and (own_keeps.and ((own_cell ⟨B1, 0, none⟩ (fun _ => .slice none 0 0)).and ((own_cell ⟨B2, 0, none⟩ (fun _ => .int .i64 0)).and (own_cell ⟨B2, 1, none⟩ (fun _ => .slice none 0 0)))))))
      ⟨rfl, HRD6.out, Keeps.refl _ _, HKEY.out, HLST.out⟩
      (fun x => { tmps := roundA w.heap.size B1 B2 b n p m size LB KB BX c t x.val undef undef undef undef undef undef, defers := [] }) ?assign ?body ?done ?stop
    case assign =>
      intro l' x W K hK
      unfold encP partV
      unfold roundA at hK
      gi_wp2
      exact hK
    case body =>
      rintro l' pre ⟨x, hx⟩ W ⟨hok, hrd, hkW, hkey, hlst⟩ hpre
      have hmx : Tryz.prog.follows .mixedOrders = true := by kernel_rfl
      have hx1 : (x + 1) * size ≤ n := by
        rw [HSP.out, Nat.mul_comm size]
        exact Nat.mul_le_mul_right size hx
      have HSN := Lib.hid (runP_snoc size (s.takeS 2) pre ⟨x, hx⟩)
      have HOK := Lib.hid hok
      have HOKP := Lib.hid hok
      generalize runP size (s.takeS 2) pre = tt at hok hrd hkey hlst HSN HOK
      have hszW := hkW.size
      have HKW := Lib.hid hkW
      have q0W : W.cell? ⟨w.heap.size, 0, none⟩ = some (.pointer (some ⟨b, 0, none⟩)) := (hkW.cell (p := ⟨w.heap.size, 0, none⟩) (by show w.heap.size < _; omega) (by simp; omega)).trans q0
      have x0W : W.cell? ⟨BX, 0, none⟩ = some (.slice (some ⟨KB, 0, none⟩) m m) := (hkW.cell (p := ⟨BX, 0, none⟩) (by show BX < _; omega) (by simp; omega)).trans x0
      have HTK := Lib.hid (aTake b ao tt.s 5 W.drew (hrd.keeps (keeps_drew W) (by simp) (by simp)))
      have hk32 : tt.s.takeV 5 < 2 ^ 5 := takeV_ltn tt.s 5 (by omega)
      have HKEYW := Lib.hid hkey
      have HLSTW := Lib.hid hlst
      obtain ⟨k, hk⟩ : ∃ k, k = tt.s.takeV 5 := ⟨_, rfl⟩
      have HKE := Lib.hid hk
      rw [← hk] at HTK hk32
      have hwk : IntKind.i64.wrap (k : Int) = (k : Int) := IntWalk.i64_in _ ⟨by omega, by omega⟩
      have HCX : ∀ w5, Reads W.drew b ao (tt.s.takeS 5) w5 → w5.cell? ⟨BX, 0, none⟩ = some (.slice (some ⟨KB, 0, none⟩) m m) := fun w5 h => (h.2.cell (p := ⟨BX, 0, none⟩) (by show BX < W.heap.size; omega) (by simp; omega)).trans x0W
      have HCK : ∀ w5, Reads W.drew b ao (tt.s.takeS 5) w5 → w5.cell? ⟨KB, x, none⟩ = some (.int .i64 (tt.keys x)) ∧ w5.frozen? ⟨KB, x, none⟩ = false := fun w5 h =>
        ⟨(h.2.cell (p := ⟨KB, x, none⟩) (by show KB < W.heap.size; omega) (by simp; omega)).trans (HKEYW.out x hx).1, (h.2.frozen (p := ⟨KB, x, none⟩) (by show KB < W.heap.size; omega) (by simp; omega)).trans (HKEYW.out x hx).2⟩
      have HFN : ∀ w5, Reads W.drew b ao (tt.s.takeS 5) w5 → RdA (w5.setCell ⟨KB, x, none⟩ (.int .i64 (k : Int))) b ao (tt.s.takeS 5) ∧ Keeps [b, KB] W (w5.setCell ⟨KB, x, none⟩ (.int .i64 (k : Int))) ∧ KeysAt (w5.setCell ⟨KB, x, none⟩ (.int .i64 (k : Int))) KB m (putK x k tt.keys) := fun w5 h => by
        have kk : Keeps [b] W w5 := ((keeps_drew W).mono (by simp)).trans h.2
        refine ⟨h.1.keeps (keeps_setCell w5 KB x _) (by simp; omega) ?_, (kk.mono (by simp)).trans ((keeps_setCell w5 KB x _).mono (by simp)), ?_⟩
        · intro g off hh; have := ha g off hh; simp; omega
        · exact (HKEYW.out.keeps kk (by simp; omega) (by omega)).set hx k
      clear hrd hkW hkey hlst hok hk
      unfold roundA
      gi_wp2_with fail
      refine Code.wpIn_mono (Q := fun e a W7 => e = .normal ∧ a = { tmps := roundA w.heap.size B1 B2 b n p m size LB KB BX c t x (.slice (some ⟨KB, 0, none⟩) m m) (.int .i64 (x : Int)) (.pointer (some ⟨b, 0, none⟩)) (.int .u64 (k : Int)) (.int .i64 (k : Int)) (.pointer (some ⟨KB, x, none⟩)), defers := [] } ∧ RdA W7 b ao (tt.s.takeS 5) ∧ Keeps [b, KB] W W7 ∧ KeysAt W7 KB m (putK x k tt.keys)) ?mono12 ?reg12
      case reg12 =>
        refine regionR hmx (by kernel_rfl) ?_
        refine wpAnyIn_take (i := 1) (v := ?_) rfl rfl (by kernel_rfl) (by kernel_rfl) (by kernel_rfl) (fun _ _ _ h => by cases h.1) ⟨Or.inl ⟨by rfl, ?_⟩, fun _ => rfl⟩ ?_
        rotate_left
        · intro w9; go_simp; try with_reducible rfl
        refine wpAnyIn_ready (rs := [0, 2]) (by kernel_rfl) (by simp) ?_
        refine AllReadyIn.cons rfl (fun K hK => ?_) ?_
        · go_simp
          refine hK _ _ ?_
          clear hK K
          refine wpAnyIn_ready (rs := [2]) (by kernel_rfl) (by simp) ?_
          refine AllReadyIn.cons rfl (fun K hK => ?_) ?_
          · go_simp
            refine hK _ _ ?_
            clear hK K
            refine wpAnyIn_ready (rs := [3]) (by kernel_rfl) (by simp) ?_
            refine AllReadyIn.cons rfl (fun K hK => ?_) ?_
            · go_simp
              refine ⟨trivial, (callsIn_wide.2 HTK.out).mono ?_⟩
              rintro e w5 ⟨rfl, hr5⟩
              have u0 := HCX w5 hr5
              have u1 := (HCK w5 hr5).1
              have u2 := (HCK w5 hr5).2
              have HFI := Lib.hid (HFN w5 hr5)
              clear hr5
              refine hK _ _ ?_
              clear hK K
              refine wpAnyIn_take (i := 4) (v := ?_) rfl rfl (by kernel_rfl) (by kernel_rfl) (by kernel_rfl) (fun _ _ _ h => by cases h.1) ⟨Or.inl ⟨by rfl, ?_⟩, fun _ => rfl⟩ ?_
              rotate_left
              · intro w9; go_simp; try with_reducible rfl
              refine wpAnyIn_take (i := 5) (v := ?_) rfl rfl (by kernel_rfl) (by kernel_rfl) (by kernel_rfl) (fun _ _ _ h => by cases h.1) ⟨Or.inl ⟨by rfl, ?_⟩, fun _ => rfl⟩ ?_
              rotate_left
              · intro w9; go_simp; try with_reducible rfl
              refine wpAnyIn_ready (rs := [6]) (by kernel_rfl) (by simp) ?_
              refine AllReadyIn.cons rfl (fun K hK => ?_) ?_
              · go_simp
                refine hK _ _ ?_
                clear hK K
                refine wpAnyIn_done (by kernel_rfl) ?_ _
                exact ⟨rfl, rfl, HFI.out⟩
              exact AllReadyIn.nil
            exact AllReadyIn.nil
          exact AllReadyIn.nil
        refine AllReadyIn.cons rfl (fun K hK => ?_) ?_
        · go_simp
          refine hK _ _ ?_
          clear hK K
          refine wpAnyIn_ready (rs := [0, 3]) (by kernel_rfl) (by simp) ?_
          refine AllReadyIn.cons rfl (fun K hK => ?_) ?_
          · go_simp
            refine hK _ _ ?_
            clear hK K
            refine wpAnyIn_ready (rs := [3]) (by kernel_rfl) (by simp) ?_
            refine AllReadyIn.cons rfl (fun K hK => ?_) ?_
            · go_simp
              refine ⟨trivial, (callsIn_wide.2 HTK.out).mono ?_⟩
              rintro e w5 ⟨rfl, hr5⟩
              have u0 := HCX w5 hr5
              have u1 := (HCK w5 hr5).1
              have u2 := (HCK w5 hr5).2
              have HFI := Lib.hid (HFN w5 hr5)
              clear hr5
              refine hK _ _ ?_
              clear hK K
              refine wpAnyIn_take (i := 4) (v := ?_) rfl rfl (by kernel_rfl) (by kernel_rfl) (by kernel_rfl) (fun _ _ _ h => by cases h.1) ⟨Or.inl ⟨by rfl, ?_⟩, fun _ => rfl⟩ ?_
              rotate_left
              · intro w9; go_simp; try with_reducible rfl
              refine wpAnyIn_take (i := 5) (v := ?_) rfl rfl (by kernel_rfl) (by kernel_rfl) (by kernel_rfl) (fun _ _ _ h => by cases h.1) ⟨Or.inl ⟨by rfl, ?_⟩, fun _ => rfl⟩ ?_
              rotate_left
              · intro w9; go_simp; try with_reducible rfl
              refine wpAnyIn_ready (rs := [6]) (by kernel_rfl) (by simp) ?_
              refine AllReadyIn.cons rfl (fun K hK => ?_) ?_
              · go_simp
                refine hK _ _ ?_
                clear hK K
                refine wpAnyIn_done (by kernel_rfl) ?_ _
                exact ⟨rfl, rfl, HFI.out⟩
              exact AllReadyIn.nil
            exact AllReadyIn.nil
          refine AllReadyIn.cons rfl (fun K hK => ?_) ?_
          · go_simp
            refine ⟨trivial, (callsIn_wide.2 HTK.out).mono ?_⟩
            rintro e w5 ⟨rfl, hr5⟩
            have u0 := HCX w5 hr5
            have u1 := (HCK w5 hr5).1
            have u2 := (HCK w5 hr5).2
            have HFI := Lib.hid (HFN w5 hr5)
            clear hr5
            refine hK _ _ ?_
            clear hK K
            refine wpAnyIn_take (i := 4) (v := ?_) rfl rfl (by kernel_rfl) (by kernel_rfl) (by kernel_rfl) (fun _ _ _ h => by cases h.1) ⟨Or.inl ⟨by rfl, ?_⟩, fun _ => rfl⟩ ?_
            rotate_left
            · intro w9; go_simp; try with_reducible rfl
            refine wpAnyIn_ready (rs := [0]) (by kernel_rfl) (by simp) ?_
            refine AllReadyIn.cons rfl (fun K hK => ?_) ?_
            · go_simp
              refine hK _ _ ?_
              clear hK K
              refine wpAnyIn_take (i := 5) (v := ?_) rfl rfl (by kernel_rfl) (by kernel_rfl) (by kernel_rfl) (fun _ _ _ h => by cases h.1) ⟨Or.inl ⟨by rfl, ?_⟩, fun _ => rfl⟩ ?_
              rotate_left
              · intro w9; go_simp; try with_reducible rfl
              refine wpAnyIn_ready (rs := [6]) (by kernel_rfl) (by simp) ?_
              refine AllReadyIn.cons rfl (fun K hK => ?_) ?_
              · go_simp
                refine hK _ _ ?_
                clear hK K
                refine wpAnyIn_done (by kernel_rfl) ?_ _
                exact ⟨rfl, rfl, HFI.out⟩
              exact AllReadyIn.nil
            exact AllReadyIn.nil
          exact AllReadyIn.nil
        exact AllReadyIn.nil
      case mono12 =>
        clear HTK HCX HCK HFN
        rintro e a W7 ⟨rfl, rfl, hr7, hk7, hy7⟩
        have hsz7 := hk7.size
        have q7 := (hk7.cell (p := ⟨w.heap.size, 0, none⟩) (by show w.heap.size < _; omega) (by simp; omega)).trans q0W
        have x7 := (hk7.cell (p := ⟨BX, 0, none⟩) (by show BX < _; omega) (by simp; omega)).trans x0W
        have y7 : W7.cell? ⟨KB, x, none⟩ = some (.int .i64 (k : Int)) := by have := (hy7 x hx).1; rwa [putK, if_pos rfl] at this
        have HL7 := Lib.hid (HLSTW.out.keeps hk7 (by simp; omega) (by omega))
        have HK7 := Lib.hid hk7
        have HY7 := Lib.hid hy7
        have HR7 := Lib.hid hr7
        clear hk7 hy7 hr7
        unfold roundA
        gi_wp2_with fail
        gi_loopw [47] (fun iv wr => ∃ j : Nat, j ≤ size ∧ iv = .int .i64 j ∧ Hid (RdA wr b ao (RS.many k j (tt.s.takeS 5)).1 ∧ Keeps [b, LB] W7 wr ∧ KeysAt wr LB n (putL size x j (RS.many k j (tt.s.takeS 5)).2 tt.list)))
          (fun iv _ => size - (intOf iv).toNat)
        case atStart => exact ⟨0, Nat.zero_le _, rfl, Lib.hid ⟨HR7.out, Keeps.refl _ _, HL7.out.congr (fun j _ => by unfold putL; rw [if_neg (by omega)])⟩⟩
        case round =>
          obtain ⟨j, hj, rfl, HWr⟩ := hrel
          by_cases hlt : j < size
          · obtain ⟨hrr, hkr, hlr⟩ := HWr.out
            have hszr := hkr.size
            have qr := (hkr.cell (p := ⟨w.heap.size, 0, none⟩) (by show w.heap.size < _; omega) (by simp; omega)).trans q7
            have xr := (hkr.cell (p := ⟨BX, 0, none⟩) (by show BX < _; omega) (by simp; omega)).trans x7
            have yr := (hkr.cell (p := ⟨KB, x, none⟩) (by show KB < _; omega) (by simp; omega)).trans y7
            have hij : x * size + j < n := by rw [Nat.add_mul] at hx1; omega
            have HRC := Lib.hid (cTake b ao (RS.many k j (tt.s.takeS 5)).1 k wr.drew (hrr.keeps (keeps_drew wr) (by simp) (by simp)))
            have HKR := Lib.hid hkr
            have HLR := Lib.hid hlr
            have HCL : ∀ w8, Reads wr.drew b ao ((RS.many k j (tt.s.takeS 5)).1.rice k).1 w8 → w8.cell? ⟨LB, x * size + j, none⟩ = some (.int .i64 (putL size x j (RS.many k j (tt.s.takeS 5)).2 tt.list (x * size + j))) ∧ w8.frozen? ⟨LB, x * size + j, none⟩ = false := fun w8 h =>
              ⟨(h.2.cell (p := ⟨LB, x * size + j, none⟩) (by show LB < wr.heap.size; omega) (by simp; omega)).trans (HLR.out _ hij).1, (h.2.frozen (p := ⟨LB, x * size + j, none⟩) (by show LB < wr.heap.size; omega) (by simp; omega)).trans (HLR.out _ hij).2⟩
            have HFN : ∀ w8, Reads wr.drew b ao ((RS.many k j (tt.s.takeS 5)).1.rice k).1 w8 → RdA (w8.setCell ⟨LB, x * size + j, none⟩ (.int .i64 ((RS.many k j (tt.s.takeS 5)).1.rice k).2)) b ao (RS.many k (j + 1) (tt.s.takeS 5)).1 ∧ Keeps [b, LB] W7 (w8.setCell ⟨LB, x * size + j, none⟩ (.int .i64 ((RS.many k j (tt.s.takeS 5)).1.rice k).2)) ∧ KeysAt (w8.setCell ⟨LB, x * size + j, none⟩ (.int .i64 ((RS.many k j (tt.s.takeS 5)).1.rice k).2)) LB n (putL size x (j + 1) (RS.many k (j + 1) (tt.s.takeS 5)).2 tt.list) := fun w8 h => by
              have kk : Keeps [b] wr w8 := ((keeps_drew wr).mono (by simp)).trans h.2
              refine ⟨?_, HKR.out.trans ((kk.mono (by simp)).trans ((keeps_setCell w8 LB _ _).mono (by simp))), ?_⟩
              · rw [many_snoc]
                refine h.1.keeps (keeps_setCell w8 LB _ _) (by simp; omega) ?_
                intro g off hh; have := ha g off hh; simp; omega
              · exact ((HLR.out.keeps kk (by simp; omega) (by omega)).set hij _).congr (putL_next (N := n))
            clear hrr hkr hlr HWr
            generalize RS.many k j (tt.s.takeS 5) = M at HRC HCL HFN HLR
            gi_wp2_with fail
            refine regionR hmx (by kernel_rfl) ?_
            refine wpAnyIn_take (i := 0) (v := ?_) rfl rfl (by kernel_rfl) (by kernel_rfl) (by kernel_rfl) (fun _ _ _ h => h) ⟨Or.inl ⟨by rfl, ?_⟩, fun _ => rfl⟩ ?_
            rotate_left
            · intro w9; go_simp; try with_reducible rfl
            refine wpAnyIn_take (i := 1) (v := ?_) rfl rfl (by kernel_rfl) (by kernel_rfl) (by kernel_rfl) (fun _ _ _ h => h) ⟨Or.inl ⟨by rfl, ?_⟩, fun _ => rfl⟩ ?_
            rotate_left
            · intro w9; go_simp; try with_reducible rfl
            refine wpAnyIn_take (i := 4) (v := ?_) rfl rfl (by kernel_rfl) (by kernel_rfl) (by kernel_rfl) (fun _ _ _ h => h) ⟨Or.inl ⟨by rfl, ?_⟩, fun _ => rfl⟩ ?_
            rotate_left
            · intro w9; go_simp; try with_reducible rfl
            refine wpAnyIn_ready (rs := [2, 3]) (by kernel_rfl) (by simp) ?_
            refine AllReadyIn.cons rfl (fun K hK => ?_) ?_
            · go_simp
              refine hK _ _ ?_
              clear hK K
              refine wpAnyIn_ready (rs := [3]) (by kernel_rfl) (by simp) ?_
              refine AllReadyIn.cons rfl (fun K hK => ?_) ?_
              · go_simp
                refine hK _ _ ?_
                clear hK K
                refine wpAnyIn_take (i := 5) (v := ?_) rfl rfl (by kernel_rfl) (by kernel_rfl) (by kernel_rfl) (fun _ _ _ h => h) ⟨Or.inl ⟨by rfl, ?_⟩, fun _ => rfl⟩ ?_
                rotate_left
                · intro w9; go_simp; try with_reducible rfl
                refine wpAnyIn_ready (rs := [6]) (by kernel_rfl) (by simp) ?_
                refine AllReadyIn.cons rfl (fun K hK => ?_) ?_
                · go_simp
                  refine hK _ _ ?_
                  clear hK K
                  refine wpAnyIn_ready (rs := [7]) (by kernel_rfl) (by simp) ?_
                  refine AllReadyIn.cons rfl (fun K hK => ?_) ?_
                  · go_simp
                    refine ⟨trivial, (callsIn_wide.2 HRC.out).mono ?_⟩
                    rintro e w8 ⟨rfl, hr8⟩
                    have u1 := (HCL w8 hr8).1
                    have u2 := (HCL w8 hr8).2
                    have HFI := Lib.hid (HFN w8 hr8)
                    clear hr8
                    refine hK _ _ ?_
                    clear hK K
                    refine wpAnyIn_take (i := 8) (v := ?_) rfl rfl (by kernel_rfl) (by kernel_rfl) (by kernel_rfl) (fun _ _ _ h => h) ⟨Or.inl ⟨by rfl, ?_⟩, fun _ => rfl⟩ ?_
                    rotate_left
                    · intro w9; go_simp; try with_reducible rfl
                    refine wpAnyIn_ready (rs := [9]) (by kernel_rfl) (by simp) ?_
                    refine AllReadyIn.cons rfl (fun K hK => ?_) ?_
                    · go_simp
                      refine hK _ _ ?_
                      clear hK K
                      refine wpAnyIn_done (by kernel_rfl) ?_ _
                      gi_wp2
                      go_roundw
                      case rel => exact ⟨j + 1, by omega, by go_num, HFI⟩
                      case measure => simp [intOf]; omega
                    exact AllReadyIn.nil
                  exact AllReadyIn.nil
                exact AllReadyIn.nil
              exact AllReadyIn.nil
            refine AllReadyIn.cons rfl (fun K hK => ?_) ?_
            · go_simp
              refine hK _ _ ?_
              clear hK K
              refine wpAnyIn_take (i := 5) (v := ?_) rfl rfl (by kernel_rfl) (by kernel_rfl) (by kernel_rfl) (fun _ _ _ h => h) ⟨Or.inl ⟨by rfl, ?_⟩, fun _ => rfl⟩ ?_
              rotate_left
              · intro w9; go_simp; try with_reducible rfl
              refine wpAnyIn_ready (rs := [2, 6]) (by kernel_rfl) (by simp) ?_
              refine AllReadyIn.cons rfl (fun K hK => ?_) ?_
              · go_simp
                refine hK _ _ ?_
                clear hK K
                refine wpAnyIn_ready (rs := [6]) (by kernel_rfl) (by simp) ?_
                refine AllReadyIn.cons rfl (fun K hK => ?_) ?_
                · go_simp
                  refine hK _ _ ?_
                  clear hK K
                  refine wpAnyIn_ready (rs := [7]) (by kernel_rfl) (by simp) ?_
                  refine AllReadyIn.cons rfl (fun K hK => ?_) ?_
                  · go_simp
                    refine ⟨trivial, (callsIn_wide.2 HRC.out).mono ?_⟩
                    rintro e w8 ⟨rfl, hr8⟩
                    have u1 := (HCL w8 hr8).1
                    have u2 := (HCL w8 hr8).2
                    have HFI := Lib.hid (HFN w8 hr8)
                    clear hr8
                    refine hK _ _ ?_
                    clear hK K
                    refine wpAnyIn_take (i := 8) (v := ?_) rfl rfl (by kernel_rfl) (by kernel_rfl) (by kernel_rfl) (fun _ _ _ h => h) ⟨Or.inl ⟨by rfl, ?_⟩, fun _ => rfl⟩ ?_
                    rotate_left
                    · intro w9; go_simp; try with_reducible rfl
                    refine wpAnyIn_ready (rs := [9]) (by kernel_rfl) (by simp) ?_
                    refine AllReadyIn.cons rfl (fun K hK => ?_) ?_
                    · go_simp
                      refine hK _ _ ?_
                      clear hK K
                      refine wpAnyIn_done (by kernel_rfl) ?_ _
                      gi_wp2
                      go_roundw
                      case rel => exact ⟨j + 1, by omega, by go_num, HFI⟩
                      case measure => simp [intOf]; omega
                    exact AllReadyIn.nil
                  exact AllReadyIn.nil
                exact AllReadyIn.nil
              refine AllReadyIn.cons rfl (fun K hK => ?_) ?_
              · go_simp
                refine hK _ _ ?_
                clear hK K
                refine wpAnyIn_ready (rs := [2]) (by kernel_rfl) (by simp) ?_
                refine AllReadyIn.cons rfl (fun K hK => ?_) ?_
                · go_simp
                  refine hK _ _ ?_
                  clear hK K
                  refine wpAnyIn_ready (rs := [7]) (by kernel_rfl) (by simp) ?_
                  refine AllReadyIn.cons rfl (fun K hK => ?_) ?_
                  · go_simp
                    refine ⟨trivial, (callsIn_wide.2 HRC.out).mono ?_⟩
                    rintro e w8 ⟨rfl, hr8⟩
                    have u1 := (HCL w8 hr8).1
                    have u2 := (HCL w8 hr8).2
                    have HFI := Lib.hid (HFN w8 hr8)
                    clear hr8
                    refine hK _ _ ?_
                    clear hK K
                    refine wpAnyIn_take (i := 8) (v := ?_) rfl rfl (by kernel_rfl) (by kernel_rfl) (by kernel_rfl) (fun _ _ _ h => h) ⟨Or.inl ⟨by rfl, ?_⟩, fun _ => rfl⟩ ?_
                    rotate_left
                    · intro w9; go_simp; try with_reducible rfl
                    refine wpAnyIn_ready (rs := [9]) (by kernel_rfl) (by simp) ?_
                    refine AllReadyIn.cons rfl (fun K hK => ?_) ?_
                    · go_simp
                      refine hK _ _ ?_
                      clear hK K
                      refine wpAnyIn_done (by kernel_rfl) ?_ _
                      gi_wp2
                      go_roundw
                      case rel => exact ⟨j + 1, by omega, by go_num, HFI⟩
                      case measure => simp [intOf]; omega
                    exact AllReadyIn.nil
                  exact AllReadyIn.nil
                exact AllReadyIn.nil
              exact AllReadyIn.nil
            exact AllReadyIn.nil
          · obtain rfl : j = size := by omega
            obtain ⟨hrr, hkr, hlr⟩ := HWr.out
            have hszr := hkr.size
            have kk : Keeps [b, LB, KB] W wr := (HK7.out.mono (by simp)).trans (hkr.mono (by simp))
            have qr := (hkr.cell (p := ⟨w.heap.size, 0, none⟩) (by show w.heap.size < _; omega) (by simp; omega)).trans q7
            have HFL := Lib.hid (aFail b ao (RS.many k j (tt.s.takeS 5)).1 wr hrr)
            have HPS : Hid (RS.many k j (tt.s.takeS 5) = tt.s.partS j) := Lib.hid (by unfold RS.partS; rw [← HKE.out])
            have HKf : Hid (KeepsFrom W6.heap.size W wr) := Lib.hid (keepsFrom_of kk (fun y hy => by simp at hy; left; omega))
            have HKp : Hid (KpB c t W wr) := Lib.hid (kpB_keeps kk (by omega) (by omega) (by simp; omega) (by simp; omega))
            have HYr : Hid (KeysAt wr KB m (putK x k tt.keys)) := Lib.hid (HY7.out.keeps hkr (by simp; omega) (by omega))
            have HKK : Hid (Keeps [b, LB, KB] W6 wr) := Lib.hid (HKW.out.trans kk)
            have HRR := Lib.hid hrr
            have HLR := Lib.hid hlr
            have e0 := (HKK.out.size)
            clear hrr hkr hlr kk HWr
            by_cases herr : (RS.many k j (tt.s.takeS 5)).1.err = 0
            · have t9 : ((RS.many k j (tt.s.takeS 5)).1.err != 0) = false := by rw [herr]; rfl
              have HFIN : Hid (KeepsFrom W6.heap.size W wr ∧ KpB c t W wr ∧ TakeI b ao j n LB KB (s.takeS 2) W6 (pre ++ [⟨x, hx⟩]) wr) := Lib.hid (by
                refine ⟨HKf.out, HKp.out, ?_⟩
                unfold TakeI
                rw [HSN.out]
                unfold TS.step
                rw [← HPS.out, ← HKE.out]
                exact ⟨by rw [HOK.out, herr]; rfl, HRR.out, HKK.out, HYr.out, HLR.out⟩)
              clear herr
              generalize (RS.many k j (tt.s.takeS 5)).1.err = er at HFL t9
              gi_wp2_with fail
              refine ⟨trivial, (CallsIn.inRound l' (callsIn_wide.2 HFL.out)).mono ?_⟩
              rintro e w9 ⟨rfl, rfl⟩
              gi_wp2_with fail
              exact HFIN.out
            · have t9 : ((RS.many k j (tt.s.takeS 5)).1.err != 0) = true := bne_iff_ne.2 herr
              have c0 := (HKK.out.cell (p := ⟨B1, 0, none⟩) (by show B1 < _; omega) (by simp; omega)).trans r0
              have c1 := (HKK.out.cell (p := ⟨B2, 0, none⟩) (by show B2 < _; omega) (by simp; omega)).trans r1
              have c2 := (HKK.out.cell (p := ⟨B2, 1, none⟩) (by show B2 < _; omega) (by simp; omega)).trans r2
              have z0 := (HKK.out.frozen (p := ⟨B1, 0, none⟩) (by show B1 < _; omega) (by simp; omega)).trans f0
              have z1 := (HKK.out.frozen (p := ⟨B2, 0, none⟩) (by show B2 < _; omega) (by simp; omega)).trans f1
              have z2 := (HKK.out.frozen (p := ⟨B2, 1, none⟩) (by show B2 < _; omega) (by simp; omega)).trans f2
              have HFIN : Hid (KeepsFrom W6.heap.size W (nilled wr B1 B2) ∧ TakeX b ao j LB KB B1 B2 (s.takeS 2) W6 .ret (pre ++ [⟨x, hx⟩]) (nilled wr B1 B2)) := Lib.hid (by
                obtain ⟨kn, y0, y1, y2⟩ := nilled_is (by omega) c0 c1 c2
                have kk2 : Keeps [b, LB, KB, B1, B2] W6 (nilled wr B1 B2) := (HKK.out.mono (by simp)).trans (kn.mono (by simp))
                refine ⟨HKf.out.trans (keepsFrom_of kn (fun y hy => by simp at hy; left; omega)), ?_⟩
                unfold TakeX
                rw [HSN.out]
                refine ⟨⟨rfl, pre, ⟨x, hx⟩, rfl, HOKP.out, ?_⟩, ?_, kk2, ⟨y0, ?_⟩, ⟨y1, ?_⟩, y2, ?_⟩
                · unfold TS.step; rw [← HPS.out]; exact herr
                · unfold TS.step; rw [← HPS.out]
                  refine HRR.out.keeps kn (by simp; omega) ?_
                  intro g off hh; have := ha g off hh; simp; omega
                · unfold nilled; rw [World.frozen?_setCell, World.frozen?_setCell, World.frozen?_setCell]; exact z0
                · unfold nilled; rw [World.frozen?_setCell, World.frozen?_setCell, World.frozen?_setCell]; exact z1
                · unfold nilled; rw [World.frozen?_setCell, World.frozen?_setCell, World.frozen?_setCell]; exact z2)
              unfold nilled at HFIN
              clear herr
              generalize (RS.many k j (tt.s.takeS 5)).1.err = er at HFL t9
              gi_wp2_with fail
              refine ⟨trivial, (CallsIn.inRound l' (callsIn_wide.2 HFL.out)).mono ?_⟩
              rintro e w9 ⟨rfl, rfl⟩
              gi_wp2_with fail
              exact HFIN.out
    case done =>
      rintro D xs W hD hS ⟨hok, hrd, hkW, hkey, hlst⟩ hDW
      have hmx : Tryz.prog.follows .mixedOrders = true := by kernel_rfl
      have hszW := hkW.size
      have c0 := (hkW.cell (p := ⟨B1, 0, none⟩) (by show B1 < _; omega) (by simp; omega)).trans r0
      have c1 := (hkW.cell (p := ⟨B2, 0, none⟩) (by show B2 < _; omega) (by simp; omega)).trans r1
      have c2 := (hkW.cell (p := ⟨B2, 1, none⟩) (by show B2 < _; omega) (by simp; omega)).trans r2
      have z0 := (hkW.frozen (p := ⟨B1, 0, none⟩) (by show B1 < _; omega) (by simp; omega)).trans f0
      have z1 := (hkW.frozen (p := ⟨B2, 0, none⟩) (by show B2 < _; omega) (by simp; omega)).trans f1
      have z2 := (hkW.frozen (p := ⟨B2, 1, none⟩) (by show B2 < _; omega) (by simp; omega)).trans f2
      have xW := (hkW.cell (p := ⟨BX, 0, none⟩) (by show BX < _; omega) (by simp; omega)).trans x0
      obtain ⟨kn, y0, y1, y2⟩ := setR_is (.slice (some ⟨LB, 0, none⟩) n n) (.int .i64 (p : Int)) (.slice (some ⟨KB, 0, none⟩) m m) (by omega) c0 c1 c2
      have hDb : D < W.heap.size := (Array.getElem?_eq_some_iff.1 hDW).1
      have W2c : Hid (∀ W2, W2 = (setR W B1 B2 (.slice (some ⟨LB, 0, none⟩) n n) (.int .i64 (p : Int)) (.slice (some ⟨KB, 0, none⟩) m m)).drew → W2.heap[D]? = some (.deferred (some [])) ∧ (W2.putObj D (.deferred none)).cell? ⟨B1, 0, none⟩ = some (.slice (some ⟨LB, 0, none⟩) n n) ∧ (W2.putObj D (.deferred none)).cell? ⟨B2, 0, none⟩ = some (.int .i64 (p : Int)) ∧ (W2.putObj D (.deferred none)).cell? ⟨B2, 1, none⟩ = some (.slice (some ⟨KB, 0, none⟩) m m) ∧
          TakeIs w b ao ((s.takeS 2).slideB n p) (.returned (.tuple #[.slice (some ⟨LB, 0, none⟩) n n, .agg #[.int .i64 (p : Int), .slice (some ⟨KB, 0, none⟩) m m]])) (W2.putObj D (.deferred none))) := Lib.hid (by
        rintro W2 rfl
        have k2 : Keeps [B1, B2] W (setR W B1 B2 (.slice (some ⟨LB, 0, none⟩) n n) (.int .i64 (p : Int)) (.slice (some ⟨KB, 0, none⟩) m m)).drew := kn.trans (keeps_drew_b _ _)
        have kD : Keeps [D] (setR W B1 B2 (.slice (some ⟨LB, 0, none⟩) n n) (.int .i64 (p : Int)) (.slice (some ⟨KB, 0, none⟩) m m)).drew ((setR W B1 B2 (.slice (some ⟨LB, 0, none⟩) n n) (.int .i64 (p : Int)) (.slice (some ⟨KB, 0, none⟩) m m)).drew.putObj D (.deferred none)) := ⟨rfl, rfl, rfl, by simp [World.putObj], fun k _ hk => World.putObj_heap_other (by simpa using hk)⟩
        have ksz := k2.size
        have kall : Keeps [B1, B2, D] W ((setR W B1 B2 (.slice (some ⟨LB, 0, none⟩) n n) (.int .i64 (p : Int)) (.slice (some ⟨KB, 0, none⟩) m m)).drew.putObj D (.deferred none)) := (k2.mono (by simp)).trans (kD.mono (by simp))
        refine ⟨(k2.block D hDb (by simp; omega)).trans hDW, (World.cell?_of_block (World.putObj_heap_other (by simp; omega))).trans y0, (World.cell?_of_block (World.putObj_heap_other (by simp; omega))).trans y1, (World.cell?_of_block (World.putObj_heap_other (by simp; omega))).trans y2, ?_⟩
        rw [done_body HM.out HSP.out hm1 hok hS]
        have hlk := hlst.keeps kall (by simp; omega) (by omega)
        have hkk := hkey.keeps kall (by simp; omega) (by omega)
        have hszA := kall.size
        refine ⟨some ⟨LB, 0, none⟩, n, some ⟨KB, 0, none⟩, m, by simp, hrd.keeps kall (by simp; omega) ?_, ints_of_keys hlk (by omega), ints_of_keys hkk (by omega), ?_, ?_, by simp, by simp, ?_⟩
        · intro g off hh; have := ha g off hh; simp; omega
        · intro g off hh; cases hh; omega
        · intro g off hh; cases hh; omega
        · exact (HK6.out.trans_new hkW (by intro y hy; simp at hy ⊢; omega)).trans_new kall (by intro y hy; simp at hy; right; omega))
      unfold setR at W2c
      clear hrd hkW hkey hlst hok hS kn y0 y1 y2
      gi_wp2_with fail
      gi_region
      obtain ⟨W2, hW2⟩ : ∃ W2, W2 = (((W.setCell ⟨B1, 0, none⟩ (.slice (some ⟨LB, 0, none⟩) n n)).setCell ⟨B2, 0, none⟩ (.int .i64 (p : Int))).setCell ⟨B2, 1, none⟩ (.slice (some ⟨KB, 0, none⟩) m m)).drew := ⟨_, rfl⟩
      rw [← hW2]
      obtain ⟨hD2, y0, y1, y2, hfin⟩ := W2c.out W2 hW2
      have HF := Lib.hid hfin
      clear hW2 W2c hfin
      gi_wp2
      refine ⟨by simp, .inl ⟨_, _, rfl, run_takeDeferred hD2, ?_⟩⟩
      refine ⟨.tuple #[.slice (some ⟨LB, 0, none⟩) n n, .agg #[.int .i64 (p : Int), .slice (some ⟨KB, 0, none⟩) m m]], ?_, HF.out⟩
      clear HF
      simp [results, Tryz.results90, go_sem, y0, y1, y2]
    case stop =>
      rintro D cd pre W hD hS ⟨⟨rfl, pre', x, rfl, hok, herr⟩, hrd, hkW, ⟨y0, _⟩, ⟨y1, _⟩, y2, _⟩ hDW
      have hszW := hkW.size
      have hDn : D ≠ B1 ∧ D ≠ B2 ∧ D ≠ b := by omega
      have y0' : (W.putObj D (.deferred none)).cell? ⟨B1, 0, none⟩ = some (.slice none 0 0) := (World.cell?_of_block (World.putObj_heap_other (by simp; omega))).trans y0
      have y1' : (W.putObj D (.deferred none)).cell? ⟨B2, 0, none⟩ = some (.int .i64 0) := (World.cell?_of_block (World.putObj_heap_other (by simp; omega))).trans y1
      have y2' : (W.putObj D (.deferred none)).cell? ⟨B2, 1, none⟩ = some (.slice none 0 0) := (World.cell?_of_block (World.putObj_heap_other (by simp; omega))).trans y2
      have HF : Hid (TakeIs w b ao ((s.takeS 2).slideB n p) (.returned (.tuple #[.slice none 0 0, .agg #[.int .i64 0, .slice none 0 0]])) (W.putObj D (.deferred none))) := Lib.hid (by
        have kD : Keeps [D] W (W.putObj D (.deferred none)) := ⟨rfl, rfl, rfl, by simp [World.putObj], fun k _ hk => World.putObj_heap_other (by simpa using hk)⟩
        have hb := stop_body HM.out HSP.out hm1 hok herr hS
        rw [hb]
        refine takeIs_none (hrd.keeps kD (by simp; omega) ?_) ?_
        · intro g off hh; have := ha g off hh; simp; omega
        · exact (HK6.out.trans_new hkW (by intro y hy; simp at hy ⊢; omega)).trans_new kD (by intro y hy; simp at hy; right; omega))
      clear hrd hkW y0 y1 y2 hok herr
      gi_wp2
      refine ⟨by simp, .inl ⟨_, _, rfl, run_takeDeferred hDW, ?_⟩⟩
      refine ⟨.tuple #[.slice none 0 0, .agg #[.int .i64 0, .slice none 0 0]], ?_, HF.out⟩
      clear HF
      simp [results, Tryz.results90, go_sem, y0', y1', y2']

/-- Take: what it answers, and what it leaves, whatever comes. -/
theorem cSTake (b : Nat) (ao : Option Addr) (s : RS) (n : Int) (w : World) (h : RdA w b ao s) (ha : ∀ g off, ao = some ⟨g, off, none⟩ → g < w.heap.size) :
    Calls Tryz.prog 90 #[.pointer (some ⟨b, 0, none⟩), .int .i64 n] w (TakeIs w b ao (s.slide n)) := by
  unfold RS.slide
  by_cases hn : n < 1 ∨ 1024 < n
  · rw [if_pos hn]
    exact cSTake_len b ao s n w h ha (by unfold lenOk; exact decide_eq_false (by omega))
  · rw [if_neg hn]
    obtain ⟨k, rfl⟩ := Int.eq_ofNat_of_zero_le (show 0 ≤ n by omega)
    have hv : s.takeV 2 < 2 ^ 2 := takeV_ltn s 2 (by omega)
    have hl : lenOk (k : Int) = true := by unfold lenOk; exact decide_eq_true (by omega)
    have hv3 : s.takeV 2 ≤ 3 := by omega
    rw [Int.toNat_natCast]
    by_cases hp : k % 2 ^ s.takeV 2 ≠ 0
    · rw [if_pos hp]
      exact cSTake_pow b ao s k w h ha hl (by omega) (by unfold powOk; rw [Int.toNat_natCast]; exact decide_eq_false (fun hc => hp hc.2.2))
    · rw [if_neg hp]
      have hp0 : k % 2 ^ s.takeV 2 = 0 := by omega
      have hm1 : 1 ≤ 2 ^ s.takeV 2 := Nat.two_pow_pos _
      have hsp : k = k / 2 ^ s.takeV 2 * 2 ^ s.takeV 2 := by have := Nat.div_add_mod k (2 ^ s.takeV 2); rw [hp0, Nat.add_zero, Nat.mul_comm] at this; exact this.symm
      have hs : 1 ≤ k / 2 ^ s.takeV 2 := by
        rcases Nat.eq_zero_or_pos (k / 2 ^ s.takeV 2) with h0 | h0
        · rw [h0] at hsp; omega
        · exact h0
      exact cSTake_main b ao s k (s.takeV 2) (2 ^ s.takeV 2) (k / 2 ^ s.takeV 2) w h ha hl (by omega) (by unfold powOk; rw [Int.toNat_natCast]; exact decide_eq_true ⟨by omega, by omega, hp0⟩) rfl hv3 rfl hsp hs
end Go.Proofs.YtefbakhhlonafaaGreat
