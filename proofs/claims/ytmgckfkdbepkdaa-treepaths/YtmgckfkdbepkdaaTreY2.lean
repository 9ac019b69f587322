import Derived.Test.YtmgckfkdbepkdaaTreY
import Derived.Deep.RegionHeld3
namespace Go.Proofs.Ytmgckfkdbepkdaa
open Go.RowKit Go.Proofs Go.Proofs.PipeM Go.Proofs.PipeA Go.Proofs.TreM
set_option maxRecDepth 100000

/-- A take, by the slot that it fills. -/
theorem take_at {P : Program} {md : Region.Mode} {ops : Array Oper} {Q : Exit → Act → World → Prop} {S : World → Prop} {i : Nat} {oi : Oper} {v : Value} {d : Option Tmp} {fuel : Nat} {listed : Array Bool} {a : Act} {w : World} (hi : ops[i]? = some oi) (hd : oi.dst = d)
    (hs : Region.noSelect ops = true) (hf : Region.free md ops listed i = true) (hr : (Region.ready md ops listed).contains i = true)
    (hQ : ∀ c a w, Q (.panic c) (a.put d v) w → Q (.panic c) a w) (hy : YieldsIf P ops S oi v a) (hS : S w)
    (h : wpAnyH P md ops Q S fuel (listed.setIfInBounds i true) (a.put d v) w) : wpAnyH P md ops Q S (fuel + 1) listed a w := by
  subst hd
  exact wpAnyH_take hi hs hf hr hQ hy hS h
/-- What the law's closure finds. -/
structure PEnv (w0 : World) (B4 B7 B9 B10 B11 B12 : Nat) (wao : Option Addr) (wcap : Nat) (lao : Option Addr) (lcap : Nat) (ws : List (List UInt8)) (lv : List Int) (m size : Nat) : Prop where
  k4 : w0.cell? ⟨B4, 0, none⟩ = some (.int .i64 (size : Int))
  k7 : w0.cell? ⟨B7, 0, none⟩ = some (.slice lao lv.length lcap)
  k9 : w0.cell? ⟨B9, 0, none⟩ = some (.slice wao ws.length wcap)
  b4 : B4 < w0.heap.size
  b7 : B7 < w0.heap.size
  b9 : B9 < w0.heap.size
  strs : StrsAt w0 wao ws
  ints : IntsAt w0 lao lv
  n10 : w0.heap.size ≤ B10
  n11 : w0.heap.size ≤ B11
  n12 : w0.heap.size ≤ B12
  d1 : B10 ≠ B11
  d2 : B10 ≠ B12
  d3 : B11 ≠ B12
  len : ws.length = lv.length
  small : ws.length ≤ 16
  sz : size ≤ 1024
  hm : m ≤ 19
/-- Where it stands. -/
structure PSt (w0 : World) (B10 B11 B12 m c : Nat) (W : World) : Prop where
  ok : W.heap[B12]? = some (.cells #[.bool true] 4)
  n : W.heap[B10]? = some (.cells #[.int .i64 (c : Int)] 3)
  m : W.heap[B11]? = some (.cells #[.int .i64 (m : Int)] 3)
  below : Below w0.heap.size w0 W
theorem pbox_cell {W : World} {b : Nat} {v : Value} {t : TypeId} (h : W.heap[b]? = some (.cells #[v] t)) : W.cell? ⟨b, 0, none⟩ = some v := by rw [cell_of_heap h]; rfl
theorem pbox_set {W : World} {B : Nat} {x : Value} (v : Value) {t : TypeId} (h : W.heap[B]? = some (.cells #[x] t)) : (W.setCell ⟨B, 0, none⟩ v).heap[B]? = some (.cells #[v] t) := by
  simp only [World.setCell, Array.getElem?_modify, if_pos, h]
  rfl
theorem pset_other {W : World} {B B' off : Nat} {o : Obj} (v : Value) (h : W.heap[B']? = some o) (hne : B' ≠ B) : (W.setCell ⟨B, off, none⟩ v).heap[B']? = some o := (Below.heap_setCell _ _ _ _ hne).trans h
theorem PSt.next {w0 : World} {B4 B7 B9 B10 B11 B12 : Nat} {wao : Option Addr} {wcap : Nat} {lao : Option Addr} {lcap : Nat} {ws : List (List UInt8)} {lv : List Int} {m size c : Nat} {W : World} (E : PEnv w0 B4 B7 B9 B10 B11 B12 wao wcap lao lcap ws lv m size) (h : PSt w0 B10 B11 B12 m c W) :
    PSt w0 B10 B11 B12 m (c + 1) ((W.setCell ⟨B12, 0, none⟩ (.bool true)).setCell ⟨B10, 0, none⟩ (.int .i64 ((c : Int) + 1))) ∧ Keeps [B12, B10] W ((W.setCell ⟨B12, 0, none⟩ (.bool true)).setCell ⟨B10, 0, none⟩ (.int .i64 ((c : Int) + 1))) := by
  have h1 := keeps_setCell W B12 0 (.bool true)
  have h2 := keeps_setCell (W.setCell ⟨B12, 0, none⟩ (.bool true)) B10 0 (.int .i64 ((c : Int) + 1))
  refine ⟨⟨pset_other _ (pbox_set _ h.ok) (Ne.symm E.d2), pbox_set _ (pset_other _ h.n E.d2), pset_other _ (pset_other _ h.m E.d3) (Ne.symm E.d1), ?_⟩, ?_⟩
  · exact (h.below.setCell (p := ⟨B12, 0, none⟩) E.n12 _).setCell (p := ⟨B10, 0, none⟩) E.n10 _
  · exact ⟨h2.os.trans h1.os, h2.tape.trans h1.tape, h2.output.trans h1.output, Nat.le_trans h1.size h2.size, fun k hk hn => (h2.block k (Nat.lt_of_lt_of_le hk h1.size) (fun hc => hn (by simp at hc; simp [hc]))).trans (h1.block k hk (fun hc => hn (by simp at hc; simp [hc])))⟩

set_option maxHeartbeats 3200000 in
theorem pYield {w0 : World} {B4 B7 B9 B10 B11 B12 : Nat} {wao : Option Addr} {wcap : Nat} {lao : Option Addr} {lcap : Nat} {ws : List (List UInt8)} {lv : List Int} {m size : Nat} (E : PEnv w0 B4 B7 B9 B10 B11 B12 wao wcap lao lcap ws lv m size)
    (c n : Nat) (p : List UInt8) (W : World) (h : PSt w0 B10 B11 B12 m c W) (hp : ws[c]? = some p) (hl : lv[c]? = some (n : Int)) (hs : n * 2 ^ p.length = size) (hp4 : p.length ≤ 4) :
    Calls Try.prog 34 #[.string (bs p), .int .i64 (n : Int), .pointer (some ⟨B12, 0, none⟩), .pointer (some ⟨B10, 0, none⟩), .pointer (some ⟨B9, 0, none⟩), .pointer (some ⟨B7, 0, none⟩), .pointer (some ⟨B4, 0, none⟩), .pointer (some ⟨B11, 0, none⟩)] W
      fun e W' => e = .returned (.bool (decide (c + 1 < m))) ∧ PSt w0 B10 B11 B12 m (c + 1) W' ∧ Keeps [B12, B10] W W' := by
  have HN := Lib.hid (h.next E)
  have hb := h.below
  have e4 := (hb.cell (p := ⟨B4, 0, none⟩) E.b4).trans E.k4
  have e7 := (hb.cell (p := ⟨B7, 0, none⟩) E.b7).trans E.k7
  have e9 := (hb.cell (p := ⟨B9, 0, none⟩) E.b9).trans E.k9
  have e10 := pbox_cell h.n
  have e11 := pbox_cell h.m
  have e12 := pbox_cell h.ok
  have f10 := frozen_of_heap h.n 0
  have f12 := frozen_of_heap h.ok 0
  obtain ⟨hcl, hpe⟩ := List.getElem?_eq_some_iff.1 hp
  obtain ⟨hcv, hne⟩ := List.getElem?_eq_some_iff.1 hl
  obtain ⟨wb, woff, rfl, hwb, hwc⟩ := E.strs c hcl
  obtain ⟨lb, loff, rfl, hlb, hlc⟩ := E.ints c hcv
  rw [hpe] at hwc
  rw [hne] at hlc
  have ewc := (hb.cell (p := ⟨wb, woff + c, none⟩) hwb).trans hwc
  have elc := (hb.cell (p := ⟨lb, loff + c, none⟩) hlb).trans hlc
  have hlen := E.len
  have hsm := E.small
  have hsz := E.sz
  have hm19 := E.hm
  have d1 := E.d1
  have d2 := E.d2
  have d3 := E.d3
  have n10 := E.n10
  have n12 := E.n12
  have b4 := E.b4
  have b7 := E.b7
  have b9 := E.b9
  obtain ⟨P, hP⟩ : ∃ P, P = bs p := ⟨_, rfl⟩
  have hPs : P.size = p.length := by rw [hP, bs_size]
  have hPP : (P.toList == P.toList) = true := by simp
  obtain ⟨Q, hQ⟩ : ∃ Q : Nat, Q = 2 ^ p.length := ⟨_, rfl⟩
  have hQ2 : (2 : Int) ^ P.size = (Q : Int) := by rw [hQ, hPs]; simp
  rw [← hQ] at hs
  have hnq : IntKind.i64.wrap ((n : Int) * (Q : Int)) = (size : Int) := by
    have : (n : Int) * (Q : Int) = (size : Int) := by rw [← hs]; simp
    rw [this, IntWalk.i64_in _ (by omega)]
  have hQ16 : Q ≤ 16 := by rw [hQ]; exact Nat.pow_le_pow_right (n := 2) (by omega) hp4
  have hn1 : n ≤ 1024 := by
    have h1 : 1 ≤ Q := by rw [hQ]; exact Nat.one_le_two_pow
    have : n * 1 ≤ n * Q := Nat.mul_le_mul_left _ h1
    omega
  have hPs4 : P.size ≤ 4 := by omega
  rw [← hP] at ewc ⊢
  obtain ⟨nw, hnw⟩ : ∃ nw, nw = ws.length := ⟨_, rfl⟩
  obtain ⟨nl, hnl⟩ : ∃ nl, nl = lv.length := ⟨_, rfl⟩
  rw [← hnw] at e9 hcl hsm hlen
  rw [← hnl] at e7 hlen hcv
  have HD : Hid (decide (c + 1 < m) = decide (((c : Int) + 1) < (m : Int))) := by
    show _ = _
    by_cases h1 : c + 1 < m
    · rw [decide_eq_true h1, decide_eq_true (by omega)]
    · rw [decide_eq_false h1, decide_eq_false (by omega)]
  have HSS : Hid ((W.drew.setCell ⟨B12, 0, none⟩ (.bool true)).cell? ⟨B12, 0, none⟩ = some (.bool true) ∧ (W.drew.setCell ⟨B12, 0, none⟩ (.bool true)).cell? ⟨B10, 0, none⟩ = some (.int .i64 (c : Int)) ∧ (W.drew.setCell ⟨B12, 0, none⟩ (.bool true)).cell? ⟨B9, 0, none⟩ = some (.slice (some ⟨wb, woff, none⟩) nw wcap) ∧
    (W.drew.setCell ⟨B12, 0, none⟩ (.bool true)).cell? ⟨wb, woff + c, none⟩ = some (.string P) ∧ (W.drew.setCell ⟨B12, 0, none⟩ (.bool true)).cell? ⟨B7, 0, none⟩ = some (.slice (some ⟨lb, loff, none⟩) nl lcap) ∧ (W.drew.setCell ⟨B12, 0, none⟩ (.bool true)).cell? ⟨lb, loff + c, none⟩ = some (.int .i64 (n : Int)) ∧ (W.drew.setCell ⟨B12, 0, none⟩ (.bool true)).cell? ⟨B4, 0, none⟩ = some (.int .i64 (size : Int))) := by
    have hk := keeps_setCell W.drew B12 0 (.bool true)
    have far : ∀ x off v, W.cell? ⟨x, off, none⟩ = some v → x ≠ B12 → (W.drew.setCell ⟨B12, 0, none⟩ (.bool true)).cell? ⟨x, off, none⟩ = some v := fun x off v hv hx => by
      rw [World.cell?_setCell_other _ _ _ _ (by intro he; cases he; exact hx rfl)]
      exact hv
    exact ⟨World.cell?_setCell_same _ _ _ (show W.drew.cell? ⟨B12, 0, none⟩ = some (.bool true) from e12), far _ _ _ e10 d2, far _ _ _ e9 (by omega), far _ _ _ ewc (by omega), far _ _ _ e7 (by omega), far _ _ _ elc (by omega), far _ _ _ e4 (by omega)⟩
  have G11 : Hid ((W.setCell ⟨B12, 0, none⟩ (.bool true)).drew.cell? ⟨B11, 0, none⟩ = some (.int .i64 (m : Int))) := by
    show (W.setCell ⟨B12, 0, none⟩ (.bool true)).cell? ⟨B11, 0, none⟩ = _
    rw [World.cell?_setCell_other _ _ _ _ (by intro he; cases he; exact d3 rfl)]
    exact e11
  clear h E hb hp hl hpe hne hwc hlc hP hPs hQ hs hnw hnl hwb hlb hlen
  go_enter Try.func34, Try.ntmps34
  go_wp2_with fail
  refine wp_region_held_drew (S := fun w' => w'.cell? ⟨B12, 0, none⟩ = some (.bool true) ∧ w'.cell? ⟨B10, 0, none⟩ = some (.int .i64 (c : Int)) ∧ w'.cell? ⟨B9, 0, none⟩ = some (.slice (some ⟨wb, woff, none⟩) nw wcap) ∧
    w'.cell? ⟨wb, woff + c, none⟩ = some (.string P) ∧ w'.cell? ⟨B7, 0, none⟩ = some (.slice (some ⟨lb, loff, none⟩) nl lcap) ∧ w'.cell? ⟨lb, loff + c, none⟩ = some (.int .i64 (n : Int)) ∧ w'.cell? ⟨B4, 0, none⟩ = some (.int .i64 (size : Int))) (by kernel_rfl) ⟨e12, e10, e9, ewc, e7, elc, e4⟩ (fun hHeld => ?_)
  refine take_at (i := 0) (d := some 11) (v := ?_) rfl rfl (by kernel_rfl) (by kernel_rfl) (by kernel_rfl) (fun _ _ _ h => h) (Or.inl ⟨by rfl, ?_⟩) hHeld ?_
  rotate_left
  · intro w9 hSw; obtain ⟨s0, s1, s2, s3, s4, s5, s6⟩ := hSw; go_simp; try with_reducible rfl
  simp only [Act.put, List.setIfInBounds_toArray, List.set_cons_zero, List.set_cons_succ]
  refine take_at (i := 1) (d := some 12) (v := ?_) rfl rfl (by kernel_rfl) (by kernel_rfl) (by kernel_rfl) (fun _ _ _ h => h) (Or.inl ⟨by rfl, ?_⟩) hHeld ?_
  rotate_left
  · intro w9 hSw; obtain ⟨s0, s1, s2, s3, s4, s5, s6⟩ := hSw; go_simp; try with_reducible rfl
  simp only [Act.put, List.setIfInBounds_toArray, List.set_cons_zero, List.set_cons_succ]
  refine take_at (i := 2) (d := some 13) (v := ?_) rfl rfl (by kernel_rfl) (by kernel_rfl) (by kernel_rfl) (fun _ _ _ h => h) (Or.inl ⟨by rfl, ?_⟩) hHeld ?_
  rotate_left
  · intro w9 hSw; obtain ⟨s0, s1, s2, s3, s4, s5, s6⟩ := hSw; go_simp; try with_reducible rfl
  simp only [Act.put, List.setIfInBounds_toArray, List.set_cons_zero, List.set_cons_succ]
  refine take_at (i := 3) (d := some 14) (v := ?_) rfl rfl (by kernel_rfl) (by kernel_rfl) (by kernel_rfl) (fun _ _ _ h => h) (Or.inl ⟨by rfl, ?_⟩) hHeld ?_
  rotate_left
  · intro w9 hSw; obtain ⟨s0, s1, s2, s3, s4, s5, s6⟩ := hSw; go_simp; try with_reducible rfl
  simp only [Act.put, List.setIfInBounds_toArray, List.set_cons_zero, List.set_cons_succ]
  refine take_at (i := 4) (d := some 15) (v := ?_) rfl rfl (by kernel_rfl) (by kernel_rfl) (by kernel_rfl) (fun _ _ _ h => h) (Or.inl ⟨by rfl, ?_⟩) hHeld ?_
  rotate_left
  · intro w9 hSw; obtain ⟨s0, s1, s2, s3, s4, s5, s6⟩ := hSw; go_simp; try with_reducible rfl
  simp only [Act.put, List.setIfInBounds_toArray, List.set_cons_zero, List.set_cons_succ]
  refine take_at (i := 5) (d := some 16) (v := ?_) rfl rfl (by kernel_rfl) (by kernel_rfl) (by kernel_rfl) (fun _ _ _ h => h) (Or.inl ⟨by rfl, ?_⟩) hHeld ?_
  rotate_left
  · intro w9 hSw; obtain ⟨s0, s1, s2, s3, s4, s5, s6⟩ := hSw; go_simp; try with_reducible rfl
  simp only [Act.put, List.setIfInBounds_toArray, List.set_cons_zero, List.set_cons_succ]
  refine take_at (i := 6) (d := some 17) (v := ?_) rfl rfl (by kernel_rfl) (by kernel_rfl) (by kernel_rfl) (fun _ _ _ h => h) (Or.inl ⟨by rfl, ?_⟩) hHeld ?_
  rotate_left
  · intro w9 hSw; obtain ⟨s0, s1, s2, s3, s4, s5, s6⟩ := hSw; go_simp; try with_reducible rfl
  simp only [Act.put, List.setIfInBounds_toArray, List.set_cons_zero, List.set_cons_succ]
  refine take_at (i := 7) (d := some 18) (v := ?_) rfl rfl (by kernel_rfl) (by kernel_rfl) (by kernel_rfl) (fun _ _ _ h => h) (Or.inl ⟨by rfl, ?_⟩) hHeld ?_
  rotate_left
  · intro w9 hSw; obtain ⟨s0, s1, s2, s3, s4, s5, s6⟩ := hSw; go_simp; try with_reducible rfl
  simp only [Act.put, List.setIfInBounds_toArray, List.set_cons_zero, List.set_cons_succ]
  refine take_at (i := 8) (d := some 19) (v := ?_) rfl rfl (by kernel_rfl) (by kernel_rfl) (by kernel_rfl) (fun _ _ _ h => h) (Or.inl ⟨by rfl, ?_⟩) hHeld ?_
  rotate_left
  · intro w9 hSw; obtain ⟨s0, s1, s2, s3, s4, s5, s6⟩ := hSw; go_simp; try with_reducible rfl
  simp only [Act.put, List.setIfInBounds_toArray, List.set_cons_zero, List.set_cons_succ]
  refine take_at (i := 9) (d := some 20) (v := ?_) rfl rfl (by kernel_rfl) (by kernel_rfl) (by kernel_rfl) (fun _ _ _ h => h) (Or.inl ⟨by rfl, ?_⟩) hHeld ?_
  rotate_left
  · intro w9 hSw; obtain ⟨s0, s1, s2, s3, s4, s5, s6⟩ := hSw; go_simp; try with_reducible rfl
  simp only [Act.put, List.setIfInBounds_toArray, List.set_cons_zero, List.set_cons_succ]
  refine take_at (i := 10) (d := some 21) (v := ?_) rfl rfl (by kernel_rfl) (by kernel_rfl) (by kernel_rfl) (fun _ _ _ h => h) (Or.inl ⟨by rfl, ?_⟩) hHeld ?_
  rotate_left
  · intro w9 hSw; obtain ⟨s0, s1, s2, s3, s4, s5, s6⟩ := hSw; go_simp; try with_reducible rfl
  simp only [Act.put, List.setIfInBounds_toArray, List.set_cons_zero, List.set_cons_succ]
  refine take_at (i := 11) (d := some 22) (v := ?_) rfl rfl (by kernel_rfl) (by kernel_rfl) (by kernel_rfl) (fun _ _ _ h => h) (Or.inl ⟨by rfl, ?_⟩) hHeld ?_
  rotate_left
  · intro w9 hSw; obtain ⟨s0, s1, s2, s3, s4, s5, s6⟩ := hSw; go_simp; try with_reducible rfl
  simp only [Act.put, List.setIfInBounds_toArray, List.set_cons_zero, List.set_cons_succ]
  refine take_at (i := 12) (d := some 23) (v := ?_) rfl rfl (by kernel_rfl) (by kernel_rfl) (by kernel_rfl) (fun _ _ _ h => h) (Or.inl ⟨by rfl, ?_⟩) hHeld ?_
  rotate_left
  · intro w9 hSw; obtain ⟨s0, s1, s2, s3, s4, s5, s6⟩ := hSw; go_simp; try with_reducible rfl
  simp only [Act.put, List.setIfInBounds_toArray, List.set_cons_zero, List.set_cons_succ]
  refine take_at (i := 13) (d := some 24) (v := ?_) rfl rfl (by kernel_rfl) (by kernel_rfl) (by kernel_rfl) (fun _ _ _ h => h) (Or.inl ⟨by rfl, ?_⟩) hHeld ?_
  rotate_left
  · intro w9 hSw; obtain ⟨s0, s1, s2, s3, s4, s5, s6⟩ := hSw; go_simp; try with_reducible rfl
  simp only [Act.put, List.setIfInBounds_toArray, List.set_cons_zero, List.set_cons_succ]
  refine take_at (i := 14) (d := some 25) (v := ?_) rfl rfl (by kernel_rfl) (by kernel_rfl) (by kernel_rfl) (fun _ _ _ h => h) (Or.inl ⟨by rfl, ?_⟩) hHeld ?_
  rotate_left
  · intro w9 hSw; obtain ⟨s0, s1, s2, s3, s4, s5, s6⟩ := hSw; go_simp; try with_reducible rfl
  simp only [Act.put, List.setIfInBounds_toArray, List.set_cons_zero, List.set_cons_succ]
  refine take_at (i := 15) (d := some 26) (v := ?_) rfl rfl (by kernel_rfl) (by kernel_rfl) (by kernel_rfl) (fun _ _ _ h => h) (Or.inl ⟨by rfl, ?_⟩) hHeld ?_
  rotate_left
  · intro w9 hSw; obtain ⟨s0, s1, s2, s3, s4, s5, s6⟩ := hSw; go_simp; try with_reducible rfl
  simp only [Act.put, List.setIfInBounds_toArray, List.set_cons_zero, List.set_cons_succ]
  refine take_at (i := 16) (d := some 27) (v := ?_) rfl rfl (by kernel_rfl) (by kernel_rfl) (by kernel_rfl) (fun _ _ _ h => h) (Or.inl ⟨by rfl, ?_⟩) hHeld ?_
  rotate_left
  · intro w9 hSw; obtain ⟨s0, s1, s2, s3, s4, s5, s6⟩ := hSw; go_simp; try with_reducible rfl
  simp only [Act.put, List.setIfInBounds_toArray, List.set_cons_zero, List.set_cons_succ]
  refine take_at (i := 17) (d := some 28) (v := ?_) rfl rfl (by kernel_rfl) (by kernel_rfl) (by kernel_rfl) (fun _ _ _ h => h) (Or.inl ⟨by rfl, ?_⟩) hHeld ?_
  rotate_left
  · intro w9 hSw; obtain ⟨s0, s1, s2, s3, s4, s5, s6⟩ := hSw; go_simp; try with_reducible rfl
  simp only [Act.put, List.setIfInBounds_toArray, List.set_cons_zero, List.set_cons_succ]
  refine take_at (i := 18) (d := some 29) (v := ?_) rfl rfl (by kernel_rfl) (by kernel_rfl) (by kernel_rfl) (fun _ _ _ h => h) (Or.inl ⟨by rfl, ?_⟩) hHeld ?_
  rotate_left
  · intro w9 hSw; obtain ⟨s0, s1, s2, s3, s4, s5, s6⟩ := hSw; go_simp; try with_reducible rfl
  simp only [Act.put, List.setIfInBounds_toArray, List.set_cons_zero, List.set_cons_succ]
  refine take_at (i := 19) (d := some 30) (v := ?_) rfl rfl (by kernel_rfl) (by kernel_rfl) (by kernel_rfl) (fun _ _ _ h => h) (Or.inl ⟨by rfl, ?_⟩) hHeld ?_
  rotate_left
  · intro w9 hSw; obtain ⟨s0, s1, s2, s3, s4, s5, s6⟩ := hSw; go_simp; try with_reducible rfl
  simp only [Act.put, List.setIfInBounds_toArray, List.set_cons_zero, List.set_cons_succ]
  refine take_at (i := 20) (d := some 31) (v := ?_) rfl rfl (by kernel_rfl) (by kernel_rfl) (by kernel_rfl) (fun _ _ _ h => h) (Or.inl ⟨by rfl, ?_⟩) hHeld ?_
  rotate_left
  · intro w9 hSw; obtain ⟨s0, s1, s2, s3, s4, s5, s6⟩ := hSw; go_simp; try with_reducible rfl
  simp only [Act.put, List.setIfInBounds_toArray, List.set_cons_zero, List.set_cons_succ]
  refine take_at (i := 21) (d := some 32) (v := ?_) rfl rfl (by kernel_rfl) (by kernel_rfl) (by kernel_rfl) (fun _ _ _ h => h) (Or.inl ⟨by rfl, ?_⟩) hHeld ?_
  rotate_left
  · intro w9 hSw; obtain ⟨s0, s1, s2, s3, s4, s5, s6⟩ := hSw; go_simp; try with_reducible rfl
  simp only [Act.put, List.setIfInBounds_toArray, List.set_cons_zero, List.set_cons_succ]
  refine take_at (i := 22) (d := some 33) (v := ?_) rfl rfl (by kernel_rfl) (by kernel_rfl) (by kernel_rfl) (fun _ _ _ h => h) (Or.inl ⟨by rfl, ?_⟩) hHeld ?_
  rotate_left
  · intro w9 hSw; obtain ⟨s0, s1, s2, s3, s4, s5, s6⟩ := hSw; go_simp; try with_reducible rfl
  simp only [Act.put, List.setIfInBounds_toArray, List.set_cons_zero, List.set_cons_succ]
  refine take_at (i := 23) (d := some 34) (v := ?_) rfl rfl (by kernel_rfl) (by kernel_rfl) (by kernel_rfl) (fun _ _ _ h => h) (Or.inl ⟨by rfl, ?_⟩) hHeld ?_
  rotate_left
  · intro w9 hSw; obtain ⟨s0, s1, s2, s3, s4, s5, s6⟩ := hSw; go_simp; try with_reducible rfl
  simp only [Act.put, List.setIfInBounds_toArray, List.set_cons_zero, List.set_cons_succ]
  refine take_at (i := 24) (d := some 35) (v := ?_) rfl rfl (by kernel_rfl) (by kernel_rfl) (by kernel_rfl) (fun _ _ _ h => h) (Or.inl ⟨by rfl, ?_⟩) hHeld ?_
  rotate_left
  · intro w9 hSw; obtain ⟨s0, s1, s2, s3, s4, s5, s6⟩ := hSw; go_simp; try with_reducible rfl
  simp only [Act.put, List.setIfInBounds_toArray, List.set_cons_zero, List.set_cons_succ]
  refine take_at (i := 25) (d := some 36) (v := ?_) rfl rfl (by kernel_rfl) (by kernel_rfl) (by kernel_rfl) (fun _ _ _ h => h) (Or.inl ⟨by rfl, ?_⟩) hHeld ?_
  rotate_left
  · intro w9 hSw; obtain ⟨s0, s1, s2, s3, s4, s5, s6⟩ := hSw; go_simp; try with_reducible rfl
  simp only [Act.put, List.setIfInBounds_toArray, List.set_cons_zero, List.set_cons_succ]
  refine take_at (i := 26) (d := some 37) (v := ?_) rfl rfl (by kernel_rfl) (by kernel_rfl) (by kernel_rfl) (fun _ _ _ h => h) (Or.inl ⟨by rfl, ?_⟩) hHeld ?_
  rotate_left
  · intro w9 hSw; obtain ⟨s0, s1, s2, s3, s4, s5, s6⟩ := hSw; go_simp; try with_reducible rfl
  simp only [Act.put, List.setIfInBounds_toArray, List.set_cons_zero, List.set_cons_succ]
  refine take_at (i := 27) (d := some 38) (v := ?_) rfl rfl (by kernel_rfl) (by kernel_rfl) (by kernel_rfl) (fun _ _ _ h => h) (Or.inl ⟨by rfl, ?_⟩) hHeld ?_
  rotate_left
  · intro w9 hSw; obtain ⟨s0, s1, s2, s3, s4, s5, s6⟩ := hSw; go_simp; try with_reducible rfl
  simp only [Act.put, List.setIfInBounds_toArray, List.set_cons_zero, List.set_cons_succ]
  refine take_at (i := 28) (d := some 39) (v := ?_) rfl rfl (by kernel_rfl) (by kernel_rfl) (by kernel_rfl) (fun _ _ _ h => h) (Or.inl ⟨by rfl, ?_⟩) hHeld ?_
  rotate_left
  · intro w9 hSw; obtain ⟨s0, s1, s2, s3, s4, s5, s6⟩ := hSw; go_simp; try with_reducible rfl
  simp only [Act.put, List.setIfInBounds_toArray, List.set_cons_zero, List.set_cons_succ]
  refine take_at (i := 29) (d := some 40) (v := ?_) rfl rfl (by kernel_rfl) (by kernel_rfl) (by kernel_rfl) (fun _ _ _ h => h) (Or.inl ⟨by rfl, ?_⟩) hHeld ?_
  rotate_left
  · intro w9 hSw; obtain ⟨s0, s1, s2, s3, s4, s5, s6⟩ := hSw; go_simp; try with_reducible rfl
  simp only [Act.put, List.setIfInBounds_toArray, List.set_cons_zero, List.set_cons_succ]
  refine take_at (i := 30) (d := some 41) (v := ?_) rfl rfl (by kernel_rfl) (by kernel_rfl) (by kernel_rfl) (fun _ _ _ h => h) (Or.inl ⟨by rfl, ?_⟩) hHeld ?_
  rotate_left
  · intro w9 hSw; obtain ⟨s0, s1, s2, s3, s4, s5, s6⟩ := hSw; go_simp; try with_reducible rfl
  simp only [Act.put, List.setIfInBounds_toArray, List.set_cons_zero, List.set_cons_succ]
  refine wpAnyH_ready (rs := [31]) (by kernel_rfl) (by simp) ?_
  refine AllReadyH.cons rfl (fun K hK => ?_) ?_
  · go_simp
    refine hK.out _ _ ?_ (fun hHeld => ?_)
    · exact HSS.out
    clear hK K
    refine wpAnyH_done (by kernel_rfl) ?_ _
    have g10 : (W.setCell ⟨B12, 0, none⟩ (.bool true)).drew.cell? ⟨B10, 0, none⟩ = some (.int .i64 (c : Int)) := hHeld.2.1
    have g12 : (W.setCell ⟨B12, 0, none⟩ (.bool true)).drew.cell? ⟨B12, 0, none⟩ = some (.bool true) := hHeld.1
    have g11 : (W.setCell ⟨B12, 0, none⟩ (.bool true)).drew.cell? ⟨B11, 0, none⟩ = some (.int .i64 (m : Int)) := G11.out
    have gf : (W.setCell ⟨B12, 0, none⟩ (.bool true)).drew.frozen? ⟨B10, 0, none⟩ = false := by simpa using f10
    have HNX : Hid (PSt w0 B10 B11 B12 m (c + 1) ((W.setCell ⟨B12, 0, none⟩ (.bool true)).drew.setCell ⟨B10, 0, none⟩ (.int .i64 ((c : Int) + 1))) ∧ Keeps [B12, B10] W ((W.setCell ⟨B12, 0, none⟩ (.bool true)).drew.setCell ⟨B10, 0, none⟩ (.int .i64 ((c : Int) + 1)))) :=
      ⟨⟨HN.out.1.ok, HN.out.1.n, HN.out.1.m, below_drewN HN.out.1.below 1⟩, HN.out.2.trans (keeps_drew_b _ _)⟩
    generalize (W.setCell ⟨B12, 0, none⟩ (.bool true)).drew = W2 at *
    clear hHeld HN HSS e12 e10 e9 ewc e7 elc e4 e11 f10 f12
    go_wp2
    go_ret
    exact ⟨by rw [HD.out]; rfl, HNX.out⟩
  exact AllReadyH.nil
end Go.Proofs.Ytmgckfkdbepkdaa
