import Derived.Test.YtbbcemgcanclnaaWefF2
import Derived.Test.YtbbcemgcanclnaaBlkH1
namespace Go.Proofs.Ytbbcemgcanclnaa
open Go.RowKit Go.Proofs Go.Proofs.PipeM Go.Proofs.PipeA Go.Proofs.WefM
set_option maxRecDepth 100000

theorem MR.take_lenW (m : MR) (n : Int) : (m.take n).1.bits.length ≤ m.bits.length := by
  unfold MR.take
  split
  · unfold MR.give; split <;> simp
  · split
    · unfold MR.give; split <;> simp
    · split
      · simp
      · simp

/-- What a box holds. -/
structure BoxN (W : World) (B : Nat) (cs : Array Value) : Prop where
  lt : B < W.heap.size
  c : ∀ j v, cs[j]? = some v → W.cell? ⟨B, j, none⟩ = some v
  f : ∀ j, j < cs.size → W.frozen? ⟨B, j, none⟩ = false
theorem BoxN.keeps {W W' : World} {B : Nat} {cs : Array Value} {bs : List Nat} (h : BoxN W B cs) (hk : Keeps bs W W') (hb : B ∉ bs) : BoxN W' B cs :=
  ⟨Nat.lt_of_lt_of_le h.lt hk.size, fun j v hj => (hk.cell (p := ⟨B, j, none⟩) h.lt hb).trans (h.c j v hj), fun j hj => (hk.frozen (p := ⟨B, j, none⟩) h.lt hb).trans (h.f j hj)⟩
theorem BoxN.below {W W' : World} {B : Nat} {cs : Array Value} (h : BoxN W B cs) (hb : Below W.heap.size W W') : BoxN W' B cs := h.keeps (keeps_of_below hb []) (by simp)
theorem BoxN.set {W : World} {B : Nat} {cs cs' : Array Value} (h : BoxN W B cs) (j : Nat) (v : Value) (hj : j < cs.size) (hc : cs' = cs.setIfInBounds j v) : BoxN (W.setCell ⟨B, j, none⟩ v) B cs' := by
  subst hc
  refine ⟨by simpa using h.lt, fun i u hi => ?_, fun i hi => by rw [World.frozen?_setCell]; exact h.f i (by simpa using hi)⟩
  by_cases e : i = j
  · subst e
    have h0 : cs[i]? = some cs[i] := Array.getElem?_eq_getElem _
    have h1 : u = v := by
      rw [Array.getElem?_setIfInBounds_self_of_lt hj] at hi
      cases hi; rfl
    subst h1
    exact World.cell?_setCell_same _ _ _ (h.c i _ h0)
  · rw [Array.getElem?_setIfInBounds_ne (fun h => e h.symm)] at hi
    rw [World.cell?_setCell_other _ _ _ _ (by simp)]
    exact h.c i u hi
theorem boxN_new (w : World) (cs : Array Value) (t : TypeId) : BoxN (w.alloc (.cells cs t)) w.heap.size cs := by
  have h := heap_alloc_new w (.cells cs t)
  exact ⟨(Array.getElem?_eq_some_iff.1 h).1, fun j v hj => by rw [cell_of_heap h]; exact hj, fun j _ => frozen_of_heap h _⟩
theorem BoxN.set3 {W : World} {B : Nat} {u0 u1 u2 : Value} (h : BoxN W B #[u0, u1, u2]) (a b c : Value) :
    BoxN (((W.setCell ⟨B, 0, none⟩ (a)).setCell ⟨B, 1, none⟩ (b)).setCell ⟨B, 2, none⟩ (c)) B #[a, b, c] ∧ Keeps [B] W (((W.setCell ⟨B, 0, none⟩ (a)).setCell ⟨B, 1, none⟩ (b)).setCell ⟨B, 2, none⟩ (c)) :=
  ⟨((h.set (cs' := #[a, u1, u2]) 0 a (by simp) rfl).set (cs' := #[a, b, u2]) 1 b (by simp) rfl).set (cs' := #[a, b, c]) 2 c (by simp) rfl, ((keeps_setCell W B 0 _).trans (keeps_setCell _ B 1 _)).trans (keeps_setCell _ B 2 _)⟩
theorem BoxN.set5 {W : World} {B : Nat} {u0 u1 u2 u3 u4 : Value} (h : BoxN W B #[u0, u1, u2, u3, u4]) (a b c d e : Value) :
    BoxN (((((W.setCell ⟨B, 0, none⟩ (a)).setCell ⟨B, 1, none⟩ (b)).setCell ⟨B, 2, none⟩ (c)).setCell ⟨B, 3, none⟩ (d)).setCell ⟨B, 4, none⟩ (e)) B #[a, b, c, d, e] ∧ Keeps [B] W (((((W.setCell ⟨B, 0, none⟩ (a)).setCell ⟨B, 1, none⟩ (b)).setCell ⟨B, 2, none⟩ (c)).setCell ⟨B, 3, none⟩ (d)).setCell ⟨B, 4, none⟩ (e)) :=
  ⟨((((h.set (cs' := #[a, u1, u2, u3, u4]) 0 a (by simp) rfl).set (cs' := #[a, b, u2, u3, u4]) 1 b (by simp) rfl).set (cs' := #[a, b, c, u3, u4]) 2 c (by simp) rfl).set (cs' := #[a, b, c, d, u4]) 3 d (by simp) rfl).set (cs' := #[a, b, c, d, e]) 4 e (by simp) rfl, ((((keeps_setCell W B 0 _).trans (keeps_setCell _ B 1 _)).trans (keeps_setCell _ B 2 _)).trans (keeps_setCell _ B 3 _)).trans (keeps_setCell _ B 4 _)⟩

/-- The reader behind so many gains, and the gains that came. -/
def MR.gains (m : MR) : Nat → MR
  | 0 => m
  | n + 1 => ((m.gains n).take 5).1
def gotG (m : MR) (c j : Nat) : Int := if j < c then (m.gains j).intV 5 else 0
/-- What is answered behind the gains. -/
def weaveEnd (m5 : MR) (x : Wv) (ch : Int) : MR × Wv :=
  if m5.fail = 0 then (if goodW x ch = false then (m5.give 2, ⟨false, 0, 0, 0, 0⟩) else (m5, x)) else (m5, ⟨false, 0, 0, 0, 0⟩)
/-- The weave that comes. -/
def MR.weave (m : MR) (ch : Int) : MR × Wv :=
  if (m.take 1).2 = 0 then ((m.take 1).1, ⟨false, 0, 0, 0, 0⟩)
  else weaveEnd (((m.take 1).1.take 3).1.gains 3) ⟨true, ((m.take 1).1.take 3).2, (((m.take 1).1.take 3).1.gains 0).intV 5, (((m.take 1).1.take 3).1.gains 1).intV 5, (((m.take 1).1.take 3).1.gains 2).intV 5⟩ ch
theorem MR.gains_len (m : MR) (n : Nat) : (m.gains n).bits.length ≤ m.bits.length := by
  induction n with
  | zero => exact Nat.le_refl _
  | succ n ih => exact Nat.le_trans (MR.take_lenW _ _) ih
def wvCs (M : Int) (m : MR) (c : Nat) : Array Value := #[.bool true, .int .i64 M, .int .i64 (gotG m c 0), .int .i64 (gotG m c 1), .int .i64 (gotG m c 2)]
theorem wvCs_zero (M : Int) (m : MR) : wvCs M m 0 = #[.bool true, .int .i64 M, .int .i64 0, .int .i64 0, .int .i64 0] := by simp [wvCs, gotG]
theorem wvCs_three (M : Int) (m : MR) : wvCs M m 3 = #[.bool true, .int .i64 M, .int .i64 ((m.gains 0).intV 5), .int .i64 ((m.gains 1).intV 5), .int .i64 ((m.gains 2).intV 5)] := by simp [wvCs, gotG]
theorem wvCs_step (M : Int) (m : MR) {c : Nat} (h : c < 3) : wvCs M m (c + 1) = (wvCs M m c).setIfInBounds (2 + c) (.int .i64 ((m.gains c).intV 5)) := by
  match c, h with
  | 0, _ => rfl
  | 1, _ => rfl
  | 2, _ => rfl
theorem wvCs_old (M : Int) (m : MR) {c : Nat} (h : c < 3) : ∃ v, (wvCs M m c)[2 + c]? = some v := by
  match c, h with
  | 0, _ => exact ⟨_, rfl⟩
  | 1, _ => exact ⟨_, rfl⟩
  | 2, _ => exact ⟨_, rfl⟩

/-- How the boxes lie while the document's Take runs. -/
structure WTake (w : World) (m : MR) (XB : Nat) (xs : Array Value) (W : World) : Prop where
  r : BoxN W w.heap.size #[.string (str m.bits), .int .i64 m.all, .int .i64 m.fail]
  o1 : BoxN W (w.heap.size + 1) #[.string ⟨#[]⟩, .int .i64 0, .int .i64 0]
  o2 : BoxN W (w.heap.size + 1 + 1) #[.bool false, .int .i64 0, .int .i64 0, .int .i64 0, .int .i64 0]
  x : BoxN W XB xs
  bel : Below w.heap.size w W
  xb : w.heap.size + 1 + 1 < XB
theorem WTake.call {w W W1 : World} {m : MR} {XB : Nat} {xs : Array Value} (h : WTake w m XB xs W) (hb : Below W.heap.size W W1) : WTake w m XB xs W1 :=
  ⟨h.r.below hb, h.o1.below hb, h.o2.below hb, h.x.below hb, h.bel.trans (hb.mono h.bel.size), h.xb⟩
theorem WTake.read {w W : World} {m : MR} {XB : Nat} {xs : Array Value} (h : WTake w m XB xs W) (m' : MR) :
    WTake w m' XB xs (((W.setCell ⟨w.heap.size, 0, none⟩ (.string (str m'.bits))).setCell ⟨w.heap.size, 1, none⟩ (.int .i64 m'.all)).setCell ⟨w.heap.size, 2, none⟩ (.int .i64 m'.fail)) := by
  obtain ⟨h1, hk⟩ := h.r.set3 (.string (str m'.bits)) (.int .i64 m'.all) (.int .i64 m'.fail)
  have hx := h.xb
  exact ⟨h1, h.o1.keeps hk (by simp; try omega), h.o2.keeps hk (by simp; try omega), h.x.keeps hk (by simp; omega), h.bel.trans (hk.below h.bel.size (by simp)), hx⟩
theorem WTake.put {w W : World} {m : MR} {XB : Nat} {xs xs' : Array Value} (h : WTake w m XB xs W) (j : Nat) (v : Value) (hj : j < xs.size) (hc : xs' = xs.setIfInBounds j v) : WTake w m XB xs' (W.setCell ⟨XB, j, none⟩ v) := by
  have hk := keeps_setCell W XB j v
  have hx := h.xb
  exact ⟨h.r.keeps hk (by simp; omega), h.o1.keeps hk (by simp; omega), h.o2.keeps hk (by simp; omega), h.x.set j v hj hc, h.bel.trans (hk.below h.bel.size (by simp; omega)), hx⟩
/-- The end: the results are laid. -/
theorem WTake.done {w W : World} {m : MR} {XB : Nat} {xs : Array Value} (h : WTake w m XB xs W) (a0 a1 a2 b0 b1 b2 b3 b4 : Value) :
    BoxN ((((((((W.setCell ⟨w.heap.size + 1, 0, none⟩ (a0)).setCell ⟨w.heap.size + 1, 1, none⟩ (a1)).setCell ⟨w.heap.size + 1, 2, none⟩ (a2)).setCell ⟨w.heap.size + 1 + 1, 0, none⟩ (b0)).setCell ⟨w.heap.size + 1 + 1, 1, none⟩ (b1)).setCell ⟨w.heap.size + 1 + 1, 2, none⟩ (b2)).setCell ⟨w.heap.size + 1 + 1, 3, none⟩ (b3)).setCell ⟨w.heap.size + 1 + 1, 4, none⟩ (b4)) (w.heap.size + 1) #[a0, a1, a2] ∧ BoxN ((((((((W.setCell ⟨w.heap.size + 1, 0, none⟩ (a0)).setCell ⟨w.heap.size + 1, 1, none⟩ (a1)).setCell ⟨w.heap.size + 1, 2, none⟩ (a2)).setCell ⟨w.heap.size + 1 + 1, 0, none⟩ (b0)).setCell ⟨w.heap.size + 1 + 1, 1, none⟩ (b1)).setCell ⟨w.heap.size + 1 + 1, 2, none⟩ (b2)).setCell ⟨w.heap.size + 1 + 1, 3, none⟩ (b3)).setCell ⟨w.heap.size + 1 + 1, 4, none⟩ (b4)) (w.heap.size + 1 + 1) #[b0, b1, b2, b3, b4] ∧ Below w.heap.size w ((((((((W.setCell ⟨w.heap.size + 1, 0, none⟩ (a0)).setCell ⟨w.heap.size + 1, 1, none⟩ (a1)).setCell ⟨w.heap.size + 1, 2, none⟩ (a2)).setCell ⟨w.heap.size + 1 + 1, 0, none⟩ (b0)).setCell ⟨w.heap.size + 1 + 1, 1, none⟩ (b1)).setCell ⟨w.heap.size + 1 + 1, 2, none⟩ (b2)).setCell ⟨w.heap.size + 1 + 1, 3, none⟩ (b3)).setCell ⟨w.heap.size + 1 + 1, 4, none⟩ (b4)) := by
  obtain ⟨h1, k1⟩ := h.o1.set3 a0 a1 a2
  have h2 := h.o2.keeps k1 (by simp; try omega)
  obtain ⟨h3, k3⟩ := h2.set5 b0 b1 b2 b3 b4
  have hb1 := h.bel.trans (k1.below h.bel.size (by simp; try omega))
  exact ⟨h1.keeps k3 (by simp; try omega), h3, hb1.trans (k3.below hb1.size (by simp; try omega))⟩
/-- The start: the reader's box, the results', and behind the first call the weave's. -/
theorem wtake_start (w : World) (m m' : MR) {W0 w1 W2 : World} (hW0 : W0 = ((w.alloc (.cells #[.string (str m.bits), .int .i64 m.all, .int .i64 m.fail] 44)).alloc (.cells #[.string ⟨#[]⟩, .int .i64 0, .int .i64 0] 44)).alloc (.cells #[.bool false, .int .i64 0, .int .i64 0, .int .i64 0, .int .i64 0] 24)) (hb : Below W0.heap.size W0 w1) (hW2 : W2 = (((w1.setCell ⟨w.heap.size, 0, none⟩ (.string (str m'.bits))).setCell ⟨w.heap.size, 1, none⟩ (.int .i64 m'.all)).setCell ⟨w.heap.size, 2, none⟩ (.int .i64 m'.fail)).alloc (.cells #[.bool false, .int .i64 0, .int .i64 0, .int .i64 0, .int .i64 0] 24)) :
    WTake w m' w1.heap.size #[.bool false, .int .i64 0, .int .i64 0, .int .i64 0, .int .i64 0] W2 ∧ BoxN w1 w.heap.size #[.string (str m.bits), .int .i64 m.all, .int .i64 m.fail] := by
  have hA := boxN_new w #[.string (str m.bits), .int .i64 m.all, .int .i64 m.fail] 44
  have bA := box_below w (.cells #[.string (str m.bits), .int .i64 m.all, .int .i64 m.fail] 44)
  have zA : (w.alloc (.cells #[.string (str m.bits), .int .i64 m.all, .int .i64 m.fail] 44)).heap.size = w.heap.size + 1 := by simp
  generalize w.alloc (.cells #[.string (str m.bits), .int .i64 m.all, .int .i64 m.fail] 44) = A at *
  have hB := boxN_new A #[.string ⟨#[]⟩, .int .i64 0, .int .i64 0] 44
  have bB := box_below A (.cells #[.string ⟨#[]⟩, .int .i64 0, .int .i64 0] 44)
  have zB : (A.alloc (.cells #[.string ⟨#[]⟩, .int .i64 0, .int .i64 0] 44)).heap.size = w.heap.size + 1 + 1 := by simp; omega
  generalize A.alloc (.cells #[.string ⟨#[]⟩, .int .i64 0, .int .i64 0] 44) = B at *
  have hC := boxN_new B #[.bool false, .int .i64 0, .int .i64 0, .int .i64 0, .int .i64 0] 24
  have bC := box_below B (.cells #[.bool false, .int .i64 0, .int .i64 0, .int .i64 0, .int .i64 0] 24)
  rw [← hW0] at hC bC
  rw [zA] at hB
  rw [zB] at hC
  have r1 := ((hA.below bB).below bC).below hb
  have o1 := (hB.below bC).below hb
  have o2 := hC.below hb
  have be : Below w.heap.size w w1 := bA.trans ((bB.trans ((bC.trans (hb.mono bC.size)).mono bB.size)).mono bA.size)
  obtain ⟨r2, k2⟩ := r1.set3 (.string (str m'.bits)) (.int .i64 m'.all) (.int .i64 m'.fail)
  have z2 : (((w1.setCell ⟨w.heap.size, 0, none⟩ (.string (str m'.bits))).setCell ⟨w.heap.size, 1, none⟩ (.int .i64 m'.all)).setCell ⟨w.heap.size, 2, none⟩ (.int .i64 m'.fail)).heap.size = w1.heap.size := by simp
  generalize (((w1.setCell ⟨w.heap.size, 0, none⟩ (.string (str m'.bits))).setCell ⟨w.heap.size, 1, none⟩ (.int .i64 m'.all)).setCell ⟨w.heap.size, 2, none⟩ (.int .i64 m'.fail)) = Q at *
  have hX := boxN_new Q #[.bool false, .int .i64 0, .int .i64 0, .int .i64 0, .int .i64 0] 24
  have bX := box_below Q (.cells #[.bool false, .int .i64 0, .int .i64 0, .int .i64 0, .int .i64 0] 24)
  rw [← hW2] at hX bX
  rw [z2] at hX
  have be2 := be.trans (k2.below be.size (by simp; try omega))
  have ho2 := o2.lt
  exact ⟨⟨r2.below bX, (o1.keeps k2 (by simp; try omega)).below bX, (o2.keeps k2 (by simp; try omega)).below bX, hX, be2.trans (bX.mono be2.size), ho2⟩, r1⟩
end Go.Proofs.Ytbbcemgcanclnaa
