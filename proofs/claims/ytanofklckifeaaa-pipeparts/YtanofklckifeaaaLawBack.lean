import Derived.Test.YtanofklckifeaaaLawPuts
import Derived.Test.YtanofklckifeaaaReader2
namespace Go.Proofs.Ytanofklckifeaaa
open Go.RowKit Go.Proofs Go.Proofs.PipeM Go.Proofs.PipeA

/-- The bits behind acts. -/
def runs (ys : List (Int × Int × Int)) : List Bool := ys.foldl (fun l t => actBits l t.1 t.2.1 t.2.2) []
theorem runs_snoc (ys : List (Int × Int × Int)) (t : Int × Int × Int) : runs (ys ++ [t]) = actBits (runs ys) t.1 t.2.1 t.2.2 := by simp [runs]

/-- Acts as cells. -/
def actCells (ys : List (Int × Int × Int)) : List Value := ys.flatMap fun t => [.int .i64 t.1, .int .i64 t.2.1, .int .i64 t.2.2]
theorem actCells_snoc (ys : List (Int × Int × Int)) (k x n : Int) : actCells ys ++ [.int .i64 k, .int .i64 x, .int .i64 n] = actCells (ys ++ [(k, x, n)]) := by simp [actCells]

theorem actCells_get : ∀ (ys : List (Int × Int × Int)) (i : Nat) (h : i < ys.length), (actCells ys)[i * 3]? = some (.int .i64 ys[i].1) ∧ (actCells ys)[i * 3 + 1]? = some (.int .i64 ys[i].2.1) ∧ (actCells ys)[i * 3 + 2]? = some (.int .i64 ys[i].2.2)
  | t :: ys, 0, _ => by simp [actCells]
  | t :: ys, i + 1, h => by
    have ih := actCells_get ys i (by simpa using h)
    have e : actCells (t :: ys) = [.int .i64 t.1, .int .i64 t.2.1, .int .i64 t.2.2] ++ actCells ys := by simp [actCells]
    rw [e]
    refine ⟨?_, ?_, ?_⟩
    · rw [List.getElem?_append_right (by simp; omega)]; have := ih.1; simpa [Nat.add_mul] using this
    · rw [List.getElem?_append_right (by simp; omega)]; have := ih.2.1; simpa [Nat.add_mul, show (i + 1) * 3 + 1 - 3 = i * 3 + 1 by omega] using this
    · rw [List.getElem?_append_right (by simp; omega)]; have := ih.2.2; simpa [Nat.add_mul, show (i + 1) * 3 + 2 - 3 = i * 3 + 2 by omega] using this

theorem info_act : (Try.prog.info? 28).map (fun i => (i.zero, i.size, i.bytes)) = some (some (.agg #[.int .i64 0, .int .i64 0, .int .i64 0]), 3, 24) := by kernel_rfl
theorem und_acts : Try.prog.underlying 22 = some (.slice 28) := by kernel_rfl

theorem own_slice {w : World} {base n size : Nat} {e : TypeId} {xs : List Value} {v : Value} (h : w.ownsRow base e size v n xs) : ∃ ao cap, v = .slice ao n cap := by
  rcases h.2 with ⟨rfl, rfl⟩ | ⟨g, cap, cur, rfl, _⟩
  · exact ⟨none, 0, rfl⟩
  · exact ⟨_, cap, rfl⟩

theorem own_block_lt {w : World} {base n size : Nat} {e : TypeId} {xs : List Value} {v : Value} (h : w.ownsRow base e size v n xs) : ∀ g, v.ownBlock = some g → base ≤ g ∧ g < w.heap.size := by
  intro g hg
  rcases h.2 with ⟨rfl, rfl⟩ | ⟨g', cap, cur, rfl, hb, hh, _⟩
  · cases hg
  · simp [Value.ownBlock] at hg
    subst hg
    refine ⟨hb, ?_⟩
    rcases Nat.lt_or_ge g' w.heap.size with h5 | h5
    · exact h5
    · rw [Array.getElem?_eq_none h5] at hh; cases hh

theorem ownsRow_keeps {w w' : World} {base n size : Nat} {e : TypeId} {xs : List Value} {v : Value} {bs : List Nat} (h : w.ownsRow base e size v n xs) (hk : Keeps bs w w') (hn : ∀ g, v.ownBlock = some g → g ∉ bs) : w'.ownsRow base e size v n xs := by
  refine ⟨h.1, ?_⟩
  have hlt := own_block_lt h
  rcases h.2 with h2 | ⟨g, cap, cur, hv', hg, hh, r⟩
  · exact Or.inl h2
  · exact Or.inr ⟨g, cap, cur, hv', hg, by rw [hk.block g (hlt g (by rw [hv']; rfl)).2 (hn g (by rw [hv']; rfl))]; exact hh, r⟩

/-- A slice lies in none of a writer's blocks. -/
def Apart (b : Nat) (v o : Value) : Prop := ∀ g, o.ownBlock = some g → g ≠ b ∧ v.ownBlock ≠ some g

def AllOk (ys : List (Int × Int × Int)) : Prop := ∀ t ∈ ys, actOk t.1 t.2.1 t.2.2 = true

/-- What holds while acts are done and gathered. -/
def BackRel (w : World) (B : Nat) (o : Value) (ys : List (Int × Int × Int)) (wr : World) : Prop :=
  ∃ v1 zs1, WrIs wr B v1 (runs ys) zs1 ∧ wr.ownsRow (B + 1) 28 3 o ys.length (actCells ys) ∧ Apart B v1 o ∧ Below w.heap.size w wr ∧ w.heap.size ≤ B ∧ AllOk ys ∧ (runs ys).length ≤ 9001 ∧ ActsFit ys ∧ ys.length ≤ 60

/-- New blocks turn nothing. -/
theorem BackRel.keeps {w wr wr' : World} {B : Nat} {o : Value} {ys : List (Int × Int × Int)} (h : BackRel w B o ys wr) (hk : Keeps [] wr wr') : BackRel w B o ys wr' := by
  obtain ⟨v1, zs1, h1, h2, h3, h4, h5, h6, h7, h8⟩ := h
  exact ⟨v1, zs1, h1.keeps hk (by simp) (by simp), ownsRow_keeps h2 hk (by simp), h3, h4.trans (hk.below h4.size (by simp)), h5, h6, h7, h8⟩

theorem fit_snoc {ys : List (Int × Int × Int)} {k x n : Int} (h : ActsFit ys) (hx : -9223372036854775808 ≤ x ∧ x ≤ 9223372036854775807) : ActsFit (ys ++ [(k, x, n)]) := by
  intro t ht
  rw [List.mem_append] at ht
  rcases ht with ht | ht
  · exact h t ht
  · simp at ht; subst ht; exact hx

theorem ok_snoc {ys : List (Int × Int × Int)} {k x n : Int} (h : AllOk ys) (hx : actOk k x n = true) : AllOk (ys ++ [(k, x, n)]) := by
  intro t ht
  rw [List.mem_append] at ht
  rcases ht with ht | ht
  · exact h t ht
  · simp at ht; subst ht; exact hx

/-- An act that is done turns the writer's own blocks alone. -/
theorem BackRel.done {w wr wr' : World} {B : Nat} {o v1 : Value} {ys : List (Int × Int × Int)} {l : List Bool} (ho : wr.ownsRow (B + 1) 28 3 o ys.length (actCells ys)) (ha : Apart B v1 o) (hb : Below w.heap.size w wr) (hB : w.heap.size ≤ B)
    (hv : ∀ g, v1.ownBlock = some g → B + 1 ≤ g) (h2 : Wrote wr B v1 l wr') :
    ∃ v2 zs2, WrIs wr' B v2 l zs2 ∧ wr'.ownsRow (B + 1) 28 3 o ys.length (actCells ys) ∧ Apart B v2 o ∧ Below w.heap.size w wr' := by
  obtain ⟨v2, zs2, hw2, hk2, ho2⟩ := h2
  have hlt := own_block_lt ho
  refine ⟨v2, zs2, hw2, ownsRow_keeps ho hk2 ?_, ?_, hb.trans (hk2.below hb.size ?_)⟩
  · intro g hg hc
    have := ha g hg
    rw [List.mem_cons] at hc
    rcases hc with hc | hc
    · exact this.1 hc
    · simp at hc; exact this.2 hc
  · intro g hg
    refine ⟨(ha g hg).1, fun hc => ?_⟩
    rcases ho2 with h | ⟨g', h, hge⟩
    · exact (ha g hg).2 (h.symm.trans hc)
    · rw [h] at hc
      simp at hc
      have := (hlt g hg).2
      omega
  · intro y hy
    rw [List.mem_cons] at hy
    rcases hy with rfl | hy
    · exact hB
    · simp at hy; have := hv y hy; omega

/-- An act that is gathered. -/
theorem back_grown {w w3 w4 : World} {B : Nat} {o o' v2 : Value} {zs2 : List Nat} {ys : List (Int × Int × Int)} {k x n : Int}
    (hw : WrIs w3 B v2 (actBits (runs ys) k x n) zs2) (ho : w3.ownsRow (B + 1) 28 3 o ys.length (actCells ys)) (ha : Apart B v2 o) (hb : Below w.heap.size w w3) (hB : w.heap.size ≤ B)
    (hok : AllOk ys) (hokt : actOk k x n = true) (hfit : ActsFit ys) (hx : -9223372036854775808 ≤ x ∧ x ≤ 9223372036854775807) (hlen : (actBits (runs ys) k x n).length ≤ 9001) (hyl : ys.length + 1 ≤ 60)
    (hown4 : w4.ownsRow (B + 1) 28 3 o' (ys.length + 1) (actCells ys ++ [.int .i64 k, .int .i64 x, .int .i64 n]))
    (hgrow : (w3.alloc (.cells #[.int .i64 k, .int .i64 x, .int .i64 n] 28)).grownBy w4 o.ownBlock)
    (hwh : o'.ownBlock = o.ownBlock ∨ ∃ g, o'.ownBlock = some g ∧ w3.heap.size + 1 ≤ g) :
    BackRel w B o' (ys ++ [(k, x, n)]) w4 := by
  have hkA : Keeps [] w3 (w3.alloc (.cells #[.int .i64 k, .int .i64 x, .int .i64 n] 28)) := keeps_of_below ((Below.refl _ _).alloc (Nat.le_refl _) _) _
  have hk4 : Keeps o.ownBlock.toList w3 w4 := by
    refine Keeps.trans_new (cs := o.ownBlock.toList) ⟨hkA.os, hkA.tape, hkA.output, hkA.size, fun i hi _ => hkA.block i hi (by simp)⟩ (keeps_grownBy hgrow) (fun y hy => Or.inl hy)
  have hlt := own_block_lt ho
  have hv2 := own_block_lt hw.own
  refine ⟨v2, zs2, ?_, ?_, ?_, hb.trans (hk4.below hb.size ?_), hB, ok_snoc hok hokt, ?_, fit_snoc hfit hx, by simp; omega⟩
  · rw [runs_snoc]
    refine hw.keeps hk4 ?_ ?_
    · intro hc; simp at hc; exact (ha B hc).1 rfl
    · intro g hg hc; simp at hc; exact (ha g hc).2 hg
  · rw [← actCells_snoc]; simpa using hown4
  · intro g hg
    rcases hwh with h | ⟨g', h, hge⟩
    · exact ha g (h.symm.trans hg)
    · rw [h] at hg
      simp at hg
      subst hg
      refine ⟨by have := hw.lt; omega, fun hc => by have := (hv2 g' hc).2; omega⟩
  · intro y hy
    simp at hy
    have := (hlt y hy).1
    omega
  · rw [runs_snoc]; exact hlen

theorem bytes_own {w : World} {base g cap : Nat} {zs : List Nat} (h : w.ownsRow base 5 1 (.slice (some ⟨g, 0, none⟩) zs.length cap) zs.length (cellsOf zs)) : BytesAt w (some ⟨g, 0, none⟩) zs := by
  intro j hj
  have hlt := own_lt h
  refine ⟨g, 0, rfl, hlt.2.1, ?_⟩
  rw [Nat.zero_add, h.cellAt j (by omega), cellsOf_get zs j hj]
end Go.Proofs.Ytanofklckifeaaa
