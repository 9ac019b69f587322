import Derived.Test.YtmgckfkdbepkdaaReader5
namespace Go.Proofs.Ytmgckfkdbepkdaa
open Go.RowKit Go.Proofs Go.Proofs.PipeM Go.Proofs.PipeA

/-- The document's reader. -/
structure MR where
  bits : List Bool
  all : Int
  fail : Int

def MR.val (m : MR) : Value := .agg #[.string (str m.bits), .int .i64 m.all, .int .i64 m.fail]
def MR.give (m : MR) (e : Int) : MR := if m.fail = 0 then ⟨m.bits, m.all, e⟩ else m

theorem below2 (w : World) (o1 o2 : Obj) : Below w.heap.size w ((w.alloc o1).alloc o2) := ((Below.refl _ _).alloc (Nat.le_refl _) _).alloc (by simp) _

/-- Cells and marks of the two blocks that such a call lays first. -/
theorem two_cells {w w1 : World} {v0 v1 v2 u0 u1 u2 : Value} {t : TypeId} (hb : Below ((w.alloc (.cells #[v0, v1, v2] t)).alloc (.cells #[u0, u1, u2] t)).heap.size ((w.alloc (.cells #[v0, v1, v2] t)).alloc (.cells #[u0, u1, u2] t)) w1) :
    (w1.cell? ⟨w.heap.size, 0, none⟩ = some v0 ∧ w1.cell? ⟨w.heap.size, 1, none⟩ = some v1 ∧ w1.cell? ⟨w.heap.size, 2, none⟩ = some v2) ∧
    (w1.cell? ⟨w.heap.size + 1, 0, none⟩ = some u0 ∧ w1.cell? ⟨w.heap.size + 1, 1, none⟩ = some u1 ∧ w1.cell? ⟨w.heap.size + 1, 2, none⟩ = some u2) ∧
    (w1.frozen? ⟨w.heap.size, 0, none⟩ = false ∧ w1.frozen? ⟨w.heap.size, 1, none⟩ = false ∧ w1.frozen? ⟨w.heap.size, 2, none⟩ = false) ∧
    (w1.frozen? ⟨w.heap.size + 1, 0, none⟩ = false ∧ w1.frozen? ⟨w.heap.size + 1, 1, none⟩ = false ∧ w1.frozen? ⟨w.heap.size + 1, 2, none⟩ = false) := by
  refine ⟨⟨?_, ?_, ?_⟩, ⟨?_, ?_, ?_⟩, ⟨?_, ?_, ?_⟩, ⟨?_, ?_, ?_⟩⟩
  all_goals first
    | (rw [hb.cell (by simp; try omega)]; simp)
    | (rw [hb.frozen (by simp; try omega)]; simp)

/-- Take, of the document's reader. -/
def MR.take (m : MR) (n : Int) : MR × Nat :=
  if n < 0 ∨ 48 < n then (m.give 1, 0)
  else if (m.bits.length : Int) < n then (m.give 3, 0)
  else if m.fail ≠ 0 then (m, 0)
  else (⟨m.bits.drop n.toNat, m.all, m.fail⟩, num (m.bits.take n.toNat))

/-- A reader, and a number. -/
def MRes (m : MR) (v : Int) (w : World) (r : Ending) (w' : World) : Prop := r = .returned (.tuple #[m.val, .int .i64 v]) ∧ Below w.heap.size w w'

theorem below_set3 {w w1 : World} (hb : Below w.heap.size w w1) (b : Nat) (hB : w.heap.size ≤ b) (v0 v1 v2 : Value) :
    Below w.heap.size w (((w1.setCell ⟨b, 0, none⟩ v0).setCell ⟨b, 1, none⟩ v1).setCell ⟨b, 2, none⟩ v2) :=
  ((hb.setCell (p := ⟨b, 0, none⟩) hB v0).setCell (p := ⟨b, 1, none⟩) hB v1).setCell (p := ⟨b, 2, none⟩) hB v2

theorem set3_cells {w : World} {b : Nat} {u0 u1 u2 : Value} (h0 : w.cell? ⟨b, 0, none⟩ = some u0) (h1 : w.cell? ⟨b, 1, none⟩ = some u1) (h2 : w.cell? ⟨b, 2, none⟩ = some u2) (v0 v1 v2 : Value) :
    (((w.setCell ⟨b, 0, none⟩ v0).setCell ⟨b, 1, none⟩ v1).setCell ⟨b, 2, none⟩ v2).cell? ⟨b, 0, none⟩ = some v0 ∧
    (((w.setCell ⟨b, 0, none⟩ v0).setCell ⟨b, 1, none⟩ v1).setCell ⟨b, 2, none⟩ v2).cell? ⟨b, 1, none⟩ = some v1 ∧
    (((w.setCell ⟨b, 0, none⟩ v0).setCell ⟨b, 1, none⟩ v1).setCell ⟨b, 2, none⟩ v2).cell? ⟨b, 2, none⟩ = some v2 := by
  have k0 : (w.setCell ⟨b, 0, none⟩ v0).cell? ⟨b, 0, none⟩ = some v0 := World.cell?_setCell_same _ _ _ h0
  have k1 : (w.setCell ⟨b, 0, none⟩ v0).cell? ⟨b, 1, none⟩ = some u1 := by simp [World.cell?_setCell_other, h1]
  have k2 : (w.setCell ⟨b, 0, none⟩ v0).cell? ⟨b, 2, none⟩ = some u2 := by simp [World.cell?_setCell_other, h2]
  have m0 : ((w.setCell ⟨b, 0, none⟩ v0).setCell ⟨b, 1, none⟩ v1).cell? ⟨b, 0, none⟩ = some v0 := by simp [World.cell?_setCell_other, k0]
  have m1 : ((w.setCell ⟨b, 0, none⟩ v0).setCell ⟨b, 1, none⟩ v1).cell? ⟨b, 1, none⟩ = some v1 := World.cell?_setCell_same _ _ _ k1
  have m2 : ((w.setCell ⟨b, 0, none⟩ v0).setCell ⟨b, 1, none⟩ v1).cell? ⟨b, 2, none⟩ = some u2 := by simp [World.cell?_setCell_other, k2]
  refine ⟨?_, ?_, World.cell?_setCell_same _ _ _ m2⟩
  · simpa [World.cell?_setCell_other] using m0
  · simpa [World.cell?_setCell_other] using m1

theorem give_fail (m : MR) (e : Int) (he : e ≠ 0) : (m.give e).fail ≠ 0 := by
  unfold MR.give
  split
  · exact he
  · assumption

end Go.Proofs.Ytmgckfkdbepkdaa
