import Derived.Test.YtefbakhhlonafaaDoorBlkF6
import Derived.Test.YtefbakhhlonafaaDoorRef3g
import Derived.Test.YtefbakhhlonafaaDoorRef3b
import Derived.Test.YtefbakhhlonafaaDoorBlkC9

section
namespace Go.Proofs.YtefbakhhlonafaaDoor
open Go.RowKit Go.Proofs Go.Proofs.PipeM Go.Proofs.PipeA Go.Proofs.BlkM
open Go.Proofs.LatM (goodL)
open Go.Proofs.LagM (goodT)
set_option maxRecDepth 100000

end Go.Proofs.YtefbakhhlonafaaDoor
end

section
namespace Go.Proofs.YtefbakhhlonafaaDoor
open Go.RowKit Go.Proofs Go.Proofs.PipeM Go.Proofs.PipeA

/-- Could an act be? -/
def actOk (k v n : Int) : Bool :=
  if k = 1 then decide (0 ≤ n ∧ n ≤ 48 ∧ 0 ≤ v ∧ v < 2 ^ n.toNat)
  else if k = 2 then decide (1 ≤ n ∧ n ≤ 48 ∧ -(2 ^ (n.toNat - 1)) ≤ v ∧ v < 2 ^ (n.toNat - 1))
  else if k = 3 then decide (0 ≤ n ∧ n ≤ 1000)
  else true

/-- The bits behind an act. -/
def actBits (l : List Bool) (k v n : Int) : List Bool :=
  if actOk k v n = false then l
  else if k = 1 then l ++ low v.toNat n.toNat
  else if k = 2 then l ++ low (v % 2 ^ n.toNat).toNat n.toNat
  else if k = 3 then l ++ (List.replicate n.toNat false ++ [true])
  else if k = 4 then pad l
  else l

end Go.Proofs.YtefbakhhlonafaaDoor
end

section
namespace Go.Proofs.YtefbakhhlonafaaDoor
open Go.RowKit Go.Proofs Go.Proofs.PipeM Go.Proofs.PipeA

/-- What the document's act answers. -/
def PutOf (l : List Bool) (k x n : Int) (w : World) (e : Ending) (w' : World) : Prop :=
  e = .returned (.tuple #[.string (str (actBits l k x n)), .bool (actOk k x n)]) ∧ Below w.heap.size w w'

theorem PutOf.no {l : List Bool} {k x n : Int} {w w' : World} (h : actOk k x n = false) (hb : Below w.heap.size w w') : PutOf l k x n w (.returned (.tuple #[.string (str l), .bool false])) w' := by
  have : actBits l k x n = l := by unfold actBits; rw [h]; simp
  exact ⟨by rw [this, h], hb⟩

end Go.Proofs.YtefbakhhlonafaaDoor
end

section
namespace Go.Proofs.YtefbakhhlonafaaDoor
open Go.RowKit Go.Proofs Go.Proofs.PipeM Go.Proofs.PipeA Go.Proofs.BlkM
open Go.Proofs.LatM (goodL)
open Go.Proofs.LagM (goodT)
set_option maxRecDepth 100000

end Go.Proofs.YtefbakhhlonafaaDoor
end

section
namespace Go.Proofs.YtefbakhhlonafaaDoor
open Go.RowKit Go.Proofs Go.Proofs.PipeM Go.Proofs.PipeA Go.Proofs.BlkM Go.Proofs.BlkB
open Go.Proofs.LatM (goodL)
open Go.Proofs.LagM (goodT)
set_option maxRecDepth 100000

/-- What was written stays written, whatever memory is made. -/
theorem Wrote.still {w W W1 : World} {b : Nat} {v : Value} {l : List Bool} (h : Wrote w b v l W) (hb : Below W.heap.size W W1) : Wrote w b v l W1 := by
  obtain ⟨v1, zs1, h1, hk, ho⟩ := h
  exact ⟨v1, zs1, h1.keeps (keeps_of_below hb []) (by simp) (by simp), hk.trans (keeps_of_below hb _), ho⟩
theorem Wrote.cell {w W : World} {b : Nat} {v : Value} {l : List Bool} (h : Wrote w b v l W) {g off : Nat} (hg : g < w.heap.size) (ho : Off b v g) : W.cell? ⟨g, off, none⟩ = w.cell? ⟨g, off, none⟩ := by
  obtain ⟨v1, zs1, h1, hk, _⟩ := h
  exact hk.cell (p := ⟨g, off, none⟩) hg ho
theorem Wrote.ints {w W : World} {b : Nat} {v : Value} {l : List Bool} (h : Wrote w b v l W) {ao : Option Addr} {m : List Int} (hi : IntsAt w ao m) (ho : ∀ g off, 0 < m.length → ao = some ⟨g, off, none⟩ → Off b v g) : IntsAt W ao m := by
  obtain ⟨v1, zs1, h1, hk, _⟩ := h
  intro j hj
  exact hi.keeps hk (fun g off e => ho g off (by omega) e) j hj
theorem Wrote.off {w W : World} {b : Nat} {v : Value} {l : List Bool} (h : Wrote w b v l W) : ∃ v1 zs1, WrIs W b v1 l zs1 ∧ (∀ g, g < w.heap.size → Off b v g → Off b v1 g) ∧ (∀ (l2 : List Bool) W2, Wrote W b v1 l2 W2 → Wrote w b v l2 W2) := by
  obtain ⟨v1, zs1, h1, hk, ho⟩ := h
  exact ⟨v1, zs1, h1, fun g hg hoff => hoff.next hg ho, fun l2 W2 h2 => Wrote.next hk ho h2⟩

end Go.Proofs.YtefbakhhlonafaaDoor
end

section
namespace Go.Proofs.YtefbakhhlonafaaDoor
open Go.RowKit Go.Proofs Go.Proofs.PipeM Go.Proofs.PipeA Go.Proofs.BlkM
open Go.Proofs.LatM (goodL)
set_option maxRecDepth 100000

end Go.Proofs.YtefbakhhlonafaaDoor
end

section
namespace Go.Proofs.YtefbakhhlonafaaDoor
open Go.RowKit Go.Proofs Go.Proofs.PipeM Go.Proofs.PipeA Go.Proofs.BlkM Go.Proofs.BlkB
open Go.Proofs.LatM (goodL)
open Go.Proofs.LagM (goodT)
set_option maxRecDepth 100000

end Go.Proofs.YtefbakhhlonafaaDoor
end

section
namespace Go.Proofs.YtefbakhhlonafaaDoor
open Go.RowKit Go.Proofs Go.Proofs.PipeM Go.Proofs.PipeA Go.Proofs.BlkM
set_option maxRecDepth 100000

end Go.Proofs.YtefbakhhlonafaaDoor
end
