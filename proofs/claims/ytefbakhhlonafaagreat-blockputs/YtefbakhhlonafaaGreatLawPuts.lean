import Derived.Test.YtefbakhhlonafaaGreatBlkP1
import Derived.Test.YtefbakhhlonafaaGreatRef3a
import Derived.Deep.RegionWith

namespace Go.Proofs.YtefbakhhlonafaaGreat
open Go.RowKit Go.Proofs Go.Proofs.PipeM Go.Proofs.PipeA

/-- Acts that lie in memory. -/
def ActsAt (w : World) (ao : Option Addr) (xs : List (Int × Int × Int)) : Prop :=
  ∀ i (h : i < xs.length), ∃ g off, ao = some ⟨g, off, none⟩ ∧ g < w.heap.size ∧ w.cell? ⟨g, off + i * 3, none⟩ = some (.int .i64 xs[i].1) ∧ w.cell? ⟨g, off + i * 3 + 1, none⟩ = some (.int .i64 xs[i].2.1) ∧ w.cell? ⟨g, off + i * 3 + 2, none⟩ = some (.int .i64 xs[i].2.2)

theorem ActsAt.below {w w' : World} {ao : Option Addr} {xs : List (Int × Int × Int)} (h : ActsAt w ao xs) (hb : Below w.heap.size w w') : ActsAt w' ao xs := by
  intro i hi
  obtain ⟨g, off, h1, h2, h3, h4, h5⟩ := h i hi
  exact ⟨g, off, h1, Nat.lt_of_lt_of_le h2 hb.size, by rw [hb.cell (p := ⟨g, off + i * 3, none⟩) h2, h3], by rw [hb.cell (p := ⟨g, off + i * 3 + 1, none⟩) h2, h4], by rw [hb.cell (p := ⟨g, off + i * 3 + 2, none⟩) h2, h5]⟩

end Go.Proofs.YtefbakhhlonafaaGreat
