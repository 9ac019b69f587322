import Derived.Test.YtefbakhhlonafaaGreatLawS5
import Derived.Test.YtefbakhhlonafaaGreatSlideT

namespace Go.Proofs.YtefbakhhlonafaaGreat
open Go.RowKit Go.Proofs Go.Proofs.PipeM Go.Proofs.PipeA
set_option maxRecDepth 100000

theorem end_zeroS {l : List Bool} (h : l.length < 8) (hz : ∀ b ∈ l, b = false) : RS.endv ⟨l, 0⟩ = 0 := by
  unfold RS.endv
  rw [if_neg (by simp), if_neg (by simp only; omega), if_pos ((num_zero l).2 hz)]

end Go.Proofs.YtefbakhhlonafaaGreat
