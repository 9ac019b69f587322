import Derived.Test.YtmgckfkdbepkdaaArgsI9
import Derived.Test.YtmgckfkdbepkdaaTreF1
import Derived.ChangeMaps5
namespace Go.Proofs.Ytmgckfkdbepkdaa
set_option maxRecDepth 100000
/-- A text that came in. -/
theorem text_of (s : ByteArray) (h : s.size ≤ maxLen) : ∃ l : List UInt8, s = bs l ∧ l.length ≤ 9223372036854775807 := by
  refine ⟨s.data.toList, (bs_data s).symm, ?_⟩
  rw [← bs_size, bs_data]
  unfold maxLen at h
  omega
end Go.Proofs.Ytmgckfkdbepkdaa
