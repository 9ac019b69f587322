import Derived.Test.YtcgkalfclammfaaLatC1
namespace Go.Proofs.Ytcgkalfclammfaa
open Go.RowKit Go.Proofs Go.Proofs.PipeA Go.Proofs.LatM
set_option maxRecDepth 100000

theorem u64_gap {a b : Int} (h0 : 0 ≤ b - a) (h1 : b - a ≤ 9223372036854775807) : IntKind.u64.wrap (IntKind.u64.wrap b - IntKind.u64.wrap a) = b - a := by
  simp [IntKind.wrap, IntKind.bits, IntKind.signed]; omega

theorem dist_bound (p : Nat) {want i : Int} (hw : -1048576 ≤ want ∧ want ≤ 1048576) (hi : -64 ≤ i ∧ i ≤ 63) : dist p want i ≤ 2000000 := by
  have := refl_bound p hi
  unfold dist
  omega

end Go.Proofs.Ytcgkalfclammfaa
