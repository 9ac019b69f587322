/-
  No cell of these rows narrows 'for every input' (looked for: loops, veiled, ifaces, maps, wideKeys, modest, calm, conditions, laid).
  DERIVED. THE GIVEN ROWS OF THIS SEAT. 6 by the template 'for every input the law returns true; each argument reads behind the call as it read before'; 0 by the template 'total and deterministic' (their statements: YtengpeaagfilmaaTotals.lean).
  GIVEN WITH THE SEED: the statements are not yours to turn. If you find one false, say at which input.
  Laid BY PROGRAM, IN A SANDBOX (cutbox-rows.mjs): the forced cells as the released guide's own fill.sh prints them over the translation 29c323c12c98f7fa… (all of the seat's roots in one cut). By AI agents, Wed Nov 11 2026. No macro, syntax, notation, axiom, sorry.
-/
import Derived.Test.YtengpeaagfilmaaChecked
import GoSem.Claim
import GoSem.ClaimJoined
import GoSem.ClaimMapViews
import Derived.JoinedTies
import Derived.KernelRfl
namespace Go.Proofs.Ytengpeaagfilmaa
/- THE CELL 'sum', in the pinned program and in every row, IS THE sha256 OF THE DUMP (.gsa) THAT YtengpeaagfilmaaProg.lean LOADS. Nothing in Lean hashes anything: it is a label: what it is worth is what the hold of that sum in a sandbox is worth. -/
noncomputable def Try.pinned : Pinned := { name := "ytengpeaagfilmaa", sum := "29c323c12c98f7fa6f7f2bad054472904dc0548d0984eabbda2e2f34a17111f6", checked := Try.checked }
namespace Rows
def none {H : Type} : Left H := { results := [], args := [] }

/-- 'sackbutlaw06.LatticeCoefs': WHATEVER THE INPUT: true; the input reads as it did. -/
def latticeCoefsSpec : ChangeSpec := { name := "latticeCoefs", fn := fun _ => fun
  | [d] => { results := [.lit (.bool true)], args := [d] }
  | _ => none }
def latticeCoefsRow : OpenClaim := { program := "ytengpeaagfilmaa", sum := "29c323c12c98f7fa6f7f2bad054472904dc0548d0984eabbda2e2f34a17111f6", func := "sackbut/sackbutlaw06.LatticeCoefs", spec := "latticeCoefs", unfollowed := true, recurses := true, apart := false }
def LatticeCoefsSaid : Prop := latticeCoefsRow.holds Try.pinned (OpenSpec.ofChange latticeCoefsSpec)

/-- ITS FALSE NEIGHBOUR: 'it returns false'. Refute it at one input. -/
def latticeCoefsWrong : ChangeSpec := { name := "latticeCoefs", fn := fun _ => fun
  | [d] => { results := [.lit (.bool false)], args := [d] }
  | _ => none }
def LatticeCoefsWrongFalsely : Prop := latticeCoefsRow.holds Try.pinned (OpenSpec.ofChange latticeCoefsWrong)

/-- 'sackbutlaw06.LatticeSteps': WHATEVER THE INPUT: true; the input reads as it did. -/
def latticeStepsSpec : ChangeSpec := { name := "latticeSteps", fn := fun _ => fun
  | [d1, d2] => { results := [.lit (.bool true)], args := [d1, d2] }
  | _ => none }
def latticeStepsRow : OpenClaim := { program := "ytengpeaagfilmaa", sum := "29c323c12c98f7fa6f7f2bad054472904dc0548d0984eabbda2e2f34a17111f6", func := "sackbut/sackbutlaw06.LatticeSteps", spec := "latticeSteps", unfollowed := true, recurses := true, apart := false }
def LatticeStepsSaid : Prop := latticeStepsRow.holds Try.pinned (OpenSpec.ofChange latticeStepsSpec)

/-- ITS FALSE NEIGHBOUR: 'it returns false'. Refute it at one input. -/
def latticeStepsWrong : ChangeSpec := { name := "latticeSteps", fn := fun _ => fun
  | [d1, d2] => { results := [.lit (.bool false)], args := [d1, d2] }
  | _ => none }
def LatticeStepsWrongFalsely : Prop := latticeStepsRow.holds Try.pinned (OpenSpec.ofChange latticeStepsWrong)

/-- 'sackbutlaw06.LatticeRounds': WHATEVER THE INPUT: true; the input reads as it did. -/
def latticeRoundsSpec : ChangeSpec := { name := "latticeRounds", fn := fun _ => fun
  | [d] => { results := [.lit (.bool true)], args := [d] }
  | _ => none }
def latticeRoundsRow : OpenClaim := { program := "ytengpeaagfilmaa", sum := "29c323c12c98f7fa6f7f2bad054472904dc0548d0984eabbda2e2f34a17111f6", func := "sackbut/sackbutlaw06.LatticeRounds", spec := "latticeRounds", unfollowed := true, recurses := true, apart := false }
def LatticeRoundsSaid : Prop := latticeRoundsRow.holds Try.pinned (OpenSpec.ofChange latticeRoundsSpec)

/-- ITS FALSE NEIGHBOUR: 'it returns false'. Refute it at one input. -/
def latticeRoundsWrong : ChangeSpec := { name := "latticeRounds", fn := fun _ => fun
  | [d] => { results := [.lit (.bool false)], args := [d] }
  | _ => none }
def LatticeRoundsWrongFalsely : Prop := latticeRoundsRow.holds Try.pinned (OpenSpec.ofChange latticeRoundsWrong)

/-- 'sackbutlaw06.LatticePredicts': WHATEVER THE INPUT: true; the input reads as it did. -/
def latticePredictsSpec : ChangeSpec := { name := "latticePredicts", fn := fun _ => fun
  | [d1, d2] => { results := [.lit (.bool true)], args := [d1, d2] }
  | _ => none }
def latticePredictsRow : OpenClaim := { program := "ytengpeaagfilmaa", sum := "29c323c12c98f7fa6f7f2bad054472904dc0548d0984eabbda2e2f34a17111f6", func := "sackbut/sackbutlaw06.LatticePredicts", spec := "latticePredicts", unfollowed := true, recurses := true, apart := false }
def LatticePredictsSaid : Prop := latticePredictsRow.holds Try.pinned (OpenSpec.ofChange latticePredictsSpec)

/-- ITS FALSE NEIGHBOUR: 'it returns false'. Refute it at one input. -/
def latticePredictsWrong : ChangeSpec := { name := "latticePredicts", fn := fun _ => fun
  | [d1, d2] => { results := [.lit (.bool false)], args := [d1, d2] }
  | _ => none }
def LatticePredictsWrongFalsely : Prop := latticePredictsRow.holds Try.pinned (OpenSpec.ofChange latticePredictsWrong)

/-- 'sackbutlaw06.LatticeNear': WHATEVER THE INPUT: true; the input reads as it did. -/
def latticeNearSpec : ChangeSpec := { name := "latticeNear", fn := fun _ => fun
  | [d1, d2, d3] => { results := [.lit (.bool true)], args := [d1, d2, d3] }
  | _ => none }
def latticeNearRow : OpenClaim := { program := "ytengpeaagfilmaa", sum := "29c323c12c98f7fa6f7f2bad054472904dc0548d0984eabbda2e2f34a17111f6", func := "sackbut/sackbutlaw06.LatticeNear", spec := "latticeNear", unfollowed := true, recurses := true, apart := false }
def LatticeNearSaid : Prop := latticeNearRow.holds Try.pinned (OpenSpec.ofChange latticeNearSpec)

/-- ITS FALSE NEIGHBOUR: 'it returns false'. Refute it at one input. -/
def latticeNearWrong : ChangeSpec := { name := "latticeNear", fn := fun _ => fun
  | [d1, d2, d3] => { results := [.lit (.bool false)], args := [d1, d2, d3] }
  | _ => none }
def LatticeNearWrongFalsely : Prop := latticeNearRow.holds Try.pinned (OpenSpec.ofChange latticeNearWrong)

/-- 'sackbutlaw06.LatticeSilent': WHATEVER THE INPUT: true; the input reads as it did. -/
def latticeSilentSpec : ChangeSpec := { name := "latticeSilent", fn := fun _ => fun
  | [d1, d2] => { results := [.lit (.bool true)], args := [d1, d2] }
  | _ => none }
def latticeSilentRow : OpenClaim := { program := "ytengpeaagfilmaa", sum := "29c323c12c98f7fa6f7f2bad054472904dc0548d0984eabbda2e2f34a17111f6", func := "sackbut/sackbutlaw06.LatticeSilent", spec := "latticeSilent", unfollowed := true, recurses := true, apart := false }
def LatticeSilentSaid : Prop := latticeSilentRow.holds Try.pinned (OpenSpec.ofChange latticeSilentSpec)

/-- ITS FALSE NEIGHBOUR: 'it returns false'. Refute it at one input. -/
def latticeSilentWrong : ChangeSpec := { name := "latticeSilent", fn := fun _ => fun
  | [d1, d2] => { results := [.lit (.bool false)], args := [d1, d2] }
  | _ => none }
def LatticeSilentWrongFalsely : Prop := latticeSilentRow.holds Try.pinned (OpenSpec.ofChange latticeSilentWrong)

/- THE SECOND FORM. 'bulk': how many values and letters a reading holds, each counted each time it is reached (what is shared counts as often as it is met; a slice's spare places count too). A statement '..UptoSaid' is the law's where the arguments, and the package variables that the reading takes, are together of bulk at most 1048576: NARROWER than '..Said'. Prove '..Said' where nothing that the law and all that it calls make is longer than what came in: it says more and counts as full. Else prove '..UptoSaid'. A law counts once. -/
mutual
def uptoBulk {H : Type} : DataW H → Nat
  | .lit (.string bytes) => bytes.length + 1
  | .lit _ => 1
  | .nil => 1
  | .ptr d => uptoBulk d + 1
  | .slice elems spare => uptoBulkAll elems + uptoBulkAll spare + 1
  | .agg parts => uptoBulkAll parts + 1
  | .iface _ d => uptoBulk d + 1
  | .map entries => uptoBulkEntries entries + 1
  | .held _ => 1
def uptoBulkAll {H : Type} : List (DataW H) → Nat
  | [] => 0
  | d :: r => uptoBulk d + uptoBulkAll r
def uptoBulkEntries {H : Type} : List (Lit × DataW H) → Nat
  | [] => 0
  | x :: r => uptoBulkEntry x + uptoBulkEntries r
def uptoBulkEntry {H : Type} : Lit × DataW H → Nat
  | (.string bytes, d) => bytes.length + uptoBulk d + 1
  | (_, d) => uptoBulk d + 1
 end
def uptoSmall : (H : Type) → List (DataW H) → Bool := fun _ ds => decide (uptoBulkAll ds ≤ 1048576)
def OpenSpec.upto (s : _root_.Go.ChangeSpec) : _root_.Go.OpenSpec := { _root_.Go.OpenSpec.ofChange s with cond := some uptoSmall }

/-- 'sackbutlaw06.LatticeCoefs', WHERE WHAT IT READS IS OF BULK AT MOST 1048576: true; the input reads as it did. -/
def latticeCoefsUptoRow : OpenClaim := { program := "ytengpeaagfilmaa", sum := "29c323c12c98f7fa6f7f2bad054472904dc0548d0984eabbda2e2f34a17111f6", func := "sackbut/sackbutlaw06.LatticeCoefs", spec := "latticeCoefs", unfollowed := true, recurses := true, apart := false, narrowed := true }
def LatticeCoefsUptoSaid : Prop := latticeCoefsUptoRow.holds Try.pinned (OpenSpec.upto latticeCoefsSpec)

/-- 'sackbutlaw06.LatticeSteps', WHERE WHAT IT READS IS OF BULK AT MOST 1048576: true; the input reads as it did. -/
def latticeStepsUptoRow : OpenClaim := { program := "ytengpeaagfilmaa", sum := "29c323c12c98f7fa6f7f2bad054472904dc0548d0984eabbda2e2f34a17111f6", func := "sackbut/sackbutlaw06.LatticeSteps", spec := "latticeSteps", unfollowed := true, recurses := true, apart := false, narrowed := true }
def LatticeStepsUptoSaid : Prop := latticeStepsUptoRow.holds Try.pinned (OpenSpec.upto latticeStepsSpec)

/-- 'sackbutlaw06.LatticeRounds', WHERE WHAT IT READS IS OF BULK AT MOST 1048576: true; the input reads as it did. -/
def latticeRoundsUptoRow : OpenClaim := { program := "ytengpeaagfilmaa", sum := "29c323c12c98f7fa6f7f2bad054472904dc0548d0984eabbda2e2f34a17111f6", func := "sackbut/sackbutlaw06.LatticeRounds", spec := "latticeRounds", unfollowed := true, recurses := true, apart := false, narrowed := true }
def LatticeRoundsUptoSaid : Prop := latticeRoundsUptoRow.holds Try.pinned (OpenSpec.upto latticeRoundsSpec)

/-- 'sackbutlaw06.LatticePredicts', WHERE WHAT IT READS IS OF BULK AT MOST 1048576: true; the input reads as it did. -/
def latticePredictsUptoRow : OpenClaim := { program := "ytengpeaagfilmaa", sum := "29c323c12c98f7fa6f7f2bad054472904dc0548d0984eabbda2e2f34a17111f6", func := "sackbut/sackbutlaw06.LatticePredicts", spec := "latticePredicts", unfollowed := true, recurses := true, apart := false, narrowed := true }
def LatticePredictsUptoSaid : Prop := latticePredictsUptoRow.holds Try.pinned (OpenSpec.upto latticePredictsSpec)

/-- 'sackbutlaw06.LatticeNear', WHERE WHAT IT READS IS OF BULK AT MOST 1048576: true; the input reads as it did. -/
def latticeNearUptoRow : OpenClaim := { program := "ytengpeaagfilmaa", sum := "29c323c12c98f7fa6f7f2bad054472904dc0548d0984eabbda2e2f34a17111f6", func := "sackbut/sackbutlaw06.LatticeNear", spec := "latticeNear", unfollowed := true, recurses := true, apart := false, narrowed := true }
def LatticeNearUptoSaid : Prop := latticeNearUptoRow.holds Try.pinned (OpenSpec.upto latticeNearSpec)

/-- 'sackbutlaw06.LatticeSilent', WHERE WHAT IT READS IS OF BULK AT MOST 1048576: true; the input reads as it did. -/
def latticeSilentUptoRow : OpenClaim := { program := "ytengpeaagfilmaa", sum := "29c323c12c98f7fa6f7f2bad054472904dc0548d0984eabbda2e2f34a17111f6", func := "sackbut/sackbutlaw06.LatticeSilent", spec := "latticeSilent", unfollowed := true, recurses := true, apart := false, narrowed := true }
def LatticeSilentUptoSaid : Prop := latticeSilentUptoRow.holds Try.pinned (OpenSpec.upto latticeSilentSpec)

end Rows
end Go.Proofs.Ytengpeaagfilmaa
