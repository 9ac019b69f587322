/-
  No cell of these rows narrows 'for every input' (looked for: loops, veiled, ifaces, maps, wideKeys, modest, calm, conditions, laid).
  DERIVED. THE GIVEN ROWS OF THIS SEAT. 4 by the template 'for every input the law returns true; each argument reads behind the call as it read before'; 0 by the template 'total and deterministic' (their statements: YtanofklckifeaaaTotals.lean).
  GIVEN WITH THE SEED: the statements are not yours to turn. If you find one false, say at which input.
  Laid BY PROGRAM, IN A SANDBOX (cutbox-rows.mjs): the forced cells as the released guide's own fill.sh prints them over the translation 677a60f4387eb352… (all of the seat's roots in one cut). By AI agents, Wed Nov 11 2026. No macro, syntax, notation, axiom, sorry.
-/
import Derived.Test.YtanofklckifeaaaChecked
import GoSem.Claim
import GoSem.ClaimJoined
import GoSem.ClaimMapViews
import Derived.JoinedTies
import Derived.KernelRfl
namespace Go.Proofs.Ytanofklckifeaaa
/- THE CELL 'sum', in the pinned program and in every row, IS THE sha256 OF THE DUMP (.gsa) THAT YtanofklckifeaaaProg.lean LOADS. Nothing in Lean hashes anything: it is a label: what it is worth is what the hold of that sum in a sandbox is worth. -/
noncomputable def Try.pinned : Pinned := { name := "ytanofklckifeaaa", sum := "677a60f4387eb352404906d55b24f7d5757137fe3b7f23f5b597dac2851eadb5", checked := Try.checked }
namespace Rows
def none {H : Type} : Left H := { results := [], args := [] }

/-- 'sackbutlaw01.PipePuts': WHATEVER THE INPUT: true; the input reads as it did. -/
def pipePutsSpec : ChangeSpec := { name := "pipePuts", fn := fun _ => fun
  | [d] => { results := [.lit (.bool true)], args := [d] }
  | _ => none }
def pipePutsRow : OpenClaim := { program := "ytanofklckifeaaa", sum := "677a60f4387eb352404906d55b24f7d5757137fe3b7f23f5b597dac2851eadb5", func := "sackbut/sackbutlaw01.PipePuts", spec := "pipePuts", unfollowed := true, recurses := true, apart := false }
def PipePutsSaid : Prop := pipePutsRow.holds Try.pinned (OpenSpec.ofChange pipePutsSpec)

/-- ITS FALSE NEIGHBOUR: 'it returns false'. Refute it at one input. -/
def pipePutsWrong : ChangeSpec := { name := "pipePuts", fn := fun _ => fun
  | [d] => { results := [.lit (.bool false)], args := [d] }
  | _ => none }
def PipePutsWrongFalsely : Prop := pipePutsRow.holds Try.pinned (OpenSpec.ofChange pipePutsWrong)

/-- 'sackbutlaw01.PipeBack': WHATEVER THE INPUT: true; the input reads as it did. -/
def pipeBackSpec : ChangeSpec := { name := "pipeBack", fn := fun _ => fun
  | [d] => { results := [.lit (.bool true)], args := [d] }
  | _ => none }
def pipeBackRow : OpenClaim := { program := "ytanofklckifeaaa", sum := "677a60f4387eb352404906d55b24f7d5757137fe3b7f23f5b597dac2851eadb5", func := "sackbut/sackbutlaw01.PipeBack", spec := "pipeBack", unfollowed := true, recurses := true, apart := false }
def PipeBackSaid : Prop := pipeBackRow.holds Try.pinned (OpenSpec.ofChange pipeBackSpec)

/-- ITS FALSE NEIGHBOUR: 'it returns false'. Refute it at one input. -/
def pipeBackWrong : ChangeSpec := { name := "pipeBack", fn := fun _ => fun
  | [d] => { results := [.lit (.bool false)], args := [d] }
  | _ => none }
def PipeBackWrongFalsely : Prop := pipeBackRow.holds Try.pinned (OpenSpec.ofChange pipeBackWrong)

/-- 'sackbutlaw01.PipeParts': WHATEVER THE INPUT: true; the input reads as it did. -/
def pipePartsSpec : ChangeSpec := { name := "pipeParts", fn := fun _ => fun
  | [d1, d2] => { results := [.lit (.bool true)], args := [d1, d2] }
  | _ => none }
def pipePartsRow : OpenClaim := { program := "ytanofklckifeaaa", sum := "677a60f4387eb352404906d55b24f7d5757137fe3b7f23f5b597dac2851eadb5", func := "sackbut/sackbutlaw01.PipeParts", spec := "pipeParts", unfollowed := true, recurses := true, apart := false }
def PipePartsSaid : Prop := pipePartsRow.holds Try.pinned (OpenSpec.ofChange pipePartsSpec)

/-- ITS FALSE NEIGHBOUR: 'it returns false'. Refute it at one input. -/
def pipePartsWrong : ChangeSpec := { name := "pipeParts", fn := fun _ => fun
  | [d1, d2] => { results := [.lit (.bool false)], args := [d1, d2] }
  | _ => none }
def PipePartsWrongFalsely : Prop := pipePartsRow.holds Try.pinned (OpenSpec.ofChange pipePartsWrong)

/-- 'sackbutlaw01.PipeEnds': WHATEVER THE INPUT: true; the input reads as it did. -/
def pipeEndsSpec : ChangeSpec := { name := "pipeEnds", fn := fun _ => fun
  | [d1, d2] => { results := [.lit (.bool true)], args := [d1, d2] }
  | _ => none }
def pipeEndsRow : OpenClaim := { program := "ytanofklckifeaaa", sum := "677a60f4387eb352404906d55b24f7d5757137fe3b7f23f5b597dac2851eadb5", func := "sackbut/sackbutlaw01.PipeEnds", spec := "pipeEnds", unfollowed := true, recurses := true, apart := false }
def PipeEndsSaid : Prop := pipeEndsRow.holds Try.pinned (OpenSpec.ofChange pipeEndsSpec)

/-- ITS FALSE NEIGHBOUR: 'it returns false'. Refute it at one input. -/
def pipeEndsWrong : ChangeSpec := { name := "pipeEnds", fn := fun _ => fun
  | [d1, d2] => { results := [.lit (.bool false)], args := [d1, d2] }
  | _ => none }
def PipeEndsWrongFalsely : Prop := pipeEndsRow.holds Try.pinned (OpenSpec.ofChange pipeEndsWrong)

/- THE SECOND FORM. 'bulk': how many values and letters a reading holds, each counted each time it is reached (what is shared counts as often as it is met; a slice's spare places count too). A statement '..UptoSaid' is the law's where the arguments, and the package variables that the reading takes, are together of bulk at most 1048576: NARROWER than '..Said'. Prove '..Said' where nothing that the law and all that it calls make is longer than what came in: it says more and counts as full. Else prove '..UptoSaid'. A law counts once. -/
mutual
def uptoBulk {H : Type} : DataW H → Nat
  | .lit (.string bytes) => bytes.length + 1
  | .lit _ => 1
  | .nil => 1
  | .ptr d => uptoBulk d + 1
  | .slice elems spare => uptoBulkAll elems + uptoBulkAll spare + 1
  | .agg parts => uptoBulkAll parts + 1
  | .iface _ d => uptoBulk d + 1
  | .map entries => uptoBulkEntries entries + 1
  | .held _ => 1
def uptoBulkAll {H : Type} : List (DataW H) → Nat
  | [] => 0
  | d :: r => uptoBulk d + uptoBulkAll r
def uptoBulkEntries {H : Type} : List (Lit × DataW H) → Nat
  | [] => 0
  | x :: r => uptoBulkEntry x + uptoBulkEntries r
def uptoBulkEntry {H : Type} : Lit × DataW H → Nat
  | (.string bytes, d) => bytes.length + uptoBulk d + 1
  | (_, d) => uptoBulk d + 1
 end
def uptoSmall : (H : Type) → List (DataW H) → Bool := fun _ ds => decide (uptoBulkAll ds ≤ 1048576)
def OpenSpec.upto (s : _root_.Go.ChangeSpec) : _root_.Go.OpenSpec := { _root_.Go.OpenSpec.ofChange s with cond := some uptoSmall }

/-- 'sackbutlaw01.PipePuts', WHERE WHAT IT READS IS OF BULK AT MOST 1048576: true; the input reads as it did. -/
def pipePutsUptoRow : OpenClaim := { program := "ytanofklckifeaaa", sum := "677a60f4387eb352404906d55b24f7d5757137fe3b7f23f5b597dac2851eadb5", func := "sackbut/sackbutlaw01.PipePuts", spec := "pipePuts", unfollowed := true, recurses := true, apart := false, narrowed := true }
def PipePutsUptoSaid : Prop := pipePutsUptoRow.holds Try.pinned (OpenSpec.upto pipePutsSpec)

/-- 'sackbutlaw01.PipeBack', WHERE WHAT IT READS IS OF BULK AT MOST 1048576: true; the input reads as it did. -/
def pipeBackUptoRow : OpenClaim := { program := "ytanofklckifeaaa", sum := "677a60f4387eb352404906d55b24f7d5757137fe3b7f23f5b597dac2851eadb5", func := "sackbut/sackbutlaw01.PipeBack", spec := "pipeBack", unfollowed := true, recurses := true, apart := false, narrowed := true }
def PipeBackUptoSaid : Prop := pipeBackUptoRow.holds Try.pinned (OpenSpec.upto pipeBackSpec)

/-- 'sackbutlaw01.PipeParts', WHERE WHAT IT READS IS OF BULK AT MOST 1048576: true; the input reads as it did. -/
def pipePartsUptoRow : OpenClaim := { program := "ytanofklckifeaaa", sum := "677a60f4387eb352404906d55b24f7d5757137fe3b7f23f5b597dac2851eadb5", func := "sackbut/sackbutlaw01.PipeParts", spec := "pipeParts", unfollowed := true, recurses := true, apart := false, narrowed := true }
def PipePartsUptoSaid : Prop := pipePartsUptoRow.holds Try.pinned (OpenSpec.upto pipePartsSpec)

/-- 'sackbutlaw01.PipeEnds', WHERE WHAT IT READS IS OF BULK AT MOST 1048576: true; the input reads as it did. -/
def pipeEndsUptoRow : OpenClaim := { program := "ytanofklckifeaaa", sum := "677a60f4387eb352404906d55b24f7d5757137fe3b7f23f5b597dac2851eadb5", func := "sackbut/sackbutlaw01.PipeEnds", spec := "pipeEnds", unfollowed := true, recurses := true, apart := false, narrowed := true }
def PipeEndsUptoSaid : Prop := pipeEndsUptoRow.holds Try.pinned (OpenSpec.upto pipeEndsSpec)

end Rows
end Go.Proofs.Ytanofklckifeaaa
