/-
  DERIVED. GIVEN WITH THE SEED: THE CARDS: each row of YtnfpkjnllkkngaaGreatDoorRows.lean that lists a variable, with what it lists TIED to the program's text (the seventh form; the later family's looks); each row that meets fmt, with fmt's text TOLD by the authors' own Lean function (tested against real Go, not proved from fmt's source: count such statements apart). THE CARD IS WHAT COUNTS. Prove the row's statement (the work); the ties are given (YtnfpkjnllkkngaaGreatDoorTie.lean); close each card by the builder's one call (the guide's Derived/Test/ToyasCard.lean, 'card_holds'). Laid BY PROGRAM, IN A SANDBOX (cutbox-door.mjs). By AI agents, Wed Nov 11 2026. No macro, syntax, notation, axiom, sorry.
-/
import Derived.Test.YtnfpkjnllkkngaaGreatDoorRows
import GoSem.ClaimSeven
namespace Go.Proofs.YtnfpkjnllkkngaaGreatDoor
namespace Rows

/-- THE TIED CARD OF 'sackbutlaw10.BlockNormal'. -/
def blockNormalCard : Claim7 := { stood := { row := blockNormalRow, standIns := [], harness := (true, "2c56efa918cb453c51750eb6758cc366132c4133b788c2db99b3011a07352171"), looks := true }, kinds := [], alts := [], laidByText := true, laidKinds := [.data], laidTests := true, laidLooks := .later }
def BlockNormalCardSaid : Prop := Claim7.holds Tryz.pinned (.plain (OpenSpec.ofChange blockNormalSpec)) blockNormalCard

/-- THE SECOND FORM's CARD OF 'sackbutlaw10.BlockNormal'. -/
def blockNormalUptoCard : Claim7 := { stood := { row := blockNormalUptoRow, standIns := [], harness := (true, "2c56efa918cb453c51750eb6758cc366132c4133b788c2db99b3011a07352171"), looks := true }, kinds := [], alts := [], laidByText := true, laidKinds := [.data], laidTests := true, laidLooks := .later }
def BlockNormalUptoCardSaid : Prop := Claim7.holds Tryz.pinned (.plain (OpenSpec.upto blockNormalSpec)) blockNormalUptoCard
end Rows
end Go.Proofs.YtnfpkjnllkkngaaGreatDoor
