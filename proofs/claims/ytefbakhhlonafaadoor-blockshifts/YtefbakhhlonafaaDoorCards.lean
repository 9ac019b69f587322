/-
  DERIVED. GIVEN WITH THE SEED: THE CARDS: each row of YtefbakhhlonafaaDoorRows.lean that lists a variable, with what it lists TIED to the program's text (the seventh form; the later family's looks); each row that meets fmt, with fmt's text TOLD by the authors' own Lean function (tested against real Go, not proved from fmt's source: count such statements apart). THE CARD IS WHAT COUNTS. Prove the row's statement (the work); the ties are given (YtefbakhhlonafaaDoorTie.lean); close each card by the builder's one call (the guide's Derived/Test/ToyasCard.lean, 'card_holds'). Laid BY PROGRAM, IN A SANDBOX (cutbox-door.mjs). By AI agents, Wed Nov 11 2026. No macro, syntax, notation, axiom, sorry.
-/
import Derived.Test.YtefbakhhlonafaaDoorRows
import GoSem.ClaimSeven
namespace Go.Proofs.YtefbakhhlonafaaDoor
namespace Rows

/-- THE TIED CARD OF 'sackbutlaw10.BlockShifts'. -/
def blockShiftsCard : Claim7 := { stood := { row := blockShiftsRow, standIns := [], harness := (true, "d1b4a5735237db2cb500f4d9432913ed142e67d9f249539a2b7b0ff6d90e42aa"), looks := false }, kinds := [], alts := [], laidByText := true, laidKinds := [.data], laidTests := true, laidLooks := .later }
def BlockShiftsCardSaid : Prop := Claim7.holds Tryd.pinned (.plain (OpenSpec.ofChange blockShiftsSpec)) blockShiftsCard

/-- THE SECOND FORM's CARD OF 'sackbutlaw10.BlockShifts'. -/
def blockShiftsUptoCard : Claim7 := { stood := { row := blockShiftsUptoRow, standIns := [], harness := (true, "d1b4a5735237db2cb500f4d9432913ed142e67d9f249539a2b7b0ff6d90e42aa"), looks := false }, kinds := [], alts := [], laidByText := true, laidKinds := [.data], laidTests := true, laidLooks := .later }
def BlockShiftsUptoCardSaid : Prop := Claim7.holds Tryd.pinned (.plain (OpenSpec.upto blockShiftsSpec)) blockShiftsUptoCard
end Rows
end Go.Proofs.YtefbakhhlonafaaDoor
