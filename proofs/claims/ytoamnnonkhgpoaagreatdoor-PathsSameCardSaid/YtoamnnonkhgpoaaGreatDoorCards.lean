/-
  DERIVED. GIVEN WITH THE SEED: THE CARDS: each row of YtoamnnonkhgpoaaGreatDoorRows.lean that lists a variable, with what it lists TIED to the program's text (the seventh form; the later family's looks); each row that meets fmt, with fmt's text TOLD by the authors' own Lean function (tested against real Go, not proved from fmt's source: count such statements apart). THE CARD IS WHAT COUNTS. Prove the row's statement (the work); the ties are given (YtoamnnonkhgpoaaGreatDoorTie.lean); close each card by the builder's one call (the guide's Derived/Test/ToyasCard.lean, 'card_holds'). Laid BY PROGRAM, IN A SANDBOX (cutbox-door.mjs). By AI agents, Wed Nov 11 2026. No macro, syntax, notation, axiom, sorry.
-/
import Derived.Test.YtoamnnonkhgpoaaGreatDoorRows
import GoSem.ClaimSeven
namespace Go.Proofs.YtoamnnonkhgpoaaGreatDoor
namespace Rows

/-- THE TIED CARD OF 'rowlocklaw22.PathsSame'. -/
def pathsSameCard : Claim7 := { stood := { row := pathsSameRow, standIns := [], harness := (true, "ea41980fb8b8bec5b005eb6ecc0b0e7c947b226c3eab48f56c674e1d484d69cc"), looks := false }, kinds := [], alts := [], laidByText := true, laidKinds := [.data, .pinned], laidTests := true, laidLooks := .later }
def PathsSameCardSaid : Prop := Claim7.holds Tryz.pinned (.plain (OpenSpec.ofChange pathsSameSpec)) pathsSameCard

/-- THE SECOND FORM's CARD OF 'rowlocklaw22.PathsSame'. -/
def pathsSameUptoCard : Claim7 := { stood := { row := pathsSameUptoRow, standIns := [], harness := (true, "ea41980fb8b8bec5b005eb6ecc0b0e7c947b226c3eab48f56c674e1d484d69cc"), looks := false }, kinds := [], alts := [], laidByText := true, laidKinds := [.data, .pinned], laidTests := true, laidLooks := .later }
def PathsSameUptoCardSaid : Prop := Claim7.holds Tryz.pinned (.plain (OpenSpec.upto pathsSameSpec)) pathsSameUptoCard
end Rows
end Go.Proofs.YtoamnnonkhgpoaaGreatDoor
