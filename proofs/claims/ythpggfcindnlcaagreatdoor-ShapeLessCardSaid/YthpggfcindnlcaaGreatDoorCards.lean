/-
  DERIVED. GIVEN WITH THE SEED: THE CARDS: each row of YthpggfcindnlcaaGreatDoorRows.lean that lists a variable, with what it lists TIED to the program's text (the seventh form; the later family's looks); each row that meets fmt, with fmt's text TOLD by the authors' own Lean function (tested against real Go, not proved from fmt's source: count such statements apart). THE CARD IS WHAT COUNTS. Prove the row's statement (the work); the ties are given (YthpggfcindnlcaaGreatDoorTie.lean); close each card by the builder's one call (the guide's Derived/Test/ToyasCard.lean, 'card_holds'). Laid BY PROGRAM, IN A SANDBOX (cutbox-door.mjs). By AI agents, Wed Nov 11 2026. No macro, syntax, notation, axiom, sorry.
-/
import Derived.Test.YthpggfcindnlcaaGreatDoorRows
import GoSem.ClaimSeven
namespace Go.Proofs.YthpggfcindnlcaaGreatDoor
namespace Rows

/-- THE TIED CARD OF 'rowlocklaw28.ShapeTotal'. -/
def shapeTotalCard : Claim7 := { stood := { row := shapeTotalRow, standIns := [], harness := (true, "0ee27517007763d144975c59b193c107f82656af3399f4d876e21ba2f11548d6"), looks := false }, kinds := [], alts := [], laidByText := true, laidKinds := [.data, .data, .data, .data, .pinned], laidTests := true, laidLooks := .later }
def ShapeTotalCardSaid : Prop := Claim7.holds Tryz.pinned (.plain (OpenSpec.ofChange shapeTotalSpec)) shapeTotalCard

/-- THE TIED CARD OF 'rowlocklaw28.ShapeLess'. -/
def shapeLessCard : Claim7 := { stood := { row := shapeLessRow, standIns := [], harness := (true, "0ee27517007763d144975c59b193c107f82656af3399f4d876e21ba2f11548d6"), looks := false }, kinds := [], alts := [], laidByText := true, laidKinds := [.data, .data, .data, .data, .pinned], laidTests := true, laidLooks := .later }
def ShapeLessCardSaid : Prop := Claim7.holds Tryz.pinned (.plain (OpenSpec.ofChange shapeLessSpec)) shapeLessCard

/-- THE SECOND FORM's CARD OF 'rowlocklaw28.ShapeTotal'. -/
def shapeTotalUptoCard : Claim7 := { stood := { row := shapeTotalUptoRow, standIns := [], harness := (true, "0ee27517007763d144975c59b193c107f82656af3399f4d876e21ba2f11548d6"), looks := false }, kinds := [], alts := [], laidByText := true, laidKinds := [.data, .data, .data, .data, .pinned], laidTests := true, laidLooks := .later }
def ShapeTotalUptoCardSaid : Prop := Claim7.holds Tryz.pinned (.plain (OpenSpec.upto shapeTotalSpec)) shapeTotalUptoCard

/-- THE SECOND FORM's CARD OF 'rowlocklaw28.ShapeLess'. -/
def shapeLessUptoCard : Claim7 := { stood := { row := shapeLessUptoRow, standIns := [], harness := (true, "0ee27517007763d144975c59b193c107f82656af3399f4d876e21ba2f11548d6"), looks := false }, kinds := [], alts := [], laidByText := true, laidKinds := [.data, .data, .data, .data, .pinned], laidTests := true, laidLooks := .later }
def ShapeLessUptoCardSaid : Prop := Claim7.holds Tryz.pinned (.plain (OpenSpec.upto shapeLessSpec)) shapeLessUptoCard
end Rows
end Go.Proofs.YthpggfcindnlcaaGreatDoor
