/-
  DERIVED. GIVEN WITH THE SEED: THE CARDS: each row of YtgndebdoljnheaaGreatDoorRows.lean that lists a variable, with what it lists TIED to the program's text (the seventh form; the later family's looks); each row that meets fmt, with fmt's text TOLD by the authors' own Lean function (tested against real Go, not proved from fmt's source: count such statements apart). THE CARD IS WHAT COUNTS. Prove the row's statement (the work); the ties are given (YtgndebdoljnheaaGreatDoorTie.lean); close each card by the builder's one call (the guide's Derived/Test/ToyasCard.lean, 'card_holds'). Laid BY PROGRAM, IN A SANDBOX (cutbox-door.mjs). By AI agents, Wed Nov 11 2026. No macro, syntax, notation, axiom, sorry.
-/
import Derived.Test.YtgndebdoljnheaaGreatDoorRows
import GoSem.ClaimSeven
namespace Go.Proofs.YtgndebdoljnheaaGreatDoor
namespace Rows

/-- THE TIED CARD OF 'rowlocklaw13.LoadAnalyzes'. -/
def loadAnalyzesCard : Claim7 := { stood := { row := loadAnalyzesRow, standIns := [], harness := (true, "0f27094d5cf00fa69f533447ffe63da4284d3ca97304dd04b7cd8796af3329fc"), looks := false }, kinds := [], alts := [], laidByText := true, laidKinds := [.data, .pinned], laidTests := true, laidLooks := .later }
def LoadAnalyzesCardSaid : Prop := Claim7.holds Tryz.pinned (.plain (OpenSpec.ofChange loadAnalyzesSpec)) loadAnalyzesCard

/-- THE TIED CARD OF 'rowlocklaw13.LoadEntries'. -/
def loadEntriesCard : Claim7 := { stood := { row := loadEntriesRow, standIns := [], harness := (true, "0f27094d5cf00fa69f533447ffe63da4284d3ca97304dd04b7cd8796af3329fc"), looks := false }, kinds := [], alts := [], laidByText := true, laidKinds := [.data, .pinned], laidTests := true, laidLooks := .later }
def LoadEntriesCardSaid : Prop := Claim7.holds Tryz.pinned (.plain (OpenSpec.ofChange loadEntriesSpec)) loadEntriesCard

/-- THE SECOND FORM's CARD OF 'rowlocklaw13.LoadAnalyzes'. -/
def loadAnalyzesUptoCard : Claim7 := { stood := { row := loadAnalyzesUptoRow, standIns := [], harness := (true, "0f27094d5cf00fa69f533447ffe63da4284d3ca97304dd04b7cd8796af3329fc"), looks := false }, kinds := [], alts := [], laidByText := true, laidKinds := [.data, .pinned], laidTests := true, laidLooks := .later }
def LoadAnalyzesUptoCardSaid : Prop := Claim7.holds Tryz.pinned (.plain (OpenSpec.upto loadAnalyzesSpec)) loadAnalyzesUptoCard

/-- THE SECOND FORM's CARD OF 'rowlocklaw13.LoadEntries'. -/
def loadEntriesUptoCard : Claim7 := { stood := { row := loadEntriesUptoRow, standIns := [], harness := (true, "0f27094d5cf00fa69f533447ffe63da4284d3ca97304dd04b7cd8796af3329fc"), looks := false }, kinds := [], alts := [], laidByText := true, laidKinds := [.data, .pinned], laidTests := true, laidLooks := .later }
def LoadEntriesUptoCardSaid : Prop := Claim7.holds Tryz.pinned (.plain (OpenSpec.upto loadEntriesSpec)) loadEntriesUptoCard
end Rows
end Go.Proofs.YtgndebdoljnheaaGreatDoor
