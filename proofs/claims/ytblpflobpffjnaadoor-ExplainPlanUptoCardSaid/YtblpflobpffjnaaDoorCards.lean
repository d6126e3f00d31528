/-
  DERIVED. GIVEN WITH THE SEED: THE CARDS: each row of YtblpflobpffjnaaDoorRows.lean that lists a variable, with what it lists TIED to the program's text (the seventh form; the later family's looks); each row that meets fmt, with fmt's text TOLD by the authors' own Lean function (tested against real Go, not proved from fmt's source: count such statements apart). THE CARD IS WHAT COUNTS. Prove the row's statement (the work); the ties are given (YtblpflobpffjnaaDoorTie.lean); close each card by the builder's one call (the guide's Derived/Test/ToyasCard.lean, 'card_holds'). Laid BY PROGRAM, IN A SANDBOX (cutbox-door.mjs). By AI agents, Wed Nov 11 2026. No macro, syntax, notation, axiom, sorry.
-/
import Derived.Test.YtblpflobpffjnaaDoorRows
import GoSem.ClaimSeven
namespace Go.Proofs.YtblpflobpffjnaaDoor
namespace Rows

/-- THE TIED CARD OF 'rowlocklaw30.ExplainPlan'. -/
def explainPlanCard : Claim7 := { stood := { row := explainPlanRow, standIns := [], harness := (true, "5d6ce88ed599b38165dec0373424f649578fa4fe815a0bcc6b2f8fbf937ecc30"), looks := true }, kinds := [], alts := [], laidByText := true, laidKinds := [.data, .data, .data], laidTests := true, laidLooks := .later }
def ExplainPlanCardSaid : Prop := Claim7.holds Tryd.pinned (.plain (OpenSpec.ofChange explainPlanSpec)) explainPlanCard

/-- THE TIED CARD OF 'rowlocklaw30.ExplainAnswer'. -/
def explainAnswerCard : Claim7 := { stood := { row := explainAnswerRow, standIns := [], harness := (true, "5d6ce88ed599b38165dec0373424f649578fa4fe815a0bcc6b2f8fbf937ecc30"), looks := true }, kinds := [], alts := [], laidByText := true, laidKinds := [.data, .data, .data, .data, .pinned], laidTests := true, laidLooks := .later }
def ExplainAnswerCardSaid : Prop := Claim7.holds Tryd.pinned (.plain (OpenSpec.ofChange explainAnswerSpec)) explainAnswerCard

/-- THE TIED CARD OF 'rowlocklaw30.ExplainValues'. -/
def explainValuesCard : Claim7 := { stood := { row := explainValuesRow, standIns := [], harness := (true, "5d6ce88ed599b38165dec0373424f649578fa4fe815a0bcc6b2f8fbf937ecc30"), looks := true }, kinds := [], alts := [], laidByText := true, laidKinds := [.data, .data, .data, .data, .sentinel, .sentinel, .pinned], laidTests := true, laidLooks := .later }
def ExplainValuesCardSaid : Prop := Claim7.holds Tryd.pinned (.plain (OpenSpec.ofChange explainValuesSpec)) explainValuesCard

/-- THE SECOND FORM's CARD OF 'rowlocklaw30.ExplainPlan'. -/
def explainPlanUptoCard : Claim7 := { stood := { row := explainPlanUptoRow, standIns := [], harness := (true, "5d6ce88ed599b38165dec0373424f649578fa4fe815a0bcc6b2f8fbf937ecc30"), looks := true }, kinds := [], alts := [], laidByText := true, laidKinds := [.data, .data, .data], laidTests := true, laidLooks := .later }
def ExplainPlanUptoCardSaid : Prop := Claim7.holds Tryd.pinned (.plain (OpenSpec.upto explainPlanSpec)) explainPlanUptoCard

/-- THE SECOND FORM's CARD OF 'rowlocklaw30.ExplainAnswer'. -/
def explainAnswerUptoCard : Claim7 := { stood := { row := explainAnswerUptoRow, standIns := [], harness := (true, "5d6ce88ed599b38165dec0373424f649578fa4fe815a0bcc6b2f8fbf937ecc30"), looks := true }, kinds := [], alts := [], laidByText := true, laidKinds := [.data, .data, .data, .data, .pinned], laidTests := true, laidLooks := .later }
def ExplainAnswerUptoCardSaid : Prop := Claim7.holds Tryd.pinned (.plain (OpenSpec.upto explainAnswerSpec)) explainAnswerUptoCard

/-- THE SECOND FORM's CARD OF 'rowlocklaw30.ExplainValues'. -/
def explainValuesUptoCard : Claim7 := { stood := { row := explainValuesUptoRow, standIns := [], harness := (true, "5d6ce88ed599b38165dec0373424f649578fa4fe815a0bcc6b2f8fbf937ecc30"), looks := true }, kinds := [], alts := [], laidByText := true, laidKinds := [.data, .data, .data, .data, .sentinel, .sentinel, .pinned], laidTests := true, laidLooks := .later }
def ExplainValuesUptoCardSaid : Prop := Claim7.holds Tryd.pinned (.plain (OpenSpec.upto explainValuesSpec)) explainValuesUptoCard
end Rows
end Go.Proofs.YtblpflobpffjnaaDoor
