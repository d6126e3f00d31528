/-
  No cell of these rows narrows 'for every input' (looked for: loops, veiled, ifaces, maps, wideKeys, modest, calm, conditions, laid).
  DERIVED. THE GIVEN ROWS OF THIS SEAT. 4 by the template 'for every input the law returns true; each argument reads behind the call as it read before'; 0 by the template 'total and deterministic' (their statements: YtebobcbaloddaaaGreatTotals.lean).
  GIVEN WITH THE SEED: the statements are not yours to turn. If you find one false, say at which input.
  Laid BY PROGRAM, IN A SANDBOX (cutbox-rows.mjs): the forced cells as the released guide's own fill.sh prints them over the translation deeb2fe12b16cc61… (all of the seat's roots in one cut). By AI agents, Wed Nov 11 2026. No macro, syntax, notation, axiom, sorry.
-/
import Derived.Test.YtebobcbaloddaaaGreatChecked
import GoSem.Claim
import GoSem.ClaimJoined
import GoSem.ClaimMapViews
import Derived.JoinedTies
import Derived.KernelRfl
namespace Go.Proofs.YtebobcbaloddaaaGreat
/- THE CELL 'sum', in the pinned program and in every row, IS THE sha256 OF THE DUMP (.gsa) THAT YtebobcbaloddaaaGreatProg.lean LOADS. Nothing in Lean hashes anything: it is a label: what it is worth is what the hold of that sum in a sandbox is worth. -/
noncomputable def Tryz.pinned : Pinned := { name := "ytebobcbaloddaaagreat", sum := "deeb2fe12b16cc61fe5443a67ab0b2378c8597edce678ef4bc4ae6cd762e4612", checked := Tryz.checked }
namespace Rows
def none {H : Type} : Left H := { results := [], args := [] }

/-- 'rowlocklaw11.BtreeInserts': WHATEVER THE INPUT: true; the input reads as it did. -/
def btreeInsertsSpec : ChangeSpec := { name := "btreeInserts", fn := fun _ => fun
  | [d1, d2] => { results := [.lit (.bool true)], args := [d1, d2] }
  | _ => none }
def btreeInsertsRow : OpenClaim := { program := "ytebobcbaloddaaagreat", sum := "deeb2fe12b16cc61fe5443a67ab0b2378c8597edce678ef4bc4ae6cd762e4612", func := "rowlock/rowlocklaw11.BtreeInserts", spec := "btreeInserts", inPlace := ["internal/bytealg.abigen_runtime_cmpstring", "sync/atomic.AddUint64", "slices.overlaps[rowlock/api.Entry]", "slices.overlaps[uint32]"], unfollowed := true, recurses := true, apart := false }
def BtreeInsertsSaid : Prop := btreeInsertsRow.holds Tryz.pinned (OpenSpec.ofChange btreeInsertsSpec)

/-- ITS FALSE NEIGHBOUR: 'it returns false'. Refute it at one input. -/
def btreeInsertsWrong : ChangeSpec := { name := "btreeInserts", fn := fun _ => fun
  | [d1, d2] => { results := [.lit (.bool false)], args := [d1, d2] }
  | _ => none }
def BtreeInsertsWrongFalsely : Prop := btreeInsertsRow.holds Tryz.pinned (OpenSpec.ofChange btreeInsertsWrong)

/-- 'rowlocklaw11.BtreeFull': WHATEVER THE INPUT: true; the input reads as it did. -/
def btreeFullSpec : ChangeSpec := { name := "btreeFull", fn := fun _ => fun
  | [d1, d2, d3] => { results := [.lit (.bool true)], args := [d1, d2, d3] }
  | _ => none }
def btreeFullRow : OpenClaim := { program := "ytebobcbaloddaaagreat", sum := "deeb2fe12b16cc61fe5443a67ab0b2378c8597edce678ef4bc4ae6cd762e4612", func := "rowlock/rowlocklaw11.BtreeFull", spec := "btreeFull", inPlace := ["internal/bytealg.abigen_runtime_cmpstring", "sync/atomic.AddUint64", "slices.overlaps[rowlock/api.Entry]", "slices.overlaps[uint32]"], unfollowed := true, recurses := true, apart := false }
def BtreeFullSaid : Prop := btreeFullRow.holds Tryz.pinned (OpenSpec.ofChange btreeFullSpec)

/-- ITS FALSE NEIGHBOUR: 'it returns false'. Refute it at one input. -/
def btreeFullWrong : ChangeSpec := { name := "btreeFull", fn := fun _ => fun
  | [d1, d2, d3] => { results := [.lit (.bool false)], args := [d1, d2, d3] }
  | _ => none }
def BtreeFullWrongFalsely : Prop := btreeFullRow.holds Tryz.pinned (OpenSpec.ofChange btreeFullWrong)

/-- 'rowlocklaw11.BtreeRanges': WHATEVER THE INPUT: true; the input reads as it did. -/
def btreeRangesSpec : ChangeSpec := { name := "btreeRanges", fn := fun _ => fun
  | [d1, d2, d3, d4, d5, d6, d7] => { results := [.lit (.bool true)], args := [d1, d2, d3, d4, d5, d6, d7] }
  | _ => none }
def btreeRangesRow : OpenClaim := { program := "ytebobcbaloddaaagreat", sum := "deeb2fe12b16cc61fe5443a67ab0b2378c8597edce678ef4bc4ae6cd762e4612", func := "rowlock/rowlocklaw11.BtreeRanges", spec := "btreeRanges", inPlace := ["internal/bytealg.abigen_runtime_cmpstring", "sync/atomic.AddUint64", "slices.overlaps[rowlock/api.Entry]", "slices.overlaps[uint32]"], unfollowed := true, recurses := true, apart := false }
def BtreeRangesSaid : Prop := btreeRangesRow.holds Tryz.pinned (OpenSpec.ofChange btreeRangesSpec)

/-- ITS FALSE NEIGHBOUR: 'it returns false'. Refute it at one input. -/
def btreeRangesWrong : ChangeSpec := { name := "btreeRanges", fn := fun _ => fun
  | [d1, d2, d3, d4, d5, d6, d7] => { results := [.lit (.bool false)], args := [d1, d2, d3, d4, d5, d6, d7] }
  | _ => none }
def BtreeRangesWrongFalsely : Prop := btreeRangesRow.holds Tryz.pinned (OpenSpec.ofChange btreeRangesWrong)

/-- 'rowlocklaw11.BtreeOrder': WHATEVER THE INPUT: true; the input reads as it did. -/
def btreeOrderSpec : ChangeSpec := { name := "btreeOrder", fn := fun _ => fun
  | [d1, d2, d3] => { results := [.lit (.bool true)], args := [d1, d2, d3] }
  | _ => none }
def btreeOrderRow : OpenClaim := { program := "ytebobcbaloddaaagreat", sum := "deeb2fe12b16cc61fe5443a67ab0b2378c8597edce678ef4bc4ae6cd762e4612", func := "rowlock/rowlocklaw11.BtreeOrder", spec := "btreeOrder", inPlace := ["internal/bytealg.abigen_runtime_cmpstring", "sync/atomic.AddUint64", "slices.overlaps[rowlock/api.Entry]", "slices.overlaps[uint32]"], unfollowed := true, recurses := true, apart := false }
def BtreeOrderSaid : Prop := btreeOrderRow.holds Tryz.pinned (OpenSpec.ofChange btreeOrderSpec)

/-- ITS FALSE NEIGHBOUR: 'it returns false'. Refute it at one input. -/
def btreeOrderWrong : ChangeSpec := { name := "btreeOrder", fn := fun _ => fun
  | [d1, d2, d3] => { results := [.lit (.bool false)], args := [d1, d2, d3] }
  | _ => none }
def BtreeOrderWrongFalsely : Prop := btreeOrderRow.holds Tryz.pinned (OpenSpec.ofChange btreeOrderWrong)

/- THE SECOND FORM. 'bulk': how many values and letters a reading holds, each counted each time it is reached (what is shared counts as often as it is met; a slice's spare places count too). A statement '..UptoSaid' is the law's where the arguments, and the package variables that the reading takes, are together of bulk at most 1048576: NARROWER than '..Said'. Prove '..Said' where nothing that the law and all that it calls make is longer than what came in: it says more and counts as full. Else prove '..UptoSaid'. A law counts once. -/
mutual
def uptoBulk {H : Type} : DataW H → Nat
  | .lit (.string bytes) => bytes.length + 1
  | .lit _ => 1
  | .nil => 1
  | .ptr d => uptoBulk d + 1
  | .slice elems spare => uptoBulkAll elems + uptoBulkAll spare + 1
  | .agg parts => uptoBulkAll parts + 1
  | .iface _ d => uptoBulk d + 1
  | .map entries => uptoBulkEntries entries + 1
  | .held _ => 1
def uptoBulkAll {H : Type} : List (DataW H) → Nat
  | [] => 0
  | d :: r => uptoBulk d + uptoBulkAll r
def uptoBulkEntries {H : Type} : List (Lit × DataW H) → Nat
  | [] => 0
  | x :: r => uptoBulkEntry x + uptoBulkEntries r
def uptoBulkEntry {H : Type} : Lit × DataW H → Nat
  | (.string bytes, d) => bytes.length + uptoBulk d + 1
  | (_, d) => uptoBulk d + 1
 end
def uptoSmall : (H : Type) → List (DataW H) → Bool := fun _ ds => decide (uptoBulkAll ds ≤ 1048576)
def OpenSpec.upto (s : _root_.Go.ChangeSpec) : _root_.Go.OpenSpec := { _root_.Go.OpenSpec.ofChange s with cond := some uptoSmall }

/-- 'rowlocklaw11.BtreeInserts', WHERE WHAT IT READS IS OF BULK AT MOST 1048576: true; the input reads as it did. -/
def btreeInsertsUptoRow : OpenClaim := { program := "ytebobcbaloddaaagreat", sum := "deeb2fe12b16cc61fe5443a67ab0b2378c8597edce678ef4bc4ae6cd762e4612", func := "rowlock/rowlocklaw11.BtreeInserts", spec := "btreeInserts", inPlace := ["internal/bytealg.abigen_runtime_cmpstring", "sync/atomic.AddUint64", "slices.overlaps[rowlock/api.Entry]", "slices.overlaps[uint32]"], unfollowed := true, recurses := true, apart := false, narrowed := true }
def BtreeInsertsUptoSaid : Prop := btreeInsertsUptoRow.holds Tryz.pinned (OpenSpec.upto btreeInsertsSpec)

/-- 'rowlocklaw11.BtreeFull', WHERE WHAT IT READS IS OF BULK AT MOST 1048576: true; the input reads as it did. -/
def btreeFullUptoRow : OpenClaim := { program := "ytebobcbaloddaaagreat", sum := "deeb2fe12b16cc61fe5443a67ab0b2378c8597edce678ef4bc4ae6cd762e4612", func := "rowlock/rowlocklaw11.BtreeFull", spec := "btreeFull", inPlace := ["internal/bytealg.abigen_runtime_cmpstring", "sync/atomic.AddUint64", "slices.overlaps[rowlock/api.Entry]", "slices.overlaps[uint32]"], unfollowed := true, recurses := true, apart := false, narrowed := true }
def BtreeFullUptoSaid : Prop := btreeFullUptoRow.holds Tryz.pinned (OpenSpec.upto btreeFullSpec)

/-- 'rowlocklaw11.BtreeRanges', WHERE WHAT IT READS IS OF BULK AT MOST 1048576: true; the input reads as it did. -/
def btreeRangesUptoRow : OpenClaim := { program := "ytebobcbaloddaaagreat", sum := "deeb2fe12b16cc61fe5443a67ab0b2378c8597edce678ef4bc4ae6cd762e4612", func := "rowlock/rowlocklaw11.BtreeRanges", spec := "btreeRanges", inPlace := ["internal/bytealg.abigen_runtime_cmpstring", "sync/atomic.AddUint64", "slices.overlaps[rowlock/api.Entry]", "slices.overlaps[uint32]"], unfollowed := true, recurses := true, apart := false, narrowed := true }
def BtreeRangesUptoSaid : Prop := btreeRangesUptoRow.holds Tryz.pinned (OpenSpec.upto btreeRangesSpec)

/-- 'rowlocklaw11.BtreeOrder', WHERE WHAT IT READS IS OF BULK AT MOST 1048576: true; the input reads as it did. -/
def btreeOrderUptoRow : OpenClaim := { program := "ytebobcbaloddaaagreat", sum := "deeb2fe12b16cc61fe5443a67ab0b2378c8597edce678ef4bc4ae6cd762e4612", func := "rowlock/rowlocklaw11.BtreeOrder", spec := "btreeOrder", inPlace := ["internal/bytealg.abigen_runtime_cmpstring", "sync/atomic.AddUint64", "slices.overlaps[rowlock/api.Entry]", "slices.overlaps[uint32]"], unfollowed := true, recurses := true, apart := false, narrowed := true }
def BtreeOrderUptoSaid : Prop := btreeOrderUptoRow.holds Tryz.pinned (OpenSpec.upto btreeOrderSpec)

end Rows
end Go.Proofs.YtebobcbaloddaaaGreat
