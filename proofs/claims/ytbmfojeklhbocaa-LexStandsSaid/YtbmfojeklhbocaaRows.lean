/-
  NARROWER THAN 'FOR EVERY INPUT', by the rows' own cells (each row's printed sentence says how): SplitIs: loops · SplitReady: loops · SplitOnce: loops.
  DERIVED. THE GIVEN ROWS OF THIS SEAT. 7 by the template 'for every input the law returns true; each argument reads behind the call as it read before'; 0 by the template 'total and deterministic' (their statements: YtbmfojeklhbocaaTotals.lean).
  GIVEN WITH THE SEED: the statements are not yours to turn. If you find one false, say at which input.
  Laid BY PROGRAM, IN A SANDBOX (cutbox-rows.mjs): the forced cells as the released guide's own fill.sh prints them over the translation 0931e85068c665a6… (all of the seat's roots in one cut). By AI agents, Wed Nov 11 2026. No macro, syntax, notation, axiom, sorry.
-/
import Derived.Test.YtbmfojeklhbocaaChecked
import GoSem.Claim
import GoSem.ClaimJoined
import GoSem.ClaimMapViews
import Derived.JoinedTies
import Derived.KernelRfl
namespace Go.Proofs.Ytbmfojeklhbocaa
/- THE CELL 'sum', in the pinned program and in every row, IS THE sha256 OF THE DUMP (.gsa) THAT YtbmfojeklhbocaaProg.lean LOADS. Nothing in Lean hashes anything: it is a label: what it is worth is what the hold of that sum in a sandbox is worth. -/
noncomputable def Try.pinned : Pinned := { name := "ytbmfojeklhbocaa", sum := "0931e85068c665a6c6c608b47e02f1dbbcaf346b234361e79acba3d51c1b7c1f", checked := Try.checked }
namespace Rows
def none {H : Type} : Left H := { results := [], args := [] }

/-- 'rowlocklaw15.LexStands': WHATEVER THE INPUT: true; the input reads as it did. -/
def lexStandsSpec : ChangeSpec := { name := "lexStands", fn := fun _ => fun
  | [d1, d2] => { results := [.lit (.bool true)], args := [d1, d2] }
  | _ => none }
def lexStandsRow : OpenClaim := { program := "ytbmfojeklhbocaa", sum := "0931e85068c665a6c6c608b47e02f1dbbcaf346b234361e79acba3d51c1b7c1f", func := "rowlock/rowlocklaw15.LexStands", spec := "lexStands", inPlace := ["internal/bytealg.IndexByteString"], unfollowed := true, recurses := true, apart := false }
def LexStandsSaid : Prop := lexStandsRow.holds Try.pinned (OpenSpec.ofChange lexStandsSpec)

/-- ITS FALSE NEIGHBOUR: 'it returns false'. Refute it at one input. -/
def lexStandsWrong : ChangeSpec := { name := "lexStands", fn := fun _ => fun
  | [d1, d2] => { results := [.lit (.bool false)], args := [d1, d2] }
  | _ => none }
def LexStandsWrongFalsely : Prop := lexStandsRow.holds Try.pinned (OpenSpec.ofChange lexStandsWrong)

/-- 'rowlocklaw15.LexWords': WHATEVER THE INPUT: true; the input reads as it did. -/
def lexWordsSpec : ChangeSpec := { name := "lexWords", fn := fun _ => fun
  | [d] => { results := [.lit (.bool true)], args := [d] }
  | _ => none }
def lexWordsRow : OpenClaim := { program := "ytbmfojeklhbocaa", sum := "0931e85068c665a6c6c608b47e02f1dbbcaf346b234361e79acba3d51c1b7c1f", func := "rowlock/rowlocklaw15.LexWords", spec := "lexWords", inPlace := ["internal/bytealg.IndexByteString"], unfollowed := true, recurses := true, apart := false }
def LexWordsSaid : Prop := lexWordsRow.holds Try.pinned (OpenSpec.ofChange lexWordsSpec)

/-- ITS FALSE NEIGHBOUR: 'it returns false'. Refute it at one input. -/
def lexWordsWrong : ChangeSpec := { name := "lexWords", fn := fun _ => fun
  | [d] => { results := [.lit (.bool false)], args := [d] }
  | _ => none }
def LexWordsWrongFalsely : Prop := lexWordsRow.holds Try.pinned (OpenSpec.ofChange lexWordsWrong)

/-- 'rowlocklaw15.LexMany': WHATEVER THE INPUT: true; the input reads as it did. -/
def lexManySpec : ChangeSpec := { name := "lexMany", fn := fun _ => fun
  | [d1, d2] => { results := [.lit (.bool true)], args := [d1, d2] }
  | _ => none }
def lexManyRow : OpenClaim := { program := "ytbmfojeklhbocaa", sum := "0931e85068c665a6c6c608b47e02f1dbbcaf346b234361e79acba3d51c1b7c1f", func := "rowlock/rowlocklaw15.LexMany", spec := "lexMany", inPlace := ["internal/bytealg.IndexByteString"], unfollowed := true, recurses := true, apart := false }
def LexManySaid : Prop := lexManyRow.holds Try.pinned (OpenSpec.ofChange lexManySpec)

/-- ITS FALSE NEIGHBOUR: 'it returns false'. Refute it at one input. -/
def lexManyWrong : ChangeSpec := { name := "lexMany", fn := fun _ => fun
  | [d1, d2] => { results := [.lit (.bool false)], args := [d1, d2] }
  | _ => none }
def LexManyWrongFalsely : Prop := lexManyRow.holds Try.pinned (OpenSpec.ofChange lexManyWrong)

/-- 'rowlocklaw15.LexJoined': WHATEVER THE INPUT: true; the input reads as it did. -/
def lexJoinedSpec : ChangeSpec := { name := "lexJoined", fn := fun _ => fun
  | [d1, d2] => { results := [.lit (.bool true)], args := [d1, d2] }
  | _ => none }
def lexJoinedRow : OpenClaim := { program := "ytbmfojeklhbocaa", sum := "0931e85068c665a6c6c608b47e02f1dbbcaf346b234361e79acba3d51c1b7c1f", func := "rowlock/rowlocklaw15.LexJoined", spec := "lexJoined", inPlace := ["internal/bytealg.IndexByteString"], unfollowed := true, recurses := true, apart := false }
def LexJoinedSaid : Prop := lexJoinedRow.holds Try.pinned (OpenSpec.ofChange lexJoinedSpec)

/-- ITS FALSE NEIGHBOUR: 'it returns false'. Refute it at one input. -/
def lexJoinedWrong : ChangeSpec := { name := "lexJoined", fn := fun _ => fun
  | [d1, d2] => { results := [.lit (.bool false)], args := [d1, d2] }
  | _ => none }
def LexJoinedWrongFalsely : Prop := lexJoinedRow.holds Try.pinned (OpenSpec.ofChange lexJoinedWrong)

/-- 'rowlocklaw19.SplitIs': WHATEVER THE INPUT: true; the input reads as it did. -/
def splitIsSpec : ChangeSpec := { name := "splitIs", fn := fun _ => fun
  | [d1, d2] => { results := [.lit (.bool true)], args := [d1, d2] }
  | _ => none }
def splitIsRow : OpenClaim := { program := "ytbmfojeklhbocaa", sum := "0931e85068c665a6c6c608b47e02f1dbbcaf346b234361e79acba3d51c1b7c1f", func := "rowlock/rowlocklaw19.SplitIs", spec := "splitIs", recurses := true, loops := true, apart := false }
def SplitIsSaid : Prop := splitIsRow.holds Try.pinned (OpenSpec.ofChange splitIsSpec)

/-- ITS FALSE NEIGHBOUR: 'it returns false'. Refute it at one input. -/
def splitIsWrong : ChangeSpec := { name := "splitIs", fn := fun _ => fun
  | [d1, d2] => { results := [.lit (.bool false)], args := [d1, d2] }
  | _ => none }
def SplitIsWrongFalsely : Prop := splitIsRow.holds Try.pinned (OpenSpec.ofChange splitIsWrong)

/-- 'rowlocklaw19.SplitReady': WHATEVER THE INPUT: true; the input reads as it did. -/
def splitReadySpec : ChangeSpec := { name := "splitReady", fn := fun _ => fun
  | [d1, d2, d3] => { results := [.lit (.bool true)], args := [d1, d2, d3] }
  | _ => none }
def splitReadyRow : OpenClaim := { program := "ytbmfojeklhbocaa", sum := "0931e85068c665a6c6c608b47e02f1dbbcaf346b234361e79acba3d51c1b7c1f", func := "rowlock/rowlocklaw19.SplitReady", spec := "splitReady", recurses := true, loops := true, apart := false }
def SplitReadySaid : Prop := splitReadyRow.holds Try.pinned (OpenSpec.ofChange splitReadySpec)

/-- ITS FALSE NEIGHBOUR: 'it returns false'. Refute it at one input. -/
def splitReadyWrong : ChangeSpec := { name := "splitReady", fn := fun _ => fun
  | [d1, d2, d3] => { results := [.lit (.bool false)], args := [d1, d2, d3] }
  | _ => none }
def SplitReadyWrongFalsely : Prop := splitReadyRow.holds Try.pinned (OpenSpec.ofChange splitReadyWrong)

/-- 'rowlocklaw19.SplitOnce': WHATEVER THE INPUT: true; the input reads as it did. -/
def splitOnceSpec : ChangeSpec := { name := "splitOnce", fn := fun _ => fun
  | [d1, d2] => { results := [.lit (.bool true)], args := [d1, d2] }
  | _ => none }
def splitOnceRow : OpenClaim := { program := "ytbmfojeklhbocaa", sum := "0931e85068c665a6c6c608b47e02f1dbbcaf346b234361e79acba3d51c1b7c1f", func := "rowlock/rowlocklaw19.SplitOnce", spec := "splitOnce", recurses := true, loops := true, apart := false }
def SplitOnceSaid : Prop := splitOnceRow.holds Try.pinned (OpenSpec.ofChange splitOnceSpec)

/-- ITS FALSE NEIGHBOUR: 'it returns false'. Refute it at one input. -/
def splitOnceWrong : ChangeSpec := { name := "splitOnce", fn := fun _ => fun
  | [d1, d2] => { results := [.lit (.bool false)], args := [d1, d2] }
  | _ => none }
def SplitOnceWrongFalsely : Prop := splitOnceRow.holds Try.pinned (OpenSpec.ofChange splitOnceWrong)

/- THE SECOND FORM. 'bulk': how many values and letters a reading holds, each counted each time it is reached (what is shared counts as often as it is met; a slice's spare places count too). A statement '..UptoSaid' is the law's where the arguments, and the package variables that the reading takes, are together of bulk at most 1048576: NARROWER than '..Said'. Prove '..Said' where nothing that the law and all that it calls make is longer than what came in: it says more and counts as full. Else prove '..UptoSaid'. A law counts once. -/
mutual
def uptoBulk {H : Type} : DataW H → Nat
  | .lit (.string bytes) => bytes.length + 1
  | .lit _ => 1
  | .nil => 1
  | .ptr d => uptoBulk d + 1
  | .slice elems spare => uptoBulkAll elems + uptoBulkAll spare + 1
  | .agg parts => uptoBulkAll parts + 1
  | .iface _ d => uptoBulk d + 1
  | .map entries => uptoBulkEntries entries + 1
  | .held _ => 1
def uptoBulkAll {H : Type} : List (DataW H) → Nat
  | [] => 0
  | d :: r => uptoBulk d + uptoBulkAll r
def uptoBulkEntries {H : Type} : List (Lit × DataW H) → Nat
  | [] => 0
  | x :: r => uptoBulkEntry x + uptoBulkEntries r
def uptoBulkEntry {H : Type} : Lit × DataW H → Nat
  | (.string bytes, d) => bytes.length + uptoBulk d + 1
  | (_, d) => uptoBulk d + 1
 end
def uptoSmall : (H : Type) → List (DataW H) → Bool := fun _ ds => decide (uptoBulkAll ds ≤ 1048576)
def OpenSpec.upto (s : _root_.Go.ChangeSpec) : _root_.Go.OpenSpec := { _root_.Go.OpenSpec.ofChange s with cond := some uptoSmall }

/-- 'rowlocklaw15.LexStands', WHERE WHAT IT READS IS OF BULK AT MOST 1048576: true; the input reads as it did. -/
def lexStandsUptoRow : OpenClaim := { program := "ytbmfojeklhbocaa", sum := "0931e85068c665a6c6c608b47e02f1dbbcaf346b234361e79acba3d51c1b7c1f", func := "rowlock/rowlocklaw15.LexStands", spec := "lexStands", inPlace := ["internal/bytealg.IndexByteString"], unfollowed := true, recurses := true, apart := false, narrowed := true }
def LexStandsUptoSaid : Prop := lexStandsUptoRow.holds Try.pinned (OpenSpec.upto lexStandsSpec)

/-- 'rowlocklaw15.LexWords', WHERE WHAT IT READS IS OF BULK AT MOST 1048576: true; the input reads as it did. -/
def lexWordsUptoRow : OpenClaim := { program := "ytbmfojeklhbocaa", sum := "0931e85068c665a6c6c608b47e02f1dbbcaf346b234361e79acba3d51c1b7c1f", func := "rowlock/rowlocklaw15.LexWords", spec := "lexWords", inPlace := ["internal/bytealg.IndexByteString"], unfollowed := true, recurses := true, apart := false, narrowed := true }
def LexWordsUptoSaid : Prop := lexWordsUptoRow.holds Try.pinned (OpenSpec.upto lexWordsSpec)

/-- 'rowlocklaw15.LexMany', WHERE WHAT IT READS IS OF BULK AT MOST 1048576: true; the input reads as it did. -/
def lexManyUptoRow : OpenClaim := { program := "ytbmfojeklhbocaa", sum := "0931e85068c665a6c6c608b47e02f1dbbcaf346b234361e79acba3d51c1b7c1f", func := "rowlock/rowlocklaw15.LexMany", spec := "lexMany", inPlace := ["internal/bytealg.IndexByteString"], unfollowed := true, recurses := true, apart := false, narrowed := true }
def LexManyUptoSaid : Prop := lexManyUptoRow.holds Try.pinned (OpenSpec.upto lexManySpec)

/-- 'rowlocklaw15.LexJoined', WHERE WHAT IT READS IS OF BULK AT MOST 1048576: true; the input reads as it did. -/
def lexJoinedUptoRow : OpenClaim := { program := "ytbmfojeklhbocaa", sum := "0931e85068c665a6c6c608b47e02f1dbbcaf346b234361e79acba3d51c1b7c1f", func := "rowlock/rowlocklaw15.LexJoined", spec := "lexJoined", inPlace := ["internal/bytealg.IndexByteString"], unfollowed := true, recurses := true, apart := false, narrowed := true }
def LexJoinedUptoSaid : Prop := lexJoinedUptoRow.holds Try.pinned (OpenSpec.upto lexJoinedSpec)

/-- 'rowlocklaw19.SplitIs', WHERE WHAT IT READS IS OF BULK AT MOST 1048576: true; the input reads as it did. -/
def splitIsUptoRow : OpenClaim := { program := "ytbmfojeklhbocaa", sum := "0931e85068c665a6c6c608b47e02f1dbbcaf346b234361e79acba3d51c1b7c1f", func := "rowlock/rowlocklaw19.SplitIs", spec := "splitIs", recurses := true, loops := true, apart := false, narrowed := true }
def SplitIsUptoSaid : Prop := splitIsUptoRow.holds Try.pinned (OpenSpec.upto splitIsSpec)

/-- 'rowlocklaw19.SplitReady', WHERE WHAT IT READS IS OF BULK AT MOST 1048576: true; the input reads as it did. -/
def splitReadyUptoRow : OpenClaim := { program := "ytbmfojeklhbocaa", sum := "0931e85068c665a6c6c608b47e02f1dbbcaf346b234361e79acba3d51c1b7c1f", func := "rowlock/rowlocklaw19.SplitReady", spec := "splitReady", recurses := true, loops := true, apart := false, narrowed := true }
def SplitReadyUptoSaid : Prop := splitReadyUptoRow.holds Try.pinned (OpenSpec.upto splitReadySpec)

/-- 'rowlocklaw19.SplitOnce', WHERE WHAT IT READS IS OF BULK AT MOST 1048576: true; the input reads as it did. -/
def splitOnceUptoRow : OpenClaim := { program := "ytbmfojeklhbocaa", sum := "0931e85068c665a6c6c608b47e02f1dbbcaf346b234361e79acba3d51c1b7c1f", func := "rowlock/rowlocklaw19.SplitOnce", spec := "splitOnce", recurses := true, loops := true, apart := false, narrowed := true }
def SplitOnceUptoSaid : Prop := splitOnceUptoRow.holds Try.pinned (OpenSpec.upto splitOnceSpec)

end Rows
end Go.Proofs.Ytbmfojeklhbocaa
