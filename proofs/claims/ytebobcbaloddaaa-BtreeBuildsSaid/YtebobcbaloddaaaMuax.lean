/-
  Several texts in one: Dw.
-/
import Derived.Test.YtebobcbaloddaaaMuas
import Derived.Test.YtebobcbaloddaaaMuat
/-
  The law's same: a disk that shows the reference's.
-/
namespace Go.Proofs.Ytebobcbaloddaaa
section
set_option linter.unusedSimpArgs false
set_option linter.unusedVariables false
open Go.RowKit

theorem str_app (a b : List UInt8) : str a ++ str b = str (a ++ b) := by
  apply ByteArray.ext
  apply Array.toList_inj.1
  simp [str]
theorem flat_take (ps : List (List UInt8)) (k : Nat) (p : List UInt8) (h : ps[k]? = some p) : (ps.take (k + 1)).flatten = (ps.take k).flatten ++ p := by
  rw [List.take_add_one, h]; simp
end
end Go.Proofs.Ytebobcbaloddaaa
