/-
  Oc.
-/
import Derived.Test.YtebobcbaloddaaaGreatMoak
import Derived.Deep.QuietTactic
import Derived.Lib.SliceRun
import Derived.Deep.Upon
namespace Go.Proofs.YtebobcbaloddaaaGreat
section
set_option linter.unusedSimpArgs false
set_option linter.unusedVariables false
set_option linter.unusedSimpArgs false
set_option linter.unusedVariables false
open Go.RowKit
end
end Go.Proofs.YtebobcbaloddaaaGreat
