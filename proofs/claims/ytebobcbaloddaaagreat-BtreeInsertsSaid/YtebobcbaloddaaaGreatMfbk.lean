/-
  Zg.
-/
import Derived.Test.YtebobcbaloddaaaGreatMfbf
import Derived.Test.YtebobcbaloddaaaGreatMfbd
namespace Go.Proofs.YtebobcbaloddaaaGreat
section
set_option linter.unusedSimpArgs false
set_option linter.unusedVariables false
open Go.RowKit
end
end Go.Proofs.YtebobcbaloddaaaGreat
