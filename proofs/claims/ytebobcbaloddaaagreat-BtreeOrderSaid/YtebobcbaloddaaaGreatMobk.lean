/-
  Zg.
-/
import Derived.Test.YtebobcbaloddaaaGreatMobf
import Derived.Test.YtebobcbaloddaaaGreatMobd
namespace Go.Proofs.YtebobcbaloddaaaGreat
section
set_option linter.unusedSimpArgs false
set_option linter.unusedVariables false
open Go.RowKit
end
end Go.Proofs.YtebobcbaloddaaaGreat
