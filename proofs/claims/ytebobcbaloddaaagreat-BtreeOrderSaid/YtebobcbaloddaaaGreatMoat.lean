/-
  Dt.
-/
import Derived.Test.YtebobcbaloddaaaGreatMoaq
import Derived.Test.YtebobcbaloddaaaGreatMoak
import Derived.Deep.RegionWith
import Derived.Deep.RegionHeld3
import Derived.BigGuardPart
namespace Go.Proofs.YtebobcbaloddaaaGreat
section
set_option linter.unusedSimpArgs false
set_option linter.unusedVariables false
open Go.RowKit
end
end Go.Proofs.YtebobcbaloddaaaGreat
