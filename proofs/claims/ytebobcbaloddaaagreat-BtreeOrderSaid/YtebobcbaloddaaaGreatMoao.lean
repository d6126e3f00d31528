/-
  St.
-/
import Derived.Test.YtebobcbaloddaaaGreatMoak
import Derived.Test.YtebobcbaloddaaaGreatMoac
namespace Go.Proofs.YtebobcbaloddaaaGreat
section
set_option linter.unusedSimpArgs false
set_option linter.unusedVariables false
open Go.RowKit Go.ChangeShapes Go.WideShapes Go.Deep
section
variable {H : Type} {enc : TypeId × Value → H} {P : Program} {w : World} {base : Nat} {spare : Nat → Bool} {held : Bool}
end
end
end Go.Proofs.YtebobcbaloddaaaGreat
