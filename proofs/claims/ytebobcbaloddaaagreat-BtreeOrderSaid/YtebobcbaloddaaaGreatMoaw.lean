/-
  Yh.
-/
import Derived.Test.YtebobcbaloddaaaGreatMoap
import Derived.Test.YtebobcbaloddaaaGreatMoal
import Derived.Test.YtebobcbaloddaaaGreatMoak
