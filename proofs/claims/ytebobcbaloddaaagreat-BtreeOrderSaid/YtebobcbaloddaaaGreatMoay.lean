/-
  Yj.
-/
import Derived.Test.YtebobcbaloddaaaGreatMoav
import Derived.Test.YtebobcbaloddaaaGreatMoaw
