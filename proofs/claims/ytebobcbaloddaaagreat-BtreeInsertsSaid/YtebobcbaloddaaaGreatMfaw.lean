/-
  Yh.
-/
import Derived.Test.YtebobcbaloddaaaGreatMfap
import Derived.Test.YtebobcbaloddaaaGreatMfal
import Derived.Test.YtebobcbaloddaaaGreatMfak
