/-
  Yj.
-/
import Derived.Test.YtebobcbaloddaaaGreatMfav
import Derived.Test.YtebobcbaloddaaaGreatMfaw
