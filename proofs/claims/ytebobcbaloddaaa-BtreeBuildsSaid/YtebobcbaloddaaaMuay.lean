/-
  Several texts in one: Yj.
-/
import Derived.Test.YtebobcbaloddaaaMuav
import Derived.Test.YtebobcbaloddaaaMuaw
