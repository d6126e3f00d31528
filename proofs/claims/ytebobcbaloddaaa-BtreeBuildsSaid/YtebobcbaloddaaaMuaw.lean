/-
  Several texts in one: Yh.
-/
import Derived.Test.YtebobcbaloddaaaMuap
import Derived.Test.YtebobcbaloddaaaMual
import Derived.Test.YtebobcbaloddaaaMuak
