/-
  Zt Zu.
-/
import Derived.Test.YtebobcbaloddaaaGreatMoao
import Derived.Test.YtebobcbaloddaaaGreatMoak
import Derived.Test.YtebobcbaloddaaaGreatMobi
import Derived.Test.YtebobcbaloddaaaGreatMobk
import Derived.Test.YtebobcbaloddaaaGreatMoam
namespace Go.Proofs.YtebobcbaloddaaaGreat
section
set_option linter.unusedSimpArgs false
set_option linter.unusedVariables false
open Go.RowKit
theorem leafL_len (next : Nat) (l : List En) (hf : sumE l ≤ 504) : (leafL next l).length = 512 := by
 unfold leafL
 simp only [List.length_append, List.length_take, headL_len, sumE_len, List.length_replicate]
 omega
end
end Go.Proofs.YtebobcbaloddaaaGreat
namespace Go.Proofs.YtebobcbaloddaaaGreat
section
set_option linter.unusedSimpArgs false
set_option linter.unusedVariables false
open Go.RowKit
def noLeaf : Value := .tuple #[.int .u32 0, .slice none 0 0, .int .i64 2]
def noInner : Value := .tuple #[.slice none 0 0, .slice none 0 0, .int .i64 2]
section
variable (A : Option Addr) (n c : Nat) (L : List UInt8) (w : World)
def TriNone : Prop := (∀ W, Below w.heap.size w W → Calls Tryz.prog 99 #[.string (str L)] W (RetPgNo W)) ∧
 (∀ W, Below w.heap.size w W → Calls Tryz.prog 89 #[.slice A n c] W (RetB W noLeaf)) ∧ (∀ W, Below w.heap.size w W → Calls Tryz.prog 90 #[.slice A n c] W (RetB W noInner))
end
end
end Go.Proofs.YtebobcbaloddaaaGreat
