/-
  Several texts in one: Zg.
-/
import Derived.Test.YtebobcbaloddaaaMubf
import Derived.Test.YtebobcbaloddaaaMubd
/-
  Leaf pages: the law LeafPuts: its walk.
-/
namespace Go.Proofs.Ytebobcbaloddaaa
section
set_option linter.unusedSimpArgs false
set_option linter.unusedVariables false
open Go.RowKit

theorem greatE_of (A : Option Addr) (n c : Nat) (l : List En) (w : World) (hr : Reads w w.heap.size 3 A n (vE l)) (hok : ∀ e ∈ l, e.ok) (hn : n ≤ maxLen) (b : Bool) (hg : grE 0 l = b) (W : World) (hb : Below w.heap.size w W) :
    Calls Try.prog 4 #[.slice A n c] W fun e w' => e = .returned (.bool b) ∧ W = w' := by
  have := greatE_any A n c l W w.heap.size (hr.below hb) (fun v hv => (hok v hv).1) hn
  rwa [hg] at this
end
end Go.Proofs.Ytebobcbaloddaaa
