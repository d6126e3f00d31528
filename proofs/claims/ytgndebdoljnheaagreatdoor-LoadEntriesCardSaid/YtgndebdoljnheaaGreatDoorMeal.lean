/-
  Several texts in one: Mx.
-/
import Derived.Test.YtgndebdoljnheaaGreatDoorMeae
import Derived.Test.YtgndebdoljnheaaGreatDoorShelf
import Derived.Test.YtgndebdoljnheaaGreatDoorProg
import Derived.Lib.ReplaceLaws
/-
  What the library's variable holds, kept behind a call that leaves old memory; strings.ReplaceAll at short texts.
-/
namespace Go.Proofs.YtgndebdoljnheaaGreatDoor
section
set_option linter.unusedSimpArgs false
set_option linter.unusedVariables false
open Go.RowKit

/-- The library's own number (internal/bytealg.MaxLen) stands in its cell. -/
def MaxC (w : World) : Prop := ∃ m, w.cell? ⟨0, 0, none⟩ = some (.int .i64 m)
theorem MaxC.lt {w : World} (h : MaxC w) : 0 < w.heap.size := by obtain ⟨m, hm⟩ := h; exact cell_block hm
theorem MaxC.below {w w' : World} {B : Nat} (h : MaxC w) (hb : Below B w w') (hB : 0 < B) : MaxC w' := by
  obtain ⟨m, hm⟩ := h
  exact ⟨m, (hb.cell (p := ⟨0, 0, none⟩) hB).trans hm⟩
theorem MaxC.below0 {w w' : World} (h : MaxC w) (hb : Below w.heap.size w w') : MaxC w' := h.below hb h.lt

def repA (s old new : List UInt8) : ByteArray := ⟨(Lib.replaceAll s old new).toArray⟩
theorem repl_any (s old new : ByteArray) (w : World) (hm : MaxC w) (h1 : 1 ≤ old.size) (hs : s.size ≤ 10000) (hn : new.size ≤ 2) :
    Calls Tryz.prog 120 #[.string s, .string old, .string new] w (RetB w (.string (repA s.data.toList old.data.toList new.data.toList))) := by
  obtain ⟨m, hm⟩ := hm
  refine (Tryz.strings_ReplaceAll s old new m w (by omega) hm h1 ?_).mono fun e w' ⟨h1, h2⟩ => ⟨h1, h2⟩
  have := Lib.countB_le old h1 s.size s (Nat.le_refl _)
  have : Lib.countB s old * new.size ≤ 10000 * 2 := Nat.mul_le_mul (by omega) hn
  omega
end
end Go.Proofs.YtgndebdoljnheaaGreatDoor
