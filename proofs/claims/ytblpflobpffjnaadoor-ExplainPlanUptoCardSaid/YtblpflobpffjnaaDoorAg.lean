
/-
  A value of three cells in a block of its own: its cells and marks, carried behind calls and new blocks.
-/
import Derived.Test.YtblpflobpffjnaaDoorOpen
import Derived.Test.YtblpflobpffjnaaDoorProg
namespace Go.Proofs.YtblpflobpffjnaaDoor
open Go.RowKit

/-- Block b holds a value's three cells, and they may be written. -/
def At3 (w : World) (b : Nat) (k i : Int) (s : ByteArray) : Prop :=
  w.cell? ⟨b, 0, none⟩ = some (.int .u8 k) ∧ w.cell? ⟨b, 1, none⟩ = some (.int .i64 i) ∧ w.cell? ⟨b, 2, none⟩ = some (.string s) ∧
  w.frozen? ⟨b, 0, none⟩ = false ∧ w.frozen? ⟨b, 1, none⟩ = false ∧ w.frozen? ⟨b, 2, none⟩ = false
section
variable {w w' : World} {B b : Nat} {k i : Int} {s : ByteArray}
theorem At3.below (h : At3 w b k i s) (hb : Below B w w') (hB : b < B) : At3 w' b k i s := by
  obtain ⟨h0, h1, h2, h3, h4, h5⟩ := h
  exact ⟨(hb.cell (p := ⟨b, 0, none⟩) hB).trans h0, (hb.cell (p := ⟨b, 1, none⟩) hB).trans h1, (hb.cell (p := ⟨b, 2, none⟩) hB).trans h2,
    (hb.frozen (p := ⟨b, 0, none⟩) hB).trans h3, (hb.frozen (p := ⟨b, 1, none⟩) hB).trans h4, (hb.frozen (p := ⟨b, 2, none⟩) hB).trans h5⟩
theorem At3.lt (h : At3 w b k i s) : b < w.heap.size := cell_block h.1
theorem At3.below0 (h : At3 w b k i s) (hb : Below w.heap.size w w') : At3 w' b k i s := h.below hb h.lt
theorem At3.alloc (h : At3 w b k i s) (o : Obj) : At3 (w.alloc o) b k i s := h.below0 ((Below.refl _ w).alloc (Nat.le_refl _) o)
theorem At3.new (w : World) (k i : Int) (s : ByteArray) (e : TypeId) : At3 (w.alloc (.cells #[.int .u8 k, .int .i64 i, .string s] e)) w.heap.size k i s := by
  refine ⟨?_, ?_, ?_, ?_, ?_, ?_⟩
  · rw [World.cell?_alloc_at _ _ _ _ rfl]; rfl
  · rw [World.cell?_alloc_at _ _ _ _ rfl]; rfl
  · rw [World.cell?_alloc_at _ _ _ _ rfl]; rfl
  all_goals exact World.frozen?_alloc_new _ _ _ _
end
end Go.Proofs.YtblpflobpffjnaaDoor
