/-
  What heads of pages take from the disk's texts.
-/
import Derived.Test.YtgdipljaddodhaaBe
import Derived.Test.YtgdipljaddodhaaOw
namespace Go.Proofs.Ytgdipljaddodhaa
open Go.RowKit

theorem Blk.newAt {w : World} {t : TypeId} {cs : Array Value} {g : Nat} (h : g = w.heap.size) : Blk (w.alloc (.cells cs t)) g t cs := by subst h; exact Blk.new _ _ _
def zeroBytes (n : Nat) : Array Value := madeCells #[.int .u8 0] (n * 512)
theorem zero_rep (n : Nat) : zeroBytes n = bV (List.replicate (n * 512) 0) := by
  apply Array.ext
  · simp [zeroBytes, bV_size, size_madeCells]
  · intro j h1 h2
    have hj : j < n * 512 := by simpa [zeroBytes, size_madeCells] using h1
    have : (bV (List.replicate (n * 512) 0))[j]? = some (.int .u8 ((0 : UInt8).toNat : Int)) := bV_at (by simp [hj])
    rw [Array.getElem?_eq_getElem h2] at this
    rw [Option.some.inj this]
    simp [zeroBytes, madeCells, Nat.mod_one]
end Go.Proofs.Ytgdipljaddodhaa
