/-
  Dh.
-/
import Derived.Test.YtebobcbaloddaaaGreatMoaf
import Derived.Test.YtebobcbaloddaaaGreatMoad
import Derived.Test.YtebobcbaloddaaaGreatMoac
import Derived.Deep.RegionHeld3
import Derived.BigGuardPart
import Derived.BigQuiet
namespace Go.Proofs.YtebobcbaloddaaaGreat
section
set_option linter.unusedSimpArgs false
set_option linter.unusedVariables false
open Go.RowKit
theorem zero_rep (n : Nat) : zeroBytes n = bV (List.replicate (n * 512) 0) := by
 apply Array.ext
 · simp [zeroBytes, bV_size, size_madeCells]
 · intro j h1 h2
   have hj : j < n * 512 := by simpa [zeroBytes, size_madeCells] using h1
   have : (bV (List.replicate (n * 512) 0))[j]? = some (.int .u8 ((0 : UInt8).toNat : Int)) := bV_at (by simp [hj])
   rw [Array.getElem?_eq_getElem h2] at this
   rw [Option.some.inj this]
   simp [zeroBytes, madeCells, Nat.mod_one]
end
end Go.Proofs.YtebobcbaloddaaaGreat
