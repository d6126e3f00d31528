/-
  Dv.
-/
import Derived.Test.YtebobcbaloddaaaGreatMoaq
import Derived.Test.YtebobcbaloddaaaGreatMoah
import Derived.BigGuardPart
namespace Go.Proofs.YtebobcbaloddaaaGreat
section
set_option linter.unusedSimpArgs false
set_option linter.unusedVariables false
open Go.RowKit
theorem newMarks_eq (L : List UInt8) (n : Nat) (h : 1 ≤ n) : newMarks n = tV (marksP L n 0) := by
 obtain ⟨k, rfl⟩ : ∃ k, n = k + 1 := ⟨n - 1, by omega⟩
 unfold newMarks marksP tV tL
 have : madeCells #[.bool false] (k + 1) = ((List.replicate (k + 1) (Value.bool false))).toArray := by
  apply Array.ext
  · simp [size_madeCells]
  · intro j h1 h2
    simp [madeCells, Nat.mod_one]
 rw [this, List.setIfInBounds_toArray]
 congr 1
 simp [marksOf, List.replicate_succ]
def RetDP (w : World) (n : Nat) (ps : List (List UInt8)) (T : List Bool) (e : Ending) (w' : World) : Prop :=
 ∃ g gb gt, e = .returned (.tuple #[.pointer (some ⟨g, 0, none⟩), .int .i64 0]) ∧ DP w' g gb gt n ps T ∧ w.heap.size ≤ g ∧ w.heap.size ≤ gb ∧ w.heap.size ≤ gt ∧ Below w.heap.size w w'
end
end Go.Proofs.YtebobcbaloddaaaGreat
