/-
  Several texts in one: Dv.
-/
import Derived.Test.YtebobcbaloddaaaMuaq
import Derived.Test.YtebobcbaloddaaaMuah
import Derived.BigGuardPart
/-
  The disk's Load.
-/
namespace Go.Proofs.Ytebobcbaloddaaa
section
set_option linter.unusedSimpArgs false
set_option linter.unusedVariables false
open Go.RowKit

theorem new_bad (n : Int) (h : n < 1 ∨ 4096 < n) (w : World) : Calls Try.prog 7 #[.int .i64 n] w fun e w' => e = .returned (.tuple #[.pointer none, .int .i64 1]) ∧ w = w' := by
  by_cases h1 : n < 1
  · go_enter Try.func7, Try.ntmps7
    go_wp2
    go_ret2
    exact ⟨rfl, rfl⟩
  · have h2 : 4096 < n := by omega
    go_enter Try.func7, Try.ntmps7
    go_wp2
    go_ret2
    exact ⟨rfl, rfl⟩
theorem Dk.drew_ {w : World} {g gb gt n : Nat} {bs ts : Array Value} (h : Dk w g gb gt n bs ts) : Dk w.drew g gb gt n bs ts := ⟨h.d.drew, h.b.drew, h.t.drew, h.hb, h.ht⟩
theorem newMarks_eq (L : List UInt8) (n : Nat) (h : 1 ≤ n) : newMarks n = tV (marksP L n 0) := by
  obtain ⟨k, rfl⟩ : ∃ k, n = k + 1 := ⟨n - 1, by omega⟩
  unfold newMarks marksP tV tL
  have : madeCells #[.bool false] (k + 1) = ((List.replicate (k + 1) (Value.bool false))).toArray := by
    apply Array.ext
    · simp [size_madeCells]
    · intro j h1 h2
      simp [madeCells, Nat.mod_one]
  rw [this, List.setIfInBounds_toArray]
  congr 1
  simp [marksOf, List.replicate_succ]
def RetDP (w : World) (n : Nat) (ps : List (List UInt8)) (T : List Bool) (e : Ending) (w' : World) : Prop :=
  ∃ g gb gt, e = .returned (.tuple #[.pointer (some ⟨g, 0, none⟩), .int .i64 0]) ∧ DP w' g gb gt n ps T ∧ w.heap.size ≤ g ∧ w.heap.size ≤ gb ∧ w.heap.size ≤ gt ∧ Below w.heap.size w w'
end
end Go.Proofs.Ytebobcbaloddaaa
