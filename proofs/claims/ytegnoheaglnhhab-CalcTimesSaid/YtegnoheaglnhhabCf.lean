/-
  Contracts of calc: Times where the product has one word; the chapter's examples.
-/
import Derived.Test.YtegnoheaglnhhabCb
namespace Go.Proofs.Ytegnoheaglnhhab
open Go.RowKit

theorem two_ints {k k' : IntKind} {a b a' b' : Int} (h : a = a') (g : b = b') : Ending.returned (.tuple #[.int k a, .int k' b]) = .returned (.tuple #[.int k a', .int k' b']) := by rw [h, g]
theorem div_lo (y c : Nat) (w : World) (hy : y < 18446744073709551616) (hc0 : 0 < c) (hc : c < 18446744073709551616) :
    Calls Try.prog 22 #[.int .u64 0, .int .u64 y, .int .u64 c] w fun e w' => e = .returned (.tuple #[.int .u64 ((y / c : Nat) : Int), .int .u64 ((y % c : Nat) : Int)]) ∧ ∃ m, w' = w.drewN m := by
  have hq : IntKind.u64.wrap ((y : Int) / c) = ((y / c : Nat) : Int) := by
    have h1 : y / c ≤ y := Nat.div_le_self _ _
    rw [wrapu, ← Int.natCast_ediv]
    generalize y / c = d at *
    omega
  have Hq := Lib.hid hq; clear hq
  go_enter Try.func22, Try.ntmps22
  go_wp2
  go_quiet (fail)
  go_wp2
  go_ret2
  exact ⟨two_ints Hq.out rfl, _, rfl⟩
theorem times_678 (w : World) : Calls Try.prog 9 #[.int .u64 6, .int .u64 7, .int .u64 5] w fun e w' => e = .returned (.int .u64 8) ∧ ∃ m, w' = w.drewN m := by
  have m := Try.bits_Mul64 6 7 (by decide) (by decide)
  have d := fun w => div_lo 42 5 w (by decide) (by decide) (by decide)
  go_enter Try.func9, Try.ntmps9
  go_wp2_with (first
    | (go_at_call 21; refine (m _).mono ?_; rintro e w' ⟨rfl, rfl⟩)
    | (go_at_call 22; refine (d _).mono ?_; rintro e w' ⟨rfl, m, rfl⟩))
  go_ret
  exact ⟨rfl, _, rfl⟩
theorem sum_31 (w : World) (e : TypeId) (g : Nat) (hg : g = w.heap.size) : Calls Try.prog 7 #[.slice (some ⟨g, 0, none⟩) 3 3] (w.alloc (.cells #[.int .i64 9223372036854775807, .int .i64 1, .int .i64 (-1)] e)) fun e' w' => e' = .returned (.tuple #[.int .i64 9223372036854775807, .bool true]) ∧ w.alloc (.cells #[.int .i64 9223372036854775807, .int .i64 1, .int .i64 (-1)] e) = w' := by
  have h := csum_any _ 3 3 [9223372036854775807, 1, -1] _ _ (reads_at w #[.int .i64 9223372036854775807, .int .i64 1, .int .i64 (-1)] e hg rfl rfl) (by intro x hx; simp at hx; unfold rngP; omega) (by omega)
  exact h
theorem add_over (w : World) : Calls Try.prog 14 #[.int .i64 9223372036854775807, .int .i64 1] w fun e w' => e = .returned (.tuple #[.int .i64 0, .bool false]) ∧ w = w' :=
  add_any 9223372036854775807 1 w ⟨by omega, by omega⟩ ⟨by omega, by omega⟩
theorem cfixed_any (w : World) : Calls Try.prog 6 #[] w (RetB w (.bool true)) := by
  go_enter Try.func6, Try.ntmps6
  go_wp2_with (first
    | (go_at_call 14; refine (add_over _).mono ?_; rintro e w' ⟨rfl, rfl⟩)
    | (go_at_call 7; refine (sum_31 _ _ _ (by simp)).mono ?_; rintro e w' ⟨rfl, rfl⟩)
    | (go_at_call 9; refine (times_678 _).mono ?_; rintro e w' ⟨rfl, m, rfl⟩))
  go_ret
  exact ⟨rfl, bdr ((Below.refl _ _).alloc (Nat.le_refl _) _) _⟩

end Go.Proofs.Ytegnoheaglnhhab
