/-
  calc's Times at one small product.
-/
import Derived.Test.YtcflblgbgoldlaaMem
import Derived.Test.YtcflblgbgoldlaaShelf
import Derived.IntWalk
import Derived.WalkSpells
import Derived.WalkLawsBesides
import Derived.Laws.Externs
import Derived.Deep.QuietTactic
import Derived.BigQuiet
namespace Go.Proofs.Ytcflblgbgoldlaa
open Go.RowKit

theorem wrapu0 (n : Int) : IntKind.u64.wrap n = n % 18446744073709551616 := by
  simp [IntKind.wrap, IntKind.signed, IntKind.bits]
theorem two_ints {k k' : IntKind} {a b a' b' : Int} (h : a = a') (g : b = b') : Ending.returned (.tuple #[.int k a, .int k' b]) = .returned (.tuple #[.int k a', .int k' b']) := by rw [h, g]
theorem div_lo (y c : Nat) (w : World) (hy : y < 18446744073709551616) (hc0 : 0 < c) (hc : c < 18446744073709551616) :
    Calls Try.prog 32 #[.int .u64 0, .int .u64 y, .int .u64 c] w fun e w' => e = .returned (.tuple #[.int .u64 ((y / c : Nat) : Int), .int .u64 ((y % c : Nat) : Int)]) ∧ ∃ m, w' = w.drewN m := by
  have hq : IntKind.u64.wrap ((y : Int) / c) = ((y / c : Nat) : Int) := by
    have h1 : y / c ≤ y := Nat.div_le_self _ _
    rw [wrapu0, ← Int.natCast_ediv]
    generalize y / c = d at *
    omega
  have Hq := Lib.hid hq; clear hq
  go_enter Try.func32, Try.ntmps32
  go_wp2
  go_quiet (fail)
  go_wp2
  go_ret2
  exact ⟨two_ints Hq.out rfl, _, rfl⟩
theorem times_100 (w : World) : Calls Try.prog 23 #[.int .u64 100, .int .u64 1, .int .u64 20] w fun e w' => e = .returned (.int .u64 5) ∧ ∃ m, w' = w.drewN m := by
  have m := Try.bits_Mul64 100 1 (by decide) (by decide)
  have d := fun w => div_lo 100 20 w (by decide) (by decide) (by decide)
  go_enter Try.func23, Try.ntmps23
  go_wp2_with (first
    | (go_at_call 14; refine (m _).mono ?_; rintro e w' ⟨rfl, rfl⟩)
    | (go_at_call 32; refine (d _).mono ?_; rintro e w' ⟨rfl, m, rfl⟩))
  go_ret
  exact ⟨rfl, _, rfl⟩
end Go.Proofs.Ytcflblgbgoldlaa
