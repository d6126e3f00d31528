/-
  StatsNumbers: the walk, the chapter's example given.
-/
import Derived.Test.YtcflblgbgoldlaaUj
set_option linter.unusedSimpArgs false
set_option linter.unusedVariables false
namespace Go.Proofs.Ytcflblgbgoldlaa
open Go.RowKit

set_option maxHeartbeats 400000 in
theorem statsNumbers_of (FX : ∀ W : World, Calls Try.prog 4 #[] W (RetB W (.bool true))) (a b : Nat) (ha : a < 18446744073709551616) (hb : b < 18446744073709551616) (w : World) :
    Calls Try.prog 3 #[.int .u64 a, .int .u64 b] w (RetB w (.bool true)) := by
  have F := Lib.hid FX
  have SA := Lib.hid fun W => sadd_any a b ha hb W
  have RA := Lib.hid fun W => radd_any a b ha hb W
  have SM := Lib.hid fun W => smul_any a b ha hb W
  have RM := Lib.hid fun W => rmul_any a b ha hb W
  clear FX ha hb
  obtain ⟨X, hX⟩ : ∃ X, capN (a + b) = X := ⟨_, rfl⟩
  obtain ⟨Y, hY⟩ : ∃ Y, capN (a * b) = Y := ⟨_, rfl⟩
  rw [hX] at SA RA
  rw [hY] at SM RM
  clear hX hY
  go_enter Try.func3, Try.ntmps3
  go_wp2_with fail
  refine (F.out _).mono ?_
  rintro e w1 ⟨rfl, hb1⟩
  go_wp2_with fail
  refine (SA.out _).mono ?_
  rintro e w2 ⟨rfl, rfl⟩
  go_wp2_with fail
  refine (RA.out _).mono ?_
  rintro e w3 ⟨rfl, hb3⟩
  go_wp2_with fail
  refine (SM.out _).mono ?_
  rintro e w4 ⟨rfl, rfl⟩
  go_wp2_with fail
  refine (RM.out _).mono ?_
  rintro e w5 ⟨rfl, hb5⟩
  go_wp2
  go_ret
  exact ⟨rfl, bto0 (bto0 hb1 hb3) hb5⟩
end Go.Proofs.Ytcflblgbgoldlaa
