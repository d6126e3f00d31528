/-
  Add and Mul of the reference and of the program.
-/
import Derived.Test.YtcflblgbgoldlaaUh
import Derived.Test.YtcflblgbgoldlaaUs
import Derived.Laws.Externs
set_option linter.unusedSimpArgs false
set_option linter.unusedVariables false
namespace Go.Proofs.Ytcflblgbgoldlaa
open Go.RowKit

theorem natOf {sg : Int} {x P : Nat} (h : sg = 1 ∨ sg = -1) (e : sg * (x : Int) = (P : Int)) : x = P := by
  rcases h with rfl | rfl <;> omega
theorem ones (x y : Nat) : (1 : Int) * (x : Int) * (1 * (y : Int)) = ((x * y : Nat) : Int) := by rw [Int.one_mul, Int.one_mul, Int.natCast_mul]
set_option maxHeartbeats 1000000 in
theorem rmul_any (a b : Nat) (ha : a < 18446744073709551616) (hb : b < 18446744073709551616) (w : World) :
    Calls Try.prog 8 #[.int .u64 a, .int .u64 b] w (RetB w (.int .u64 (capN (a * b) : Nat))) := by
  have WA := Lib.hid fun W => whole_any a ha W
  have WB := Lib.hid fun W => whole_any b hb W
  clear ha hb
  go_enter Try.func8, Try.ntmps8
  go_wp2_with fail
  refine (WA.out _).mono ?_
  rintro e w1 ⟨v1, rfl, ⟨A1, n1, c1, l1, rfl, hr1, hnc1, hnm1, hok1, hdv1, hl1⟩, hb1⟩
  have Hdv1 := Lib.hid hdv1
  clear hdv1 hl1
  go_wp2_with fail
  refine (WB.out _).mono ?_
  rintro e w2 ⟨v2, rfl, ⟨A2, n2, c2, l2, rfl, hr2, hnc2, hnm2, hok2, hdv2, hl2⟩, hb2⟩
  have Hdv2 := Lib.hid hdv2
  clear hdv2 hl2
  go_wp2_with fail
  refine (times_any 1 1 (.inl rfl) (.inl rfl) A1 n1 c1 l1 A2 n2 c2 l2 _ (hr1.up hb2) hr2 hok1 hok2 (by omega) (by omega)).mono ?_
  rintro e w3 ⟨v3, sg3, x3, rfl, hsg3, hval3, ⟨A3, n3, c3, l3, rfl, hr3, hnc3, hnm3, hok3, hdv3, hl3⟩, hb3⟩
  rw [← hdv3] at hval3
  have HX3 : Hid (dv l3 = a * b) := Lib.hid (natOf hsg3 (by rw [hval3, ones, Hdv1.out, Hdv2.out]))
  clear hdv3 hval3 hl3
  go_wp2_with fail
  refine (capped_any sg3 A3 n3 c3 l3 _ hr3 hok3 (by omega)).mono ?_
  rintro e w4 ⟨rfl, hb4⟩
  rw [HX3.out]
  go_wp2
  go_ret
  exact ⟨rfl, bto0 (bto0 (bto0 hb1 hb2) hb3) hb4⟩
set_option maxHeartbeats 1000000 in
theorem radd_any (a b : Nat) (ha : a < 18446744073709551616) (hb : b < 18446744073709551616) (w : World) :
    Calls Try.prog 6 #[.int .u64 a, .int .u64 b] w (RetB w (.int .u64 (capN (a + b) : Nat))) := by
  have WA := Lib.hid fun W => whole_any a ha W
  have WB := Lib.hid fun W => whole_any b hb W
  clear ha hb
  go_enter Try.func6, Try.ntmps6
  go_wp2_with fail
  refine (WA.out _).mono ?_
  rintro e w1 ⟨v1, rfl, ⟨A1, n1, c1, l1, rfl, hr1, hnc1, hnm1, hok1, hdv1, hl1⟩, hb1⟩
  have Hdv1 := Lib.hid hdv1
  clear hdv1 hl1
  go_wp2_with fail
  refine (WB.out _).mono ?_
  rintro e w2 ⟨v2, rfl, ⟨A2, n2, c2, l2, rfl, hr2, hnc2, hnm2, hok2, hdv2, hl2⟩, hb2⟩
  have Hdv2 := Lib.hid hdv2
  clear hdv2 hl2
  go_wp2_with fail
  refine (plus_any 1 1 (.inl rfl) (.inl rfl) A1 n1 c1 l1 A2 n2 c2 l2 _ (hr1.up hb2) hr2 hok1 hok2 (by omega) (by omega) hnc1 hnc2).mono ?_
  rintro e w3 ⟨v3, sg3, x3, rfl, hsg3, hval3, ⟨A3, n3, c3, l3, rfl, hr3, hnc3, hnm3, hok3, hdv3, hl3⟩, hb3⟩
  rw [← hdv3] at hval3
  have HX3 : Hid (dv l3 = a + b) := Lib.hid (natOf hsg3 (by rw [hval3, Hdv1.out, Hdv2.out]; omega))
  clear hdv3 hval3 hl3
  go_wp2_with fail
  refine (capped_any sg3 A3 n3 c3 l3 _ hr3 hok3 (by omega)).mono ?_
  rintro e w4 ⟨rfl, hb4⟩
  rw [HX3.out]
  go_wp2
  go_ret
  exact ⟨rfl, bto0 (bto0 (bto0 hb1 hb2) hb3) hb4⟩
end Go.Proofs.Ytcflblgbgoldlaa
