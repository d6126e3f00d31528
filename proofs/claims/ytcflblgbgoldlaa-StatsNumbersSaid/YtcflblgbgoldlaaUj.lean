/-
  Add and Mul of the program.
-/
import Derived.Test.YtcflblgbgoldlaaUi
set_option linter.unusedSimpArgs false
set_option linter.unusedVariables false
namespace Go.Proofs.Ytcflblgbgoldlaa
open Go.RowKit

theorem add64_any (x y c : Int) (hx : 0 ≤ x ∧ x ≤ 18446744073709551615) (hy : 0 ≤ y ∧ y ≤ 18446744073709551615) (hc : 0 ≤ c ∧ c ≤ 1) (w : World) : (callFunc 10 #[.int .u64 x, .int .u64 y, .int .u64 c]).run Try.prog w =
    .ok (.value (.tuple #[.int .u64 ((x + y + c) % 18446744073709551616), .int .u64 ((x + y + c) / 18446744073709551616)])) w := by
  rw [run_callFunc_extern Try.func10 (by kernel_rfl) (by kernel_rfl) (by kernel_rfl) (e := add64Entry) (by kernel_rfl)]
  rw [run_add64 x y c hx.1 hy.1 hc.1 hc.2]
  rfl

theorem add64_hid (x y c : Int) (hx : 0 ≤ x ∧ x ≤ 18446744073709551615) (hy : 0 ≤ y ∧ y ≤ 18446744073709551615) (hc : 0 ≤ c ∧ c ≤ 1) : ∃ S C : Nat, (∀ w, (callFunc 10 #[.int .u64 x, .int .u64 y, .int .u64 c]).run Try.prog w = .ok (.value (.tuple #[.int .u64 S, .int .u64 C])) w) ∧ (S : Int) = (x + y + c) % 18446744073709551616 ∧ (C : Int) = (x + y + c) / 18446744073709551616 ∧ C ≤ 1 ∧ S < 18446744073709551616 := by
  refine ⟨((x + y + c) % 18446744073709551616).toNat, ((x + y + c) / 18446744073709551616).toNat, fun w => ?_, by omega, by omega, by omega, by omega⟩
  rw [add64_any x y c hx hy hc w]
  have h1 : ((((x + y + c) % 18446744073709551616).toNat : Nat) : Int) = (x + y + c) % 18446744073709551616 := by omega
  have h2 : ((((x + y + c) / 18446744073709551616).toNat : Nat) : Int) = (x + y + c) / 18446744073709551616 := by omega
  rw [h1, h2]

set_option maxHeartbeats 400000 in
theorem sadd_any (a b : Nat) (ha : a < 18446744073709551616) (hb : b < 18446744073709551616) (w : World) :
    Calls Try.prog 5 #[.int .u64 a, .int .u64 b] w fun e w' => e = .returned (.int .u64 (capN (a + b) : Nat)) ∧ w = w' := by
  obtain ⟨S, C, e1, e2, e3, e4, e5⟩ := add64_hid a b 0 (by omega) (by omega) (by omega)
  by_cases hC : 0 < C
  · have hr : Hid (capN (a + b) = 18446744073709551615) := Lib.hid (by unfold capN; rw [if_neg (by omega)])
    have c1 : (0 : Int) < (C : Int) := by omega
    clear e2 e3 e4 e5 ha hb hC
    go_enter Try.func5, Try.ntmps5
    go_wp2
    go_ret
    exact ⟨by rw [hr.out]; rfl, rfl⟩
  · obtain rfl : C = 0 := by omega
    have hr : Hid (capN (a + b) = S) := Lib.hid (by unfold capN; rw [if_pos (by omega)]; omega)
    clear e2 e3 e4 e5 ha hb hC
    go_enter Try.func5, Try.ntmps5
    go_wp2
    go_ret
    exact ⟨by rw [hr.out]; rfl, rfl⟩
set_option maxHeartbeats 400000 in
theorem smul_any (a b : Nat) (ha : a < 18446744073709551616) (hb : b < 18446744073709551616) (w : World) :
    Calls Try.prog 7 #[.int .u64 a, .int .u64 b] w fun e w' => e = .returned (.int .u64 (capN (a * b) : Nat)) ∧ w = w' := by
  have m := fun W => Try.bits_Mul64 a b ha hb W
  obtain ⟨P, hP⟩ : ∃ P, a * b = P := ⟨_, rfl⟩
  rw [hP] at m ⊢
  have hh := Nat.div_add_mod P 18446744073709551616
  have hl := Nat.mod_lt P (by omega : 0 < 18446744073709551616)
  obtain ⟨H, hH⟩ : ∃ H, P / 18446744073709551616 = H := ⟨_, rfl⟩
  obtain ⟨L, hL⟩ : ∃ L, P % 18446744073709551616 = L := ⟨_, rfl⟩
  rw [hH, hL] at m hh
  rw [hL] at hl
  have M := Lib.hid m
  clear m hH hL hP
  by_cases hC : 0 < H
  · have hr : Hid (capN P = 18446744073709551615) := Lib.hid (by unfold capN; rw [if_neg (by omega)])
    have c1 : (0 : Int) < (H : Int) := by omega
    clear ha hb hC hh hl
    go_enter Try.func7, Try.ntmps7
    go_wp2_with (go_at_call 14; refine (M.out _).mono ?_; rintro e w' ⟨rfl, rfl⟩)
    go_ret
    exact ⟨by rw [hr.out]; rfl, rfl⟩
  · obtain rfl : H = 0 := by omega
    have hr : Hid (capN P = L) := Lib.hid (by unfold capN; rw [if_pos (by omega)]; omega)
    clear ha hb hC hh hl
    go_enter Try.func7, Try.ntmps7
    go_wp2_with (go_at_call 14; refine (M.out _).mono ?_; rintro e w' ⟨rfl, rfl⟩)
    go_ret
    exact ⟨by rw [hr.out]; rfl, rfl⟩
end Go.Proofs.Ytcflblgbgoldlaa
