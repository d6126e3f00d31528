
/-
  Contracts of calc: Mul, Sum, Times at a small product; the chapter's examples.
-/
import Derived.Test.YthpggfcindnlcaaGreatDoorCa
import Derived.Laws.Externs
import Derived.Deep.QuietTactic
import Derived.BigQuiet
set_option linter.unusedSimpArgs false
set_option linter.unusedVariables false
namespace Go.Proofs.YthpggfcindnlcaaGreatDoor
open Go.RowKit

theorem abs_lt {a : Int} (h : rngP a) : a.natAbs < 18446744073709551616 := by obtain ⟨h0, h1⟩ := h; omega
theorem prod_sign (a b : Int) : a * b = if (a < 0) ↔ (b < 0) then ((a.natAbs * b.natAbs : Nat) : Int) else -((a.natAbs * b.natAbs : Nat) : Int) := by
  rcases Int.natAbs_eq a with h | h <;> rcases Int.natAbs_eq b with k | k
  · by_cases ha : a < 0
    · omega
    · by_cases hb : b < 0
      · omega
      · simp only [ha, hb, iff_self, if_true]
        rw [h, k]; simp
  · by_cases hb : b < 0
    · by_cases ha : a < 0
      · omega
      · simp only [ha, hb, iff_true, if_false]
        rw [Int.natCast_mul, ← h]
        have : ((b.natAbs : Nat) : Int) = -b := by omega
        rw [this, Int.mul_neg, Int.neg_neg]
    · have : b = 0 := by omega
      subst this; simp
  · by_cases ha : a < 0
    · by_cases hb : b < 0
      · omega
      · simp only [ha, hb, true_iff, if_false]
        rw [Int.natCast_mul, ← k]
        have : ((a.natAbs : Nat) : Int) = -a := by omega
        rw [this, Int.neg_mul, Int.neg_neg]
    · have : a = 0 := by omega
      subst this; simp
  · have e1 : ((a.natAbs : Nat) : Int) = -a := by omega
    have e2 : ((b.natAbs : Nat) : Int) = -b := by omega
    rw [Int.natCast_mul, e1, e2, Int.neg_mul_neg]
    by_cases ha : a < 0 <;> by_cases hb : b < 0 <;> simp only [ha, hb, iff_self, if_true, iff_false, iff_true, not_true, if_false]
    · have : b = 0 := by omega
      subst this; simp
    · have : a = 0 := by omega
      subst this; simp

theorem wneg (L : Int) (h0 : 0 ≤ L) (h1 : L ≤ 9223372036854775808) : Ending.returned (.tuple #[.int .i64 (wrap64 (IntKind.u64.wrap (-L))), .bool true]) = .returned (.tuple #[.int .i64 (-L), .bool true]) := by
  have : wrap64 (IntKind.u64.wrap (-L)) = -L := by rw [wrapu]; unfold wrap64; omega
  rw [this]

set_option maxHeartbeats 400000 in
theorem mul_any (a b : Int) (w : World) (ha : rngP a) (hb : rngP b) :
    Calls Tryz.prog 112 #[.int .i64 a, .int .i64 b] w fun e w' => e = .returned (numR (a * b)) ∧ w = w' := by
  have m := Tryz.bits_Mul64 a.natAbs b.natAbs (abs_lt ha) (abs_lt hb)
  have p := prod_sign a b
  obtain ⟨P, hP⟩ : ∃ P, a.natAbs * b.natAbs = P := ⟨_, rfl⟩
  rw [hP] at m p
  have hh := Nat.div_add_mod P 18446744073709551616
  have hl := Nat.mod_lt P (by omega : 0 < 18446744073709551616)
  obtain ⟨H, hH⟩ : ∃ H, P / 18446744073709551616 = H := ⟨_, rfl⟩
  obtain ⟨L, hL⟩ : ∃ L, P % 18446744073709551616 = L := ⟨_, rfl⟩
  rw [hH, hL] at m hh
  rw [hL] at hl
  have c1 := size_c a w ha
  have c2 := size_c b w hb
  obtain ⟨x, hx⟩ : ∃ x, a.natAbs = x := ⟨_, rfl⟩
  obtain ⟨y, hy⟩ : ∃ y, b.natAbs = y := ⟨_, rfl⟩
  rw [hx] at c1 m
  rw [hy] at c2 m
  have M := Lib.hid m
  have C1 := Lib.hid c1
  have C2 := Lib.hid c2
  have key : ∀ r : Value, (if (a < 0 ↔ b < 0) then (if H = 0 ∧ L < 9223372036854775808 then r = .tuple #[.int .i64 L, .bool true] else r = .tuple #[.int .i64 0, .bool false]) else (if H = 0 ∧ L ≤ 9223372036854775808 then r = .tuple #[.int .i64 (-L), .bool true] else r = .tuple #[.int .i64 0, .bool false])) → r = numR (a * b) := by
    intro r hr
    rw [p]
    by_cases hs : (a < 0 ↔ b < 0)
    · rw [if_pos hs] at hr ⊢
      by_cases hc : H = 0 ∧ L < 9223372036854775808
      · rw [if_pos hc] at hr
        have : (P : Int) = L := by omega
        rw [hr, this, numR_in ⟨by omega, by omega⟩]
      · rw [if_neg hc] at hr
        rw [hr, numR_out]
        intro h
        have := h.2
        omega
    · rw [if_neg hs] at hr ⊢
      by_cases hc : H = 0 ∧ L ≤ 9223372036854775808
      · rw [if_pos hc] at hr
        have : (P : Int) = L := by omega
        rw [hr, this, numR_in ⟨by omega, by omega⟩]
      · rw [if_neg hc] at hr
        rw [hr, numR_out]
        intro h
        have := h.1
        omega
  obtain ⟨R, hR⟩ : ∃ R, numR (a * b) = R := ⟨_, rfl⟩
  rw [hR] at key ⊢
  have Key := Lib.hid key
  clear key m c1 c2 p hP hh hH hL hx hy hR ha hb
  have sgn : (a < 0 ∧ b < 0) ∨ (a < 0 ∧ ¬ b < 0) ∨ (¬ a < 0 ∧ b < 0) ∨ (¬ a < 0 ∧ ¬ b < 0) := by omega
  have cs : ¬ H = 0 ∨ (H = 0 ∧ 9223372036854775808 < L) ∨ (H = 0 ∧ L = 9223372036854775808) ∨ (H = 0 ∧ L < 9223372036854775808) := by omega
  rcases sgn with ⟨s1, s2⟩ | ⟨s1, s2⟩ | ⟨s1, s2⟩ | ⟨s1, s2⟩
  · have d1 : decide (a < 0) = true := by simpa using s1
    have d2 : decide (b < 0) = true := by simpa using s2
    rcases cs with c | ⟨rfl, c⟩ | ⟨rfl, rfl⟩ | ⟨rfl, c⟩
    · have hR := Key.out (.tuple #[.int .i64 0, .bool false]) (by rw [if_pos (by omega), if_neg (by omega)])
      rw [← hR]
      clear Key hR
      go_enter Tryz.func112, Tryz.ntmps112
      go_wp2_with (first
        | (go_at_call 121; first | ((with_reducible refine C1.out.mono ?_); rintro e w' ⟨rfl, rfl⟩) | ((with_reducible refine C2.out.mono ?_); rintro e w' ⟨rfl, rfl⟩))
        | (go_at_call 120; refine (M.out _).mono ?_; rintro e w' ⟨rfl, rfl⟩))
      go_ret2
      first | exact ⟨rfl, rfl⟩ | exact ⟨wneg _ (by omega) (by omega), rfl⟩
    · have hR := Key.out (.tuple #[.int .i64 0, .bool false]) (by rw [if_pos (by omega), if_neg (by omega)])
      rw [← hR]
      clear Key hR
      go_enter Tryz.func112, Tryz.ntmps112
      go_wp2_with (first
        | (go_at_call 121; first | ((with_reducible refine C1.out.mono ?_); rintro e w' ⟨rfl, rfl⟩) | ((with_reducible refine C2.out.mono ?_); rintro e w' ⟨rfl, rfl⟩))
        | (go_at_call 120; refine (M.out _).mono ?_; rintro e w' ⟨rfl, rfl⟩))
      go_ret2
      first | exact ⟨rfl, rfl⟩ | exact ⟨wneg _ (by omega) (by omega), rfl⟩
    · have hR := Key.out (.tuple #[.int .i64 0, .bool false]) (by rw [if_pos (by omega), if_neg (by omega)])
      rw [← hR]
      clear Key hR
      go_enter Tryz.func112, Tryz.ntmps112
      go_wp2_with (first
        | (go_at_call 121; first | ((with_reducible refine C1.out.mono ?_); rintro e w' ⟨rfl, rfl⟩) | ((with_reducible refine C2.out.mono ?_); rintro e w' ⟨rfl, rfl⟩))
        | (go_at_call 120; refine (M.out _).mono ?_; rintro e w' ⟨rfl, rfl⟩))
      go_ret2
      first | exact ⟨rfl, rfl⟩ | exact ⟨wneg _ (by omega) (by omega), rfl⟩
    · have hR := Key.out (.tuple #[.int .i64 L, .bool true]) (by rw [if_pos (by omega), if_pos (by omega)])
      rw [← hR]
      clear Key hR
      go_enter Tryz.func112, Tryz.ntmps112
      go_wp2_with (first
        | (go_at_call 121; first | ((with_reducible refine C1.out.mono ?_); rintro e w' ⟨rfl, rfl⟩) | ((with_reducible refine C2.out.mono ?_); rintro e w' ⟨rfl, rfl⟩))
        | (go_at_call 120; refine (M.out _).mono ?_; rintro e w' ⟨rfl, rfl⟩))
      go_ret2
      first | exact ⟨rfl, rfl⟩ | exact ⟨wneg _ (by omega) (by omega), rfl⟩
  · have d1 : decide (a < 0) = true := by simpa using s1
    have d2 : decide (b < 0) = false := by simpa using s2
    rcases cs with c | ⟨rfl, c⟩ | ⟨rfl, rfl⟩ | ⟨rfl, c⟩
    · have hR := Key.out (.tuple #[.int .i64 0, .bool false]) (by rw [if_neg (by omega), if_neg (by omega)])
      rw [← hR]
      clear Key hR
      go_enter Tryz.func112, Tryz.ntmps112
      go_wp2_with (first
        | (go_at_call 121; first | ((with_reducible refine C1.out.mono ?_); rintro e w' ⟨rfl, rfl⟩) | ((with_reducible refine C2.out.mono ?_); rintro e w' ⟨rfl, rfl⟩))
        | (go_at_call 120; refine (M.out _).mono ?_; rintro e w' ⟨rfl, rfl⟩))
      go_ret2
      first | exact ⟨rfl, rfl⟩ | exact ⟨wneg _ (by omega) (by omega), rfl⟩
    · have hR := Key.out (.tuple #[.int .i64 0, .bool false]) (by rw [if_neg (by omega), if_neg (by omega)])
      rw [← hR]
      clear Key hR
      go_enter Tryz.func112, Tryz.ntmps112
      go_wp2_with (first
        | (go_at_call 121; first | ((with_reducible refine C1.out.mono ?_); rintro e w' ⟨rfl, rfl⟩) | ((with_reducible refine C2.out.mono ?_); rintro e w' ⟨rfl, rfl⟩))
        | (go_at_call 120; refine (M.out _).mono ?_; rintro e w' ⟨rfl, rfl⟩))
      go_ret2
      first | exact ⟨rfl, rfl⟩ | exact ⟨wneg _ (by omega) (by omega), rfl⟩
    · have hR := Key.out (.tuple #[.int .i64 (-9223372036854775808), .bool true]) (by rw [if_neg (by omega), if_pos (by omega)]; rfl)
      rw [← hR]
      clear Key hR
      go_enter Tryz.func112, Tryz.ntmps112
      go_wp2_with (first
        | (go_at_call 121; first | ((with_reducible refine C1.out.mono ?_); rintro e w' ⟨rfl, rfl⟩) | ((with_reducible refine C2.out.mono ?_); rintro e w' ⟨rfl, rfl⟩))
        | (go_at_call 120; refine (M.out _).mono ?_; rintro e w' ⟨rfl, rfl⟩))
      go_ret2
      first | exact ⟨rfl, rfl⟩ | exact ⟨wneg _ (by omega) (by omega), rfl⟩
    · have hR := Key.out (.tuple #[.int .i64 (-L), .bool true]) (by rw [if_neg (by omega), if_pos (by omega)])
      rw [← hR]
      clear Key hR
      go_enter Tryz.func112, Tryz.ntmps112
      go_wp2_with (first
        | (go_at_call 121; first | ((with_reducible refine C1.out.mono ?_); rintro e w' ⟨rfl, rfl⟩) | ((with_reducible refine C2.out.mono ?_); rintro e w' ⟨rfl, rfl⟩))
        | (go_at_call 120; refine (M.out _).mono ?_; rintro e w' ⟨rfl, rfl⟩))
      go_ret2
      first | exact ⟨rfl, rfl⟩ | exact ⟨wneg _ (by omega) (by omega), rfl⟩
  · have d1 : decide (a < 0) = false := by simpa using s1
    have d2 : decide (b < 0) = true := by simpa using s2
    rcases cs with c | ⟨rfl, c⟩ | ⟨rfl, rfl⟩ | ⟨rfl, c⟩
    · have hR := Key.out (.tuple #[.int .i64 0, .bool false]) (by rw [if_neg (by omega), if_neg (by omega)])
      rw [← hR]
      clear Key hR
      go_enter Tryz.func112, Tryz.ntmps112
      go_wp2_with (first
        | (go_at_call 121; first | ((with_reducible refine C1.out.mono ?_); rintro e w' ⟨rfl, rfl⟩) | ((with_reducible refine C2.out.mono ?_); rintro e w' ⟨rfl, rfl⟩))
        | (go_at_call 120; refine (M.out _).mono ?_; rintro e w' ⟨rfl, rfl⟩))
      go_ret2
      first | exact ⟨rfl, rfl⟩ | exact ⟨wneg _ (by omega) (by omega), rfl⟩
    · have hR := Key.out (.tuple #[.int .i64 0, .bool false]) (by rw [if_neg (by omega), if_neg (by omega)])
      rw [← hR]
      clear Key hR
      go_enter Tryz.func112, Tryz.ntmps112
      go_wp2_with (first
        | (go_at_call 121; first | ((with_reducible refine C1.out.mono ?_); rintro e w' ⟨rfl, rfl⟩) | ((with_reducible refine C2.out.mono ?_); rintro e w' ⟨rfl, rfl⟩))
        | (go_at_call 120; refine (M.out _).mono ?_; rintro e w' ⟨rfl, rfl⟩))
      go_ret2
      first | exact ⟨rfl, rfl⟩ | exact ⟨wneg _ (by omega) (by omega), rfl⟩
    · have hR := Key.out (.tuple #[.int .i64 (-9223372036854775808), .bool true]) (by rw [if_neg (by omega), if_pos (by omega)]; rfl)
      rw [← hR]
      clear Key hR
      go_enter Tryz.func112, Tryz.ntmps112
      go_wp2_with (first
        | (go_at_call 121; first | ((with_reducible refine C1.out.mono ?_); rintro e w' ⟨rfl, rfl⟩) | ((with_reducible refine C2.out.mono ?_); rintro e w' ⟨rfl, rfl⟩))
        | (go_at_call 120; refine (M.out _).mono ?_; rintro e w' ⟨rfl, rfl⟩))
      go_ret2
      first | exact ⟨rfl, rfl⟩ | exact ⟨wneg _ (by omega) (by omega), rfl⟩
    · have hR := Key.out (.tuple #[.int .i64 (-L), .bool true]) (by rw [if_neg (by omega), if_pos (by omega)])
      rw [← hR]
      clear Key hR
      go_enter Tryz.func112, Tryz.ntmps112
      go_wp2_with (first
        | (go_at_call 121; first | ((with_reducible refine C1.out.mono ?_); rintro e w' ⟨rfl, rfl⟩) | ((with_reducible refine C2.out.mono ?_); rintro e w' ⟨rfl, rfl⟩))
        | (go_at_call 120; refine (M.out _).mono ?_; rintro e w' ⟨rfl, rfl⟩))
      go_ret2
      first | exact ⟨rfl, rfl⟩ | exact ⟨wneg _ (by omega) (by omega), rfl⟩
  · have d1 : decide (a < 0) = false := by simpa using s1
    have d2 : decide (b < 0) = false := by simpa using s2
    rcases cs with c | ⟨rfl, c⟩ | ⟨rfl, rfl⟩ | ⟨rfl, c⟩
    · have hR := Key.out (.tuple #[.int .i64 0, .bool false]) (by rw [if_pos (by omega), if_neg (by omega)])
      rw [← hR]
      clear Key hR
      go_enter Tryz.func112, Tryz.ntmps112
      go_wp2_with (first
        | (go_at_call 121; first | ((with_reducible refine C1.out.mono ?_); rintro e w' ⟨rfl, rfl⟩) | ((with_reducible refine C2.out.mono ?_); rintro e w' ⟨rfl, rfl⟩))
        | (go_at_call 120; refine (M.out _).mono ?_; rintro e w' ⟨rfl, rfl⟩))
      go_ret2
      first | exact ⟨rfl, rfl⟩ | exact ⟨wneg _ (by omega) (by omega), rfl⟩
    · have hR := Key.out (.tuple #[.int .i64 0, .bool false]) (by rw [if_pos (by omega), if_neg (by omega)])
      rw [← hR]
      clear Key hR
      go_enter Tryz.func112, Tryz.ntmps112
      go_wp2_with (first
        | (go_at_call 121; first | ((with_reducible refine C1.out.mono ?_); rintro e w' ⟨rfl, rfl⟩) | ((with_reducible refine C2.out.mono ?_); rintro e w' ⟨rfl, rfl⟩))
        | (go_at_call 120; refine (M.out _).mono ?_; rintro e w' ⟨rfl, rfl⟩))
      go_ret2
      first | exact ⟨rfl, rfl⟩ | exact ⟨wneg _ (by omega) (by omega), rfl⟩
    · have hR := Key.out (.tuple #[.int .i64 0, .bool false]) (by rw [if_pos (by omega), if_neg (by omega)])
      rw [← hR]
      clear Key hR
      go_enter Tryz.func112, Tryz.ntmps112
      go_wp2_with (first
        | (go_at_call 121; first | ((with_reducible refine C1.out.mono ?_); rintro e w' ⟨rfl, rfl⟩) | ((with_reducible refine C2.out.mono ?_); rintro e w' ⟨rfl, rfl⟩))
        | (go_at_call 120; refine (M.out _).mono ?_; rintro e w' ⟨rfl, rfl⟩))
      go_ret2
      first | exact ⟨rfl, rfl⟩ | exact ⟨wneg _ (by omega) (by omega), rfl⟩
    · have hR := Key.out (.tuple #[.int .i64 L, .bool true]) (by rw [if_pos (by omega), if_pos (by omega)])
      rw [← hR]
      clear Key hR
      go_enter Tryz.func112, Tryz.ntmps112
      go_wp2_with (first
        | (go_at_call 121; first | ((with_reducible refine C1.out.mono ?_); rintro e w' ⟨rfl, rfl⟩) | ((with_reducible refine C2.out.mono ?_); rintro e w' ⟨rfl, rfl⟩))
        | (go_at_call 120; refine (M.out _).mono ?_; rintro e w' ⟨rfl, rfl⟩))
      go_ret2
      first | exact ⟨rfl, rfl⟩ | exact ⟨wneg _ (by omega) (by omega), rfl⟩

theorem add64_any (x y c : Int) (hx : 0 ≤ x ∧ x ≤ 18446744073709551615) (hy : 0 ≤ y ∧ y ≤ 18446744073709551615) (hc : 0 ≤ c ∧ c ≤ 1) (w : World) : (callFunc 45 #[.int .u64 x, .int .u64 y, .int .u64 c]).run Tryz.prog w =
    .ok (.value (.tuple #[.int .u64 ((x + y + c) % 18446744073709551616), .int .u64 ((x + y + c) / 18446744073709551616)])) w := by
  rw [run_callFunc_extern Tryz.func45 (by kernel_rfl) (by kernel_rfl) (by kernel_rfl) (e := add64Entry) (by kernel_rfl)]
  rw [run_add64 x y c hx.1 hy.1 hc.1 hc.2]
  rfl

theorem add64_hid (x y c : Int) (hx : 0 ≤ x ∧ x ≤ 18446744073709551615) (hy : 0 ≤ y ∧ y ≤ 18446744073709551615) (hc : 0 ≤ c ∧ c ≤ 1) : ∃ S C : Nat, (∀ w, (callFunc 45 #[.int .u64 x, .int .u64 y, .int .u64 c]).run Tryz.prog w = .ok (.value (.tuple #[.int .u64 S, .int .u64 C])) w) ∧ (S : Int) = (x + y + c) % 18446744073709551616 ∧ (C : Int) = (x + y + c) / 18446744073709551616 ∧ C ≤ 1 ∧ S < 18446744073709551616 := by
  refine ⟨((x + y + c) % 18446744073709551616).toNat, ((x + y + c) / 18446744073709551616).toNat, fun w => ?_, by omega, by omega, by omega, by omega⟩
  rw [add64_any x y c hx hy hc w]
  have h1 : ((((x + y + c) % 18446744073709551616).toNat : Nat) : Int) = (x + y + c) % 18446744073709551616 := by omega
  have h2 : ((((x + y + c) / 18446744073709551616).toNat : Nat) : Int) = (x + y + c) / 18446744073709551616 := by omega
  rw [h1, h2]

theorem sum_take {l : List Int} {k : Nat} {x : Int} (h : l[k]? = some x) : (l.take (k + 1)).sum = (l.take k).sum + x := by
  rw [List.take_add_one, h]; simp
theorem sum_bd (l : List Int) (h : ∀ x ∈ l, rngP x) : -9223372036854775808 * (l.length : Int) ≤ l.sum ∧ l.sum ≤ 9223372036854775807 * (l.length : Int) := by
  induction l with
  | nil => simp
  | cons x r ih =>
    obtain ⟨h1, h2⟩ := ih fun y hy => h y (by simp [hy])
    obtain ⟨h3, h4⟩ := h x (by simp)
    rw [List.sum_cons, List.length_cons]
    omega

set_option maxHeartbeats 400000 in
theorem csum_any (A : Option Addr) (n c : Nat) (l : List Int) (w : World) (B : Nat) (hr : Reads w B 1 A n (vI64 l)) (hl : ∀ x ∈ l, rngP x) (hn : n ≤ 10000) :
    Calls Tryz.prog 31 #[.slice A n c] w fun e w' => e = .returned (numR l.sum) ∧ w = w' := by
  have hlen : l.length = n := by have := hr.1; rw [vI64_len] at this; omega
  have hsb := sum_bd l hl
  rw [hlen] at hsb
  have Hlen := Lib.hid hlen; clear hlen
  obtain ⟨T, hT⟩ : ∃ T, l.sum = T := ⟨_, rfl⟩
  rw [hT] at hsb ⊢
  have HT := Lib.hid hT; clear hT
  have Hl := Lib.hid hl; clear hl
  obtain ⟨sb1, sb2⟩ := hsb
  go_enter Tryz.func31, Tryz.ntmps31
  go_wp2
  go_loop [4, 5, 11] (fun v4 v5 v11 => ∃ (i hi lo : Nat), v11 = .int .i64 i ∧ v4 = .int .u64 hi ∧ v5 = .int .u64 lo ∧ i ≤ n ∧ lo < 18446744073709551616 ∧ hi < 18446744073709551616 ∧ (lo : Int) = (l.take i).sum % 18446744073709551616 ∧ (hi : Int) = (l.take i).sum / 18446744073709551616 % 18446744073709551616) (fun _ _ v11 => n - (intOf v11).toNat)
  case atStart => exact ⟨0, 0, 0, rfl, rfl, rfl, by omega, by omega, by omega, by simp, by simp⟩
  case round =>
    obtain ⟨i, hi, lo, rfl, rfl, rfl, h1, h2, h3, h4, h5⟩ := hrel
    by_cases hlt : i < n
    · obtain ⟨ad, u, rfl, _, hx, hc⟩ := hr.at_ hlt
      obtain ⟨a, ha, rfl⟩ := vI64_at hx
      have hs := sum_take ha
      obtain ⟨a1, a2⟩ := Hl.out a (List.mem_of_getElem? ha)
      have hb : 0 ≤ IntKind.u64.wrap a ∧ IntKind.u64.wrap a ≤ 18446744073709551615 := by rw [wrapu]; omega
      obtain ⟨S, C, e1, e2, e3, e4, e5⟩ := add64_hid lo (IntKind.u64.wrap a) 0 (by omega) hb (by omega)
      have hb' : 0 ≤ IntKind.u64.wrap (a / 9223372036854775808) ∧ IntKind.u64.wrap (a / 9223372036854775808) ≤ 18446744073709551615 := by rw [wrapu]; omega
      obtain ⟨S', C', f1, f2, f3, f4, f5⟩ := add64_hid hi (IntKind.u64.wrap (a / 9223372036854775808)) C (by omega) hb' (by omega)
      rw [wrapu] at e2 e3 f2
      have E1 : (S : Int) = (l.take (i + 1)).sum % 18446744073709551616 := by rw [hs]; omega
      have E2 : (S' : Int) = (l.take (i + 1)).sum / 18446744073709551616 % 18446744073709551616 := by rw [hs]; omega
      have H1 := Lib.hid E1
      have H2 := Lib.hid E2
      clear hb hb' e2 e3 f2 f3 h4 h5 E1 E2 hs hr hx ha
      go_wp2
      go_round
      case rel => exact ⟨i + 1, S', S, by go_num, rfl, rfl, by omega, e5, f5, H1.out, H2.out⟩
      case measure => simp [intOf]; omega
    · have hin : i = n := by omega
      subst hin
      rw [List.take_of_length_le (by rw [Hlen.out]; omega), HT.out] at h4 h5
      have ew : IntKind.u64.wrap (wrap64 lo / 9223372036854775808) = if (lo : Int) < 9223372036854775808 then 0 else 18446744073709551615 := by
        rw [wrapu]; unfold wrap64; split <;> omega
      clear hr hlt
      by_cases hin : rngP T
      · have HR := Lib.hid (numR_in hin)
        obtain ⟨r1, r2⟩ := hin
        have ev : wrap64 lo = T := by unfold wrap64; omega
        have eq : ((hi : Int) != IntKind.u64.wrap (T / 9223372036854775808)) = false := by
          rw [bne_eq_false_iff_eq, wrapu]
          omega
        clear ew h4 h5 h2 h3
        go_wp2
        go_ret2
        exact ⟨congrArg _ HR.out.symm, rfl⟩
      · have HR := Lib.hid (numR_out hin)
        have eq : ((hi : Int) != IntKind.u64.wrap (wrap64 lo / 9223372036854775808)) = true := by
          rw [ew, bne_iff_ne]
          unfold rngP at hin
          split <;> omega
        obtain ⟨v, hv⟩ : ∃ v, wrap64 lo = v := ⟨_, rfl⟩
        rw [hv] at eq
        clear ew h4 h5 h2 h3 hin
        go_wp2
        go_ret2
        exact ⟨congrArg _ HR.out.symm, rfl⟩
end Go.Proofs.YthpggfcindnlcaaGreatDoor
