/-
  Contracts of calc: Times where the product has one word; the chapter's examples; the law CalcBack's walk.
-/
import Derived.Test.YtegnoheaglnhhabCb
namespace Go.Proofs.Ytegnoheaglnhhab
open Go.RowKit

theorem two_ints {k k' : IntKind} {a b a' b' : Int} (h : a = a') (g : b = b') : Ending.returned (.tuple #[.int k a, .int k' b]) = .returned (.tuple #[.int k a', .int k' b']) := by rw [h, g]
theorem div_lo (y c : Nat) (w : World) (hy : y < 18446744073709551616) (hc0 : 0 < c) (hc : c < 18446744073709551616) :
    Calls Try.prog 22 #[.int .u64 0, .int .u64 y, .int .u64 c] w fun e w' => e = .returned (.tuple #[.int .u64 ((y / c : Nat) : Int), .int .u64 ((y % c : Nat) : Int)]) ∧ ∃ m, w' = w.drewN m := by
  have hq : IntKind.u64.wrap ((y : Int) / c) = ((y / c : Nat) : Int) := by
    have h1 : y / c ≤ y := Nat.div_le_self _ _
    rw [wrapu, ← Int.natCast_ediv]
    generalize y / c = d at *
    omega
  have Hq := Lib.hid hq; clear hq
  go_enter Try.func22, Try.ntmps22
  go_wp2
  go_quiet (fail)
  go_wp2
  go_ret2
  exact ⟨two_ints Hq.out rfl, _, rfl⟩
theorem times_678 (w : World) : Calls Try.prog 9 #[.int .u64 6, .int .u64 7, .int .u64 5] w fun e w' => e = .returned (.int .u64 8) ∧ ∃ m, w' = w.drewN m := by
  have m := Try.bits_Mul64 6 7 (by decide) (by decide)
  have d := fun w => div_lo 42 5 w (by decide) (by decide) (by decide)
  go_enter Try.func9, Try.ntmps9
  go_wp2_with (first
    | (go_at_call 21; refine (m _).mono ?_; rintro e w' ⟨rfl, rfl⟩)
    | (go_at_call 22; refine (d _).mono ?_; rintro e w' ⟨rfl, m, rfl⟩))
  go_ret
  exact ⟨rfl, _, rfl⟩
theorem sum_31 (w : World) (e : TypeId) (g : Nat) (hg : g = w.heap.size) : Calls Try.prog 7 #[.slice (some ⟨g, 0, none⟩) 3 3] (w.alloc (.cells #[.int .i64 9223372036854775807, .int .i64 1, .int .i64 (-1)] e)) fun e' w' => e' = .returned (.tuple #[.int .i64 9223372036854775807, .bool true]) ∧ w.alloc (.cells #[.int .i64 9223372036854775807, .int .i64 1, .int .i64 (-1)] e) = w' := by
  have h := csum_any _ 3 3 [9223372036854775807, 1, -1] _ _ (reads_at w #[.int .i64 9223372036854775807, .int .i64 1, .int .i64 (-1)] e hg rfl rfl) (by intro x hx; simp at hx; unfold rngP; omega) (by omega)
  exact h
theorem add_over (w : World) : Calls Try.prog 14 #[.int .i64 9223372036854775807, .int .i64 1] w fun e w' => e = .returned (.tuple #[.int .i64 0, .bool false]) ∧ w = w' :=
  add_any 9223372036854775807 1 w ⟨by omega, by omega⟩ ⟨by omega, by omega⟩
theorem cfixed_any (w : World) : Calls Try.prog 6 #[] w (RetB w (.bool true)) := by
  go_enter Try.func6, Try.ntmps6
  go_wp2_with (first
    | (go_at_call 14; refine (add_over _).mono ?_; rintro e w' ⟨rfl, rfl⟩)
    | (go_at_call 7; refine (sum_31 _ _ _ (by simp)).mono ?_; rintro e w' ⟨rfl, rfl⟩)
    | (go_at_call 9; refine (times_678 _).mono ?_; rintro e w' ⟨rfl, m, rfl⟩))
  go_ret
  exact ⟨rfl, bdr ((Below.refl _ _).alloc (Nat.le_refl _) _) _⟩

set_option maxHeartbeats 1000000 in
theorem calcBack_any (a b : Int) (w : World) (ha : rngP a) (hb : rngP b) :
    Calls Try.prog 5 #[.int .i64 a, .int .i64 b] w (RetB w (.bool true)) := by
  have a1 := fun w => add_any a b w ha hb
  have a2 := fun w => add_any b a w hb ha
  have m1 := fun w => mul_any a b w ha hb
  have m2 := fun w => mul_any b a w hb ha
  have s1 := fun w => sub_any (numN (a + b)) b w (numN_rng _) hb
  have n1 := fun w => neg_any a w ha
  have n2 := fun w => neg_any (numN (-a)) w (numN_rng _)
  rw [Int.add_comm b a] at a2
  rw [Int.mul_comm b a] at m2
  have M1 := Lib.hid m1
  have M2 := Lib.hid m2
  unfold numR at M1 M2
  generalize numN (a * b) = y at M1 M2
  generalize decide (rngP (a * b)) = q at M1 M2
  clear m1 m2
  have hc : ∃ (s : Int) (ok : Bool) (d : Int) (p : Bool), (∀ w, Calls Try.prog 14 #[.int .i64 a, .int .i64 b] w fun e w' => e = .returned (.tuple #[.int .i64 s, .bool ok]) ∧ w = w') ∧
      (∀ w, Calls Try.prog 14 #[.int .i64 b, .int .i64 a] w fun e w' => e = .returned (.tuple #[.int .i64 s, .bool ok]) ∧ w = w') ∧
      (∀ w, Calls Try.prog 15 #[.int .i64 s, .int .i64 b] w fun e w' => e = .returned (.tuple #[.int .i64 d, .bool p]) ∧ w = w') ∧ (ok = false ∨ (ok = true ∧ p = true ∧ d = a)) := by
    refine ⟨_, _, _, _, a1, a2, s1, ?_⟩
    by_cases h : rngP (a + b)
    · have e : numN (a + b) - b = a := by unfold numN; rw [if_pos h]; omega
      rw [e]
      exact .inr ⟨decide_eq_true h, decide_eq_true ha, by unfold numN; rw [if_pos ha]⟩
    · exact .inl (decide_eq_false h)
  have hn : ∃ (s : Int) (ok : Bool) (d : Int) (p : Bool), (∀ w, Calls Try.prog 16 #[.int .i64 a] w fun e w' => e = .returned (.tuple #[.int .i64 s, .bool ok]) ∧ w = w') ∧
      (∀ w, Calls Try.prog 16 #[.int .i64 s] w fun e w' => e = .returned (.tuple #[.int .i64 d, .bool p]) ∧ w = w') ∧ (ok = false ∨ (ok = true ∧ p = true ∧ d = a)) := by
    refine ⟨_, _, _, _, n1, n2, ?_⟩
    by_cases h : rngP (-a)
    · have e : -numN (-a) = a := by unfold numN; rw [if_pos h]; omega
      rw [e]
      exact .inr ⟨decide_eq_true h, decide_eq_true ha, by unfold numN; rw [if_pos ha]⟩
    · exact .inl (decide_eq_false h)
  clear a1 a2 s1 n1 n2 ha hb
  obtain ⟨s, ok, d, p, a1, a2, s1, hc⟩ := hc
  obtain ⟨t, on, f, r, n1, n2, hn⟩ := hn
  have A1 := Lib.hid a1; clear a1
  have A2 := Lib.hid a2; clear a2
  have S1 := Lib.hid s1; clear s1
  have N1 := Lib.hid n1; clear n1
  have N2 := Lib.hid n2; clear n2
  have q1 : (a != a) = false := by simp
  rcases hc with rfl | ⟨rfl, rfl, rfl⟩ <;> rcases hn with rfl | ⟨rfl, rfl, rfl⟩
  all_goals
    go_enter Try.func5, Try.ntmps5
    go_wp2_with (first
        | (go_at_call 14; first | ((with_reducible refine (A1.out _).mono ?_); rintro e w' ⟨rfl, rfl⟩) | ((with_reducible refine (A2.out _).mono ?_); rintro e w' ⟨rfl, rfl⟩))
        | (go_at_call 15; refine (S1.out _).mono ?_; rintro e w' ⟨rfl, rfl⟩)
        | (go_at_call 16; first | ((with_reducible refine (N1.out _).mono ?_); rintro e w' ⟨rfl, rfl⟩) | ((with_reducible refine (N2.out _).mono ?_); rintro e w' ⟨rfl, rfl⟩))
        | (go_at_call 17; first | ((with_reducible refine (M1.out _).mono ?_); rintro e w' ⟨rfl, rfl⟩) | ((with_reducible refine (M2.out _).mono ?_); rintro e w' ⟨rfl, rfl⟩))
        | (go_at_call 6; refine (cfixed_any _).mono ?_; rintro e w1 ⟨rfl, hb1⟩))
    go_ret
    exact ⟨ret_bool (by simp), hb1⟩
end Go.Proofs.Ytegnoheaglnhhab
