/-
  Several texts in one: M4.
-/
import Derived.Test.YtgndebdoljnheaaGreatDoorMqan
import Derived.Test.YtgndebdoljnheaaGreatDoorShelf
import Derived.IntWalk
import Derived.Shelf.SlSortCmp.NoneTotal
/-
  Values compared as slices.SortFunc asks it: nothing turns but new blocks.
-/
namespace Go.Proofs.YtgndebdoljnheaaGreatDoor
section
set_option linter.unusedSimpArgs false
set_option linter.unusedVariables false
open Go.RowKit Go.Lib Go.Sort
attribute [local go_sem ↓] Go.wp_at_zero Go.wp_at_succ

theorem cmp8_13 (x y : Int) (w : World) : Calls Tryz.prog 40 #[.int .u8 x, .int .u8 y] w fun e w' => e = .returned (.int .i64 (cmpI x y)) ∧ w = w' := by
  unfold cmpI
  by_cases h1 : x < y
  · go_enter Tryz.func40, Tryz.ntmps40
    go_wp2
    go_ret
    exact ⟨rfl, rfl⟩
  · by_cases h2 : y < x
    · go_enter Tryz.func40, Tryz.ntmps40
      go_wp2
      go_ret
      exact ⟨rfl, rfl⟩
    · go_enter Tryz.func40, Tryz.ntmps40
      go_wp2
      go_ret
      exact ⟨rfl, rfl⟩
theorem cmp64_13 (x y : Int) (w : World) : Calls Tryz.prog 41 #[.int .i64 x, .int .i64 y] w fun e w' => e = .returned (.int .i64 (cmpI x y)) ∧ w = w' := by
  unfold cmpI
  by_cases h1 : x < y
  · go_enter Tryz.func41, Tryz.ntmps41
    go_wp2
    go_ret
    exact ⟨rfl, rfl⟩
  · by_cases h2 : y < x
    · go_enter Tryz.func41, Tryz.ntmps41
      go_wp2
      go_ret
      exact ⟨rfl, rfl⟩
    · go_enter Tryz.func41, Tryz.ntmps41
      go_wp2
      go_ret
      exact ⟨rfl, rfl⟩
theorem kind13_any (k i : Int) (s : ByteArray) (w : World) : Calls Tryz.prog 39 #[.agg #[.int .u8 k, .int .i64 i, .string s]] w fun e w' => e = .returned (.int .u8 (kd k)) ∧ w' = w.alloc (.cells #[.int .u8 k, .int .i64 i, .string s] 35) := by
  unfold kd
  by_cases h : 3 < k
  all_goals
    go_enter Tryz.func39, Tryz.ntmps39
    go_wp2
    go_ret
    exact ⟨rfl, rfl⟩
def RetGw (w : World) (v : Value) (e : Ending) (w' : World) : Prop := e = .returned v ∧ ∃ (q : Nat) (os' : Array Obj), w' = grow (w.drewN q) os'
set_option maxHeartbeats 4000000 in
theorem compare13_any (a b : Vl) (w : World) : Calls Tryz.prog 21 #[a.agg, b.agg] w (RetGw w (.int .i64 (cmpV a b))) := by
  obtain ⟨ak, ai, ss⟩ := a
  obtain ⟨bk, bi, st⟩ := b
  unfold cmpV Vl.agg
  simp only
  by_cases hk : kd ak = kd bk
  · rw [if_pos hk]
    have hne : (kd ak != kd bk) = false := by simp [hk]
    have hc : (ak = 1 ∨ ak = 2) ∨ ak = 3 ∨ (ak ≠ 1 ∧ ak ≠ 2 ∧ ak ≠ 3) := by omega
    clear hk
    rcases hc with hc | rfl | ⟨n1, n2, n3⟩
    · rw [if_pos hc]
      rcases hc with rfl | rfl
      all_goals
        go_enter Tryz.func21, Tryz.ntmps21
        go_wp2_with (first | (go_at_call 39; refine (kind13_any _ _ _ _).mono ?_; rintro e w' ⟨rfl, rfl⟩) | (go_at_call 41; refine (cmp64_13 _ _ _).mono ?_; rintro e w' ⟨rfl, rfl⟩) | (go_at_call 42; refine (Tryz.strings_Compare _ _ _).mono ?_; rintro e w' ⟨rfl, rfl⟩) | fail)
        go_ret
        exact ⟨rfl, 0, _, by simp only [alloc_eq_grow, grow_grow]; rfl⟩
    · rw [if_neg (by omega), if_pos rfl]
      go_enter Tryz.func21, Tryz.ntmps21
      go_wp2_with (first | (go_at_call 39; refine (kind13_any _ _ _ _).mono ?_; rintro e w' ⟨rfl, rfl⟩) | (go_at_call 41; refine (cmp64_13 _ _ _).mono ?_; rintro e w' ⟨rfl, rfl⟩) | (go_at_call 42; refine (Tryz.strings_Compare _ _ _).mono ?_; rintro e w' ⟨rfl, rfl⟩) | fail)
      go_ret
      exact ⟨rfl, 0, _, by simp only [alloc_eq_grow, grow_grow]; rfl⟩
    · rw [if_neg (by omega), if_neg n3]
      go_enter Tryz.func21, Tryz.ntmps21
      go_wp2_with (first | (go_at_call 39; refine (kind13_any _ _ _ _).mono ?_; rintro e w' ⟨rfl, rfl⟩) | (go_at_call 41; refine (cmp64_13 _ _ _).mono ?_; rintro e w' ⟨rfl, rfl⟩) | (go_at_call 42; refine (Tryz.strings_Compare _ _ _).mono ?_; rintro e w' ⟨rfl, rfl⟩) | fail)
      go_ret
      exact ⟨rfl, 0, _, by simp only [alloc_eq_grow, grow_grow]; rfl⟩
  · rw [if_neg hk]
    have hne : (kd ak != kd bk) = true := by simpa using hk
    clear hk
    go_enter Tryz.func21, Tryz.ntmps21
    go_wp2_with (first | (go_at_call 39; refine (kind13_any _ _ _ _).mono ?_; rintro e w' ⟨rfl, rfl⟩) | (go_at_call 40; refine (cmp8_13 _ _ _).mono ?_; rintro e w' ⟨rfl, rfl⟩) | fail)
    go_ret
    exact ⟨rfl, 0, _, by simp only [alloc_eq_grow, grow_grow]; rfl⟩
/-- 'Compare(a, b) < 0' is a strict weak order. -/
theorem swo13 : SWO (ltOf cmpV) where
  irrefl x := by
    have h := cmpV_swap x x
    unfold ltOf
    simp
    omega
  trans x y z h1 h2 := by
    unfold ltOf at *
    simp only [decide_eq_true_eq] at *
    have h := cmpV_trans x y z (by omega) (by omega)
    by_cases h0 : cmpV x z = 0
    · have := (h.2 h0).1
      omega
    · omega
  ntrans x y z h1 h2 := by
    unfold ltOf at *
    simp only [decide_eq_false_iff_not, Int.not_lt] at *
    have s1 := cmpV_swap x y
    have s2 := cmpV_swap y z
    have s3 := cmpV_swap x z
    have h := cmpV_trans z y x (by omega) (by omega)
    omega
end
end Go.Proofs.YtgndebdoljnheaaGreatDoor
