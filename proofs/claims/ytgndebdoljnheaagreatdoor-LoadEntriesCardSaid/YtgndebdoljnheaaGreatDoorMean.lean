/-
  Several texts in one: May.
-/
import Derived.Test.YtgndebdoljnheaaGreatDoorMeae
import Derived.Test.YtgndebdoljnheaaGreatDoorProg
import Derived.Laws.BitsAllLaws
import Derived.WalkSpells
import Derived.WalkLawsBesides
/-
  Contracts of May: the program's, and the reference's.
-/
namespace Go.Proofs.YtgndebdoljnheaaGreatDoor
section
set_option linter.unusedSimpArgs false
set_option linter.unusedVariables false
open Go.RowKit

/-- May a value be? -/
def mayV (v : Vl) : Bool :=
  if v.k = 0 then v.i == 0 && v.s.toList == [] else if v.k = 1 then v.s.toList == [] else if v.k = 2 then v.s.toList == [] && (v.i == 0 || v.i == 1) else if v.k = 3 then v.i == 0 && decide (v.s.size ≤ 48) else false
theorem and_one (i : Int) (h0 : -9223372036854775808 ≤ i) (h1 : i ≤ 9223372036854775807) : bits .and .i64 i 1 = i % 2 := by
  show IntKind.i64.wrap ((BitVec.ofInt 64 i &&& BitVec.ofInt 64 1).toNat : Int) = _
  have e : (BitVec.ofInt 64 i &&& BitVec.ofInt 64 1).toNat = (i % 2).toNat := by
    rw [BitVec.toNat_and]
    have h2 : (BitVec.ofInt 64 1).toNat = 1 := by decide
    rw [h2, Nat.and_one_is_mod, BitVec.toNat_ofInt]
    omega
  rw [e, IntKind.wrap_i64]
  omega

set_option maxHeartbeats 2000000 in
theorem may_any (v : Vl) (hv : v.ok) (w : World) : Calls Tryz.prog 81 #[v.agg] w (RetB w (.bool (mayV v))) := by
  obtain ⟨k, i, s⟩ := v
  obtain ⟨⟨hk0, hk1⟩, ⟨hi0, hi1⟩, hs⟩ := hv
  simp only at hk0 hk1 hi0 hi1 hs
  have wa := and_one i hi0 hi1
  have hm : 0 ≤ i % 2 ∧ i % 2 ≤ 1 := by omega
  have hq : (i == i % 2) = (i == 0 || i == 1) := by
    by_cases h0 : i = 0
    · subst h0; rfl
    · by_cases h1 : i = 1
      · subst h1; rfl
      · have : ¬ i = i % 2 := by omega
        rw [beq_eq_false_iff_ne.2 this, beq_eq_false_iff_ne.2 h0, beq_eq_false_iff_ne.2 h1]; rfl
  unfold mayV
  have hk : k = 0 ∨ k = 1 ∨ k = 2 ∨ k = 3 ∨ 3 < k := by omega
  rcases hk with rfl | rfl | rfl | rfl | hk
  rotate_right
  · have e0 : (k == 0) = false := by simp; omega
    have e1 : (k == 1) = false := by simp; omega
    have e2 : (k == 2) = false := by simp; omega
    have e3 : (k == 3) = false := by simp; omega
    rw [if_neg (show ¬ k = 0 by omega), if_neg (show ¬ k = 1 by omega), if_neg (show ¬ k = 2 by omega), if_neg (show ¬ k = 3 by omega)]
    clear hk hk0 hk1 hq hm wa
    go_enter Tryz.func81, Tryz.ntmps81
    go_wp2
    go_ret
    exact ⟨rfl, ball (Below.refl _ _) _⟩
  all_goals
    go_enter Tryz.func81, Tryz.ntmps81
    go_wp2
    all_goals (go_ret; refine ⟨ret_bool ?_, ball (Below.refl _ _) _⟩)
    all_goals first | rfl | (simp_all; done) | (rw [Bool.eq_iff_iff]; simp; omega)

set_option maxHeartbeats 2000000 in
theorem rmay_any (v : Vl) (hv : v.ok) (w : World) : Calls Tryz.prog 11 #[v.agg] w (RetB w (.bool (mayV v))) := by
  obtain ⟨k, i, s⟩ := v
  obtain ⟨⟨hk0, hk1⟩, ⟨hi0, hi1⟩, hs⟩ := hv
  simp only at hk0 hk1 hi0 hi1 hs
  have wa := and_one i hi0 hi1
  have hm : 0 ≤ i % 2 ∧ i % 2 ≤ 1 := by omega
  have hq : (i == i % 2) = (i == 0 || i == 1) := by
    by_cases h0 : i = 0
    · subst h0; rfl
    · by_cases h1 : i = 1
      · subst h1; rfl
      · have : ¬ i = i % 2 := by omega
        rw [beq_eq_false_iff_ne.2 this, beq_eq_false_iff_ne.2 h0, beq_eq_false_iff_ne.2 h1]; rfl
  unfold mayV
  have hk : k = 0 ∨ k = 1 ∨ k = 2 ∨ k = 3 ∨ 3 < k := by omega
  rcases hk with rfl | rfl | rfl | rfl | hk
  rotate_right
  · have e0 : (k == 0) = false := by simp; omega
    have e1 : (k == 1) = false := by simp; omega
    have e2 : (k == 2) = false := by simp; omega
    have e3 : (k == 3) = false := by simp; omega
    rw [if_neg (show ¬ k = 0 by omega), if_neg (show ¬ k = 1 by omega), if_neg (show ¬ k = 2 by omega), if_neg (show ¬ k = 3 by omega)]
    clear hk hk0 hk1 hq hm wa
    go_enter Tryz.func11, Tryz.ntmps11
    go_wp2
    go_ret
    exact ⟨rfl, ball (Below.refl _ _) _⟩
  all_goals
    go_enter Tryz.func11, Tryz.ntmps11
    go_wp2
    all_goals (go_ret; refine ⟨ret_bool ?_, ball (Below.refl _ _) _⟩)
    all_goals first | rfl | (simp_all; done) | (rw [Bool.eq_iff_iff]; simp; omega)
end
end Go.Proofs.YtgndebdoljnheaaGreatDoor
