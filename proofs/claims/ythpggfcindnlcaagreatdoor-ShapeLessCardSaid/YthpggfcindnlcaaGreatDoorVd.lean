
/-
  The reference's Compare; how three values stand.
-/
import Derived.Test.YthpggfcindnlcaaGreatDoorVcmp
import Derived.Test.YthpggfcindnlcaaGreatDoorAg
set_option linter.unusedSimpArgs false
set_option linter.unusedVariables false
namespace Go.Proofs.YthpggfcindnlcaaGreatDoor
open Go.RowKit

/-- Three stand in a row. -/
theorem cb_trans : ∀ (a b c : List UInt8), Lib.compareBytes a b ≤ 0 → Lib.compareBytes b c ≤ 0 → Lib.compareBytes a c ≤ 0 ∧ (Lib.compareBytes a c = 0 → Lib.compareBytes a b = 0 ∧ Lib.compareBytes b c = 0)
  | [], [], [] => by decide
  | [], [], _ :: _ => by simp [Lib.compareBytes]
  | [], _ :: _, [] => by simp [Lib.compareBytes]
  | [], _ :: _, _ :: _ => by simp [Lib.compareBytes]
  | _ :: _, [], _ => by intro h; simp [Lib.compareBytes] at h
  | _ :: _, _ :: _, [] => by intro _ h; simp [Lib.compareBytes] at h
  | x :: xs, y :: ys, z :: zs => by
    have ih := cb_trans xs ys zs
    unfold Lib.compareBytes
    simp only [UInt8.lt_iff_toNat_lt]
    by_cases h1 : x.toNat < y.toNat <;> by_cases h2 : y.toNat < z.toNat <;> by_cases h3 : y.toNat < x.toNat <;> by_cases h4 : z.toNat < y.toNat <;> by_cases h5 : x.toNat < z.toNat <;> by_cases h6 : z.toNat < x.toNat <;> first | (exfalso; omega) | simp [h1, h2, h3, h4, h5, h6] <;> first | exact ih | omega
theorem cmpI_trans (x y z : Int) (h1 : cmpI x y ≤ 0) (h2 : cmpI y z ≤ 0) : cmpI x z ≤ 0 ∧ (cmpI x z = 0 → cmpI x y = 0 ∧ cmpI y z = 0) := by
  unfold cmpI at *
  repeat' split at *
  all_goals omega
theorem cmpI_zero (x y : Int) : cmpI x y = 0 ↔ x = y := by unfold cmpI; split <;> (try split) <;> omega
theorem cmpV_trans (a b c : Vl) (h1 : cmpV a b ≤ 0) (h2 : cmpV b c ≤ 0) : cmpV a c ≤ 0 ∧ (cmpV a c = 0 → cmpV a b = 0 ∧ cmpV b c = 0) := by
  have hab := cmpI_trans (kd a.k) (kd b.k) (kd c.k)
  have hz1 := cmpI_zero (kd a.k) (kd b.k)
  have hz2 := cmpI_zero (kd b.k) (kd c.k)
  have hz3 := cmpI_zero (kd a.k) (kd c.k)
  by_cases e1 : kd a.k = kd b.k
  · by_cases e2 : kd b.k = kd c.k
    · have e3 : kd a.k = kd c.k := e1.trans e2
      have p1 := kd_eq e1 (c := 1) (by omega)
      have p2 := kd_eq e1 (c := 2) (by omega)
      have p3 := kd_eq e1 (c := 3) (by omega)
      unfold cmpV at *
      rw [if_pos e1] at *
      rw [if_pos e2] at *
      rw [if_pos e3] at *
      by_cases q1 : a.k = 1 ∨ a.k = 2
      · have q2 : b.k = 1 ∨ b.k = 2 := by rw [← p1, ← p2]; exact q1
        simp only [if_pos q1, if_pos q2] at h1 h2 ⊢
        exact cmpI_trans _ _ _ h1 h2
      · have q2 : ¬ (b.k = 1 ∨ b.k = 2) := by rw [← p1, ← p2]; exact q1
        simp only [if_neg q1, if_neg q2] at h1 h2 ⊢
        by_cases q3 : a.k = 3
        · have q4 : b.k = 3 := p3.1 q3
          simp only [if_pos q3, if_pos q4] at h1 h2 ⊢
          exact cb_trans _ _ _ h1 h2
        · have q4 : ¬ b.k = 3 := fun h => q3 (p3.2 h)
          simp only [if_neg q3, if_neg q4] at h1 h2 ⊢
          simp
    · have e3 : ¬ kd a.k = kd c.k := by rw [e1]; exact e2
      unfold cmpV at *
      rw [if_neg e2] at *
      rw [if_neg e3] at *
      rw [e1] at hab hz3 ⊢
      refine ⟨h2, fun h => absurd (hz2.1 h) e2⟩
  · by_cases e2 : kd b.k = kd c.k
    · have e3 : ¬ kd a.k = kd c.k := by rw [← e2]; exact e1
      unfold cmpV at *
      rw [if_neg e1] at *
      rw [if_neg e3] at *
      rw [← e2] at hab hz3 ⊢
      exact ⟨h1, fun h => absurd (hz1.1 h) e1⟩
    · have hh : cmpI (kd a.k) (kd b.k) ≤ 0 := by unfold cmpV at h1; rwa [if_neg e1] at h1
      have hk : cmpI (kd b.k) (kd c.k) ≤ 0 := by unfold cmpV at h2; rwa [if_neg e2] at h2
      obtain ⟨r1, r2⟩ := hab hh hk
      have e3 : ¬ kd a.k = kd c.k := fun e => e1 (hz1.1 (r2 (hz3.2 e)).1)
      have e : cmpV a c = cmpI (kd a.k) (kd c.k) := by unfold cmpV; rw [if_neg e3]
      rw [e]
      exact ⟨r1, fun h => absurd (hz3.1 h) e3⟩
end Go.Proofs.YthpggfcindnlcaaGreatDoor
