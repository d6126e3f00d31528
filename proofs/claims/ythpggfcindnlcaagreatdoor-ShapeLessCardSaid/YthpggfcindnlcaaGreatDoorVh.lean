
/-
  Three rows in a row; turned round; the other way down (plain).
-/
import Derived.Test.YthpggfcindnlcaaGreatDoorVf
namespace Go.Proofs.YthpggfcindnlcaaGreatDoor
open Go.RowKit

theorem rowsV_swap : ∀ (a b : List Vl) (d : List Bool), rowsV b a d = - rowsV a b d
  | [], [], _ => rfl
  | [], _ :: _, _ => rfl
  | _ :: _, [], _ => rfl
  | a :: ar, b :: br, d => by
    have ih := rowsV_swap ar br d.tail
    have h := cmpV_swap a b
    unfold rowsV
    rw [h]
    by_cases h0 : cmpV a b = 0
    · rw [if_pos (by omega), if_pos h0]; exact ih
    · rw [if_neg (by omega), if_neg h0]
      split <;> rfl
theorem sgn_trans (a b c : Vl) (t : Bool) (h1 : (if t = true then -cmpV a b else cmpV a b) ≤ 0) (h2 : (if t = true then -cmpV b c else cmpV b c) ≤ 0) :
    (if t = true then -cmpV a c else cmpV a c) ≤ 0 ∧ ((if t = true then -cmpV a c else cmpV a c) = 0 → cmpV a b = 0 ∧ cmpV b c = 0) := by
  cases t
  · simp only [Bool.false_eq_true, if_false] at h1 h2 ⊢
    exact cmpV_trans a b c h1 h2
  · simp only [if_true] at h1 h2 ⊢
    have s1 := cmpV_swap a b
    have s2 := cmpV_swap b c
    have s3 := cmpV_swap a c
    obtain ⟨r1, r2⟩ := cmpV_trans c b a (by omega) (by omega)
    refine ⟨by omega, fun h => ?_⟩
    have := r2 (by omega)
    omega
theorem rowsV_trans : ∀ (a b c : List Vl) (d : List Bool), rowsV a b d ≤ 0 → rowsV b c d ≤ 0 → rowsV a c d ≤ 0 ∧ (rowsV a c d = 0 → rowsV a b d = 0 ∧ rowsV b c d = 0)
  | [], [], [], _ => by simp [rowsV]
  | [], [], _ :: _, _ => by simp [rowsV]
  | [], _ :: _, [], _ => by simp [rowsV]
  | [], _ :: _, _ :: _, _ => by simp [rowsV]
  | _ :: _, [], _, _ => by intro h; simp [rowsV] at h
  | _ :: _, _ :: _, [], _ => by intro _ h; simp [rowsV] at h
  | x :: xs, y :: ys, z :: zs, d => by
    have ih := rowsV_trans xs ys zs d.tail
    have st := sgn_trans x y z (d.headD false)
    unfold rowsV
    generalize d.headD false = t at *
    intro h1 h2
    have hxy : cmpV x y = 0 ∨ cmpV x y ≠ 0 := by omega
    have hyz : cmpV y z = 0 ∨ cmpV y z ≠ 0 := by omega
    have tr0 : cmpV x y = 0 → cmpV y z = 0 → cmpV x z = 0 := fun e1 e2 => by
      have s1 := cmpV_swap x y
      have s2 := cmpV_swap y z
      have s3 := cmpV_swap x z
      have p := (cmpV_trans x y z (by omega) (by omega)).1
      have q := (cmpV_trans z y x (by omega) (by omega)).1
      omega
    rcases hxy with e1 | e1 <;> rcases hyz with e2 | e2
    · rw [if_pos e1] at h1 ⊢
      rw [if_pos e2] at h2 ⊢
      rw [if_pos (tr0 e1 e2)]
      exact ih h1 h2
    · rw [if_neg e2] at h2
      obtain ⟨p, q⟩ := st (by rw [e1]; split <;> omega) h2
      have hz : ¬ cmpV x z = 0 := fun e => e2 (q (by rw [e]; split <;> omega)).2
      rw [if_neg hz]
      exact ⟨p, fun h => absurd (q h).2 e2⟩
    · rw [if_neg e1] at h1
      obtain ⟨p, q⟩ := st h1 (by rw [e2]; split <;> omega)
      have hz : ¬ cmpV x z = 0 := fun e => e1 (q (by rw [e]; split <;> omega)).1
      rw [if_neg hz]
      exact ⟨p, fun h => absurd (q h).1 e1⟩
    · rw [if_neg e1] at h1
      rw [if_neg e2] at h2
      obtain ⟨p, q⟩ := st h1 h2
      have hz : ¬ cmpV x z = 0 := fun e => e1 (q (by rw [e]; split <;> omega)).1
      rw [if_neg hz]
      exact ⟨p, fun h => absurd (q h).1 e1⟩
/-- The other way at each place. -/
def othB (d : List Bool) (i : Nat) : Bool := !((d[i]?).getD false)
theorem rowsV_other : ∀ (a b : List Vl) (d o : List Bool), a.length = b.length → (∀ i, i < a.length → (o[i]?).getD false = !((d[i]?).getD false)) → rowsV a b o = - rowsV a b d
  | [], [], _, _, _, _ => rfl
  | [], _ :: _, _, _, h, _ => by simp at h
  | _ :: _, [], _, _, h, _ => by simp at h
  | a :: ar, b :: br, d, o, h, ho => by
    have ih := rowsV_other ar br d.tail o.tail (by simpa using h) (fun i hi => by simpa using ho (i + 1) (by simpa using hi))
    have h0 := ho 0 (by simp)
    have e1 : ∀ l : List Bool, l.headD false = (l[0]?).getD false := fun l => by cases l <;> rfl
    unfold rowsV
    rw [e1 o, e1 d, h0]
    by_cases hz : cmpV a b = 0
    · rw [if_pos hz, if_pos hz]; exact ih
    · rw [if_neg hz, if_neg hz]
      cases (d[0]?).getD false <;> simp
end Go.Proofs.YthpggfcindnlcaaGreatDoor
