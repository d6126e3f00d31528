/-
  Rows' keys stand as rows do, and begin each other as rows do (plain).
-/
import Derived.Test.YtohaplmbgipbcaaDoorKp
namespace Go.Proofs.YtohaplmbgipbcaaDoor
open Go.RowKit

theorem allMay_cons {v : Vl} {l : List Vl} (h : allMay (v :: l) = true) : mayV v = true ∧ allMay l = true := by
  unfold allMay at h ⊢
  rw [List.all_cons, Bool.and_eq_true] at h
  exact h
theorem keyR_cons (v : Vl) (l : List Vl) : keyR (v :: l) = keyV v ++ keyR l := rfl
theorem keyV_cons (v : Vl) : ∃ x r, keyV v = x :: r := by
  have := keyV_ne v
  cases h : keyV v with
  | nil => rw [h] at this; simp at this
  | cons x r => exact ⟨x, r, rfl⟩
theorem cb_row : ∀ (a b : List Vl), (∀ v ∈ a, v.ok) → (∀ v ∈ b, v.ok) → allMay a = true → allMay b = true → cb (keyR a) (keyR b) = rowsV a b []
  | [], [], _, _, _, _ => rfl
  | [], u :: b, _, _, _, _ => by
    obtain ⟨x, r, h⟩ := keyV_cons u
    rw [keyR_cons, h]
    rfl
  | v :: a, [], _, _, _, _ => by
    obtain ⟨x, r, h⟩ := keyV_cons v
    rw [keyR_cons, h]
    rfl
  | v :: a, u :: b, ha, hb, ma, mb => by
    obtain ⟨mv, ma'⟩ := allMay_cons ma
    obtain ⟨mu, mb'⟩ := allMay_cons mb
    obtain ⟨_, ⟨v0, v1⟩, _⟩ := ha v (by simp)
    obtain ⟨_, ⟨u0, u1⟩, _⟩ := hb u (by simp)
    have ih := cb_row a b (fun x hx => ha x (by simp [hx])) (fun x hx => hb x (by simp [hx])) ma' mb'
    rw [keyR_cons, keyR_cons]
    unfold rowsV
    rcases cb_key mv mu v0 v1 u0 u1 with ⟨h, rfl⟩ | ⟨h, hk⟩
    · rw [if_pos h, cb_pre]; exact ih
    · rw [if_neg h, hk]; rfl
theorem pre_app : ∀ (p x y : List UInt8), (p ++ x).isPrefixOf (p ++ y) = x.isPrefixOf y
  | [], _, _ => rfl
  | c :: p, x, y => by rw [List.cons_append, List.cons_append, List.isPrefixOf_cons_cons]; simp [pre_app p x y]
theorem beg_row : ∀ (a b : List Vl), (∀ v ∈ a, v.ok) → (∀ v ∈ b, v.ok) → allMay a = true → allMay b = true → (keyR a).isPrefixOf (keyR b) = (decide (a.length ≤ b.length) && (rowsV a (b.take a.length) [] == 0))
  | [], b, _, _, _, _ => by
    have : (keyR []).isPrefixOf (keyR b) = true := by simp [keyR]
    rw [this]
    simp [rowsV]
  | v :: a, [], _, _, _, _ => by
    obtain ⟨x, r, h⟩ := keyV_cons v
    rw [keyR_cons, h]
    simp [keyR]
  | v :: a, u :: b, ha, hb, ma, mb => by
    obtain ⟨mv, ma'⟩ := allMay_cons ma
    obtain ⟨mu, mb'⟩ := allMay_cons mb
    obtain ⟨_, ⟨v0, v1⟩, _⟩ := ha v (by simp)
    obtain ⟨_, ⟨u0, u1⟩, _⟩ := hb u (by simp)
    have ih := beg_row a b (fun x hx => ha x (by simp [hx])) (fun x hx => hb x (by simp [hx])) ma' mb'
    rw [keyR_cons, keyR_cons, List.length_cons, List.length_cons, List.take_succ_cons]
    unfold rowsV
    rcases cb_key mv mu v0 v1 u0 u1 with ⟨h, rfl⟩ | ⟨h, hk⟩
    · rw [if_pos h, pre_app, ih]
      have e : decide (a.length + 1 ≤ b.length + 1) = decide (a.length ≤ b.length) := by simp
      rw [e]
      rfl
    · rw [if_neg h]
      have hn : (keyV v ++ keyR a).isPrefixOf (keyV u ++ keyR b) = false := by
        rw [Bool.eq_false_iff, Ne, List.isPrefixOf_iff_prefix]
        rintro ⟨z, hz⟩
        have := hk (keyR a ++ z) (keyR b)
        rw [← List.append_assoc, hz, cb_self] at this
        exact h this.symm
      rw [hn]
      have e : ((if ([] : List Bool).headD false = true then -cmpV v u else cmpV v u) == 0) = false := by simpa using h
      rw [e, Bool.and_false]
theorem less_cb (a b : List UInt8) : bl a b = decide (cb a b < 0) := bl_cmp a b
theorem eq_cb (a b : List UInt8) : (a == b) = (cb a b == 0) := by
  rw [Bool.eq_iff_iff, beq_iff_eq, beq_iff_eq]
  exact ⟨fun h => by rw [h]; exact cb_self b, cb_zero⟩
theorem row_self_ok {l : List Vl} (h : allMay l = true) : kS l = keyR l ∧ kE l = 0 := by unfold kS kE; rw [h]; exact ⟨rfl, rfl⟩
end Go.Proofs.YtohaplmbgipbcaaDoor
