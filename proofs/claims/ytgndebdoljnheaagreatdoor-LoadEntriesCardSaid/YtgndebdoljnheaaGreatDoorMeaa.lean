/-
  Several texts in one: Vb.
-/
import Derived.Lib.ReplaceLaws
/-
  Facts on lists of bytes: replacing by a recursion; quotes written twice, and read again.
-/
namespace Go.Proofs.YtgndebdoljnheaaGreatDoor
section
set_option linter.unusedSimpArgs false
set_option linter.unusedVariables false
open Go.Lib

section
variable (old new : List UInt8)
def rA (s : List UInt8) : List UInt8 := replaceK old new (count s old) s
variable {old new}
theorem rA_eq (h : old ≠ new) (s : List UInt8) : replaceAll s old new = rA old new s := by
  have e : (old == new) = false := by simpa using h
  unfold replaceAll replace rA replaceNum
  rw [e]; simp
theorem rA_miss {s : List UInt8} (h : index s old = -1) : rA old new s = s := by unfold rA; rw [count_miss h]; rfl
theorem rA_hit {s : List UInt8} {i : Nat} (h0 : old ≠ []) (h : index s old = (i : Int)) : rA old new s = s.take i ++ new ++ rA old new (s.drop (i + old.length)) := by
  unfold rA
  rw [count_hit h0 h, Nat.add_comm, replaceK_hit old new _ s i h]
theorem idx_cons (c : UInt8) (r : List UInt8) : index (c :: r) old = if old.isPrefixOf (c :: r) then 0 else if index r old == -1 then -1 else index r old + 1 := by rw [index]
theorem rA_yes {c : UInt8} {r : List UInt8} (h0 : old ≠ []) (h : old.isPrefixOf (c :: r) = true) : rA old new (c :: r) = new ++ rA old new ((c :: r).drop old.length) := by
  have e : index (c :: r) old = ((0 : Nat) : Int) := by rw [idx_cons, h]; rfl
  rw [rA_hit h0 e]; simp
theorem rA_no {c : UInt8} {r : List UInt8} (h0 : old ≠ []) (h : old.isPrefixOf (c :: r) = false) : rA old new (c :: r) = c :: rA old new r := by
  by_cases hm : index r old = -1
  · have e : index (c :: r) old = -1 := by rw [idx_cons, h, hm]; rfl
    rw [rA_miss e, rA_miss hm]
  · have hge := index_ge r old
    obtain ⟨j, hj⟩ : ∃ j : Nat, index r old = (j : Int) := ⟨(index r old).toNat, by omega⟩
    have e : index (c :: r) old = ((j + 1 : Nat) : Int) := by
      rw [idx_cons, h, hj]
      have : ((j : Int) == -1) = false := by simp
      rw [this]; simp
    rw [rA_hit h0 e, rA_hit h0 hj]
    have : j + 1 + old.length = (j + old.length) + 1 := by omega
    rw [this]; simp
theorem rA_nil (h0 : old ≠ []) : rA old new [] = [] := by
  apply rA_miss
  cases old with
  | nil => exact absurd rfl h0
  | cons c t => rfl
end

/-- Each quote twice. -/
def dblL : List UInt8 → List UInt8
  | [] => []
  | c :: r => if c = 39 then 39 :: 39 :: dblL r else c :: dblL r
/-- Two quotes once, from the left. -/
def undL : List UInt8 → List UInt8
  | [] => []
  | [c] => [c]
  | c :: d :: r => if c = 39 ∧ d = 39 then 39 :: undL r else c :: undL (d :: r)
/-- What stands between quotes, if it may. -/
def parQ : List UInt8 → Option (List UInt8)
  | [] => some []
  | [c] => if c = 39 then none else some [c]
  | c :: d :: r => if c = 39 then (if d = 39 then (parQ r).map (39 :: ·) else none) else (parQ (d :: r)).map (c :: ·)

theorem dblL_eq (s : List UInt8) : replaceAll s [39] [39, 39] = dblL s := by
  rw [rA_eq (by decide)]
  induction s with
  | nil => exact rA_nil (by decide)
  | cons c r ih =>
    unfold dblL
    by_cases h : c = 39
    · subst h
      rw [if_pos rfl, rA_yes (by decide) (by simp [List.isPrefixOf])]
      simp [ih]
    · rw [if_neg h, rA_no (by decide) (by simp [List.isPrefixOf, Ne.symm h]), ih]
theorem undL_eq (s : List UInt8) : replaceAll s [39, 39] [39] = undL s := by
  rw [rA_eq (by decide)]
  induction s using undL.induct with
  | case1 => exact rA_nil (by decide)
  | case2 c => rw [rA_no (by decide) (by simp [List.isPrefixOf]), rA_nil (by decide)]; rfl
  | case3 c d r h ih =>
    obtain ⟨rfl, rfl⟩ := h
    rw [rA_yes (by decide) (by simp [List.isPrefixOf])]
    unfold undL
    simp [ih]
  | case4 c d r h ih =>
    rw [rA_no (by decide) (by simp [List.isPrefixOf]; intro h1 h2; exact h ⟨h1.symm, h2.symm⟩), ih]
    conv => rhs; unfold undL
    rw [if_neg h]
theorem dblL_len (s : List UInt8) : (dblL s).length ≤ 2 * s.length := by
  induction s with
  | nil => simp [dblL]
  | cons c r ih => unfold dblL; split <;> simp <;> omega
theorem undL_len (s : List UInt8) : (undL s).length ≤ s.length := by
  induction s using undL.induct with
  | case1 => simp [undL]
  | case2 c => simp [undL]
  | case3 c d r h ih => unfold undL; rw [if_pos h]; simp; omega
  | case4 c d r h ih => unfold undL; rw [if_neg h]; simp at ih ⊢; omega
theorem par_dbl (s : List UInt8) : parQ (dblL s) = some s := by
  induction s with
  | nil => rfl
  | cons c r ih =>
    unfold dblL
    by_cases h : c = 39
    · subst h; rw [if_pos rfl]; simp [parQ, ih]
    · rw [if_neg h]
      cases hd : dblL r with
      | nil =>
        rw [hd] at ih
        have : r = [] := by simpa [parQ] using ih.symm
        subst this
        simp [parQ, h]
      | cons d t =>
        rw [hd] at ih
        simp only [parQ, h, if_false, ih, Option.map_some]
theorem par_some {s t : List UInt8} (h : parQ s = some t) : undL s = t ∧ dblL t = s := by
  induction s using undL.induct generalizing t with
  | case1 => simp [parQ] at h; subst h; exact ⟨rfl, rfl⟩
  | case2 c =>
    unfold parQ at h
    by_cases hc : c = 39
    · simp [hc] at h
    · simp [hc] at h; subst h; exact ⟨rfl, by simp [dblL, hc]⟩
  | case3 c d r hcd ih =>
    obtain ⟨rfl, rfl⟩ := hcd
    simp [parQ] at h
    obtain ⟨u, hu, rfl⟩ := h
    obtain ⟨h1, h2⟩ := ih hu
    exact ⟨by unfold undL; simp [h1], by unfold dblL; simp [h2]⟩
  | case4 c d r hn ih =>
    unfold parQ at h
    by_cases hc : c = 39
    · have hd : ¬ d = 39 := fun e => hn ⟨hc, e⟩
      simp [hc, hd] at h
    · simp [hc] at h
      obtain ⟨u, hu, rfl⟩ := h
      obtain ⟨h1, h2⟩ := ih hu
      exact ⟨by unfold undL; simp [hc, h1], by unfold dblL; simp [hc, h2]⟩
theorem par_und (s : List UInt8) (h : dblL (undL s) = s) : parQ s = some (undL s) := by
  have := par_dbl (undL s)
  rwa [h] at this
end
end Go.Proofs.YtgndebdoljnheaaGreatDoor
