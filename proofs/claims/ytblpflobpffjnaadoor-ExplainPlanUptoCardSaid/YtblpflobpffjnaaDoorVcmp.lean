
/-
  Contracts of the comparison of two values: the program's, and the reference's.
-/
import Derived.Test.YtblpflobpffjnaaDoorOpen
import Derived.Test.YtblpflobpffjnaaDoorGr
import Derived.Test.YtblpflobpffjnaaDoorShelf
import Derived.Deep.RegionHeld3
import Derived.Deep.DrawnRows
import Derived.Deep.QuietTactic
import Derived.BigQuiet
import Derived.IntWalk
set_option linter.unusedSimpArgs false
set_option linter.unusedVariables false
namespace Go.Proofs.YtblpflobpffjnaaDoor
open Go.RowKit
attribute [local go_sem ↓] Go.wp_at_zero Go.wp_at_succ

def kd (k : Int) : Int := if 3 < k then 0 else k
def cmpI (x y : Int) : Int := if x < y then -1 else if y < x then 1 else 0
def cmpV (a b : Vl) : Int :=
  if kd a.k = kd b.k then (if a.k = 1 ∨ a.k = 2 then cmpI a.i b.i else if a.k = 3 then Lib.compareBytes a.s.data.toList b.s.data.toList else 0) else cmpI (kd a.k) (kd b.k)
/-- Is one text ahead of another one? -/
def bl : List UInt8 → List UInt8 → Bool
  | _, [] => false
  | [], _ :: _ => true
  | x :: xs, y :: ys => if x = y then bl xs ys else decide (x < y)
def lessS (a b : Vl) : Bool := if a.k = 1 ∨ a.k = 2 then decide (a.i < b.i) else if a.k = 3 then bl a.s.data.toList b.s.data.toList else false
def lessV (a b : Vl) : Bool := if kd a.k = kd b.k then lessS a b else decide (kd a.k < kd b.k)

theorem bl_drop {a b : List UInt8} {k : Nat} (ha : k < a.length) (hb : k < b.length) : bl (a.drop k) (b.drop k) = if a[k] = b[k] then bl (a.drop (k + 1)) (b.drop (k + 1)) else decide (a[k] < b[k]) := by
  rw [List.drop_eq_getElem_cons ha, List.drop_eq_getElem_cons hb]
  rfl
theorem bl_end {a b : List UInt8} {k : Nat} (h : ¬ (k < a.length ∧ k < b.length)) (ha : k ≤ a.length) (hb : k ≤ b.length) : bl (a.drop k) (b.drop k) = decide (a.length < b.length) := by
  by_cases h1 : k < b.length
  · have : k = a.length := by omega
    subst this
    rw [List.drop_length, List.drop_eq_getElem_cons h1]
    simp [bl, h1]
  · rw [List.drop_eq_nil_of_le (by omega : b.length ≤ k)]
    have : ¬ a.length < b.length := by omega
    simp only [this, decide_false]
    cases a.drop k <;> rfl

theorem lessS_kd (k i : Int) (s : ByteArray) (b : Vl) : lessS ⟨kd k, i, s⟩ b = lessS ⟨k, i, s⟩ b := by
  unfold lessS kd
  simp only
  by_cases h : 3 < k
  · rw [if_pos h, if_neg (by omega), if_neg (by omega), if_neg (by omega), if_neg (by omega)]
  · rw [if_neg h]

theorem bl_cmp : ∀ (a b : List UInt8), bl a b = decide (Lib.compareBytes a b < 0)
  | [], [] => rfl
  | [], _ :: _ => rfl
  | _ :: _, [] => rfl
  | x :: xs, y :: ys => by
    unfold bl Lib.compareBytes
    have ih := bl_cmp xs ys
    by_cases h : x = y
    · subst h
      rw [if_pos rfl, if_neg (UInt8.lt_irrefl x), if_neg (UInt8.lt_irrefl x)]
      exact ih
    · rw [if_neg h]
      by_cases h1 : x < y
      · rw [if_pos h1]; simp [h1]
      · have h2 : y < x := by
          rw [UInt8.lt_iff_toNat_lt] at h1 ⊢
          have : x.toNat ≠ y.toNat := fun e => h (UInt8.toNat_inj.1 e)
          omega
        rw [if_neg h1, if_pos h2]; simp [h1]
theorem cb_swap : ∀ (a b : List UInt8), Lib.compareBytes b a = - Lib.compareBytes a b
  | [], [] => rfl
  | [], _ :: _ => rfl
  | _ :: _, [] => rfl
  | x :: xs, y :: ys => by
    unfold Lib.compareBytes
    have ih := cb_swap xs ys
    by_cases h1 : x < y
    · have h2 : ¬ y < x := by rw [UInt8.lt_iff_toNat_lt] at h1 ⊢; omega
      rw [if_neg h2, if_pos h1, if_pos h1]; rfl
    · by_cases h2 : y < x
      · rw [if_pos h2, if_neg h1, if_pos h2]
      · rw [if_neg h2, if_neg h1, if_neg h1, if_neg h2]; exact ih
theorem cb_bd : ∀ (a b : List UInt8), -1 ≤ Lib.compareBytes a b ∧ Lib.compareBytes a b ≤ 1
  | [], [] => by decide
  | [], _ :: _ => by unfold Lib.compareBytes; omega
  | _ :: _, [] => by unfold Lib.compareBytes; omega
  | x :: xs, y :: ys => by
    unfold Lib.compareBytes
    have ih := cb_bd xs ys
    split
    · omega
    · split
      · omega
      · exact ih
theorem cmpI_swap (x y : Int) : cmpI y x = - cmpI x y := by unfold cmpI; split <;> split <;> omega
theorem cmpI_bd (x y : Int) : -1 ≤ cmpI x y ∧ cmpI x y ≤ 1 := by unfold cmpI; split <;> (try split) <;> omega
theorem cmpI_lt (x y : Int) : decide (cmpI x y < 0) = decide (x < y) := by unfold cmpI; split <;> (try split) <;> simp <;> omega
theorem kd_eq {a b c : Int} (h : kd a = kd b) (hc : c = 1 ∨ c = 2 ∨ c = 3) : a = c ↔ b = c := by
  unfold kd at h
  split at h <;> split at h <;> omega
theorem cmpV_swap (a b : Vl) : cmpV b a = - cmpV a b := by
  unfold cmpV
  by_cases h : kd a.k = kd b.k
  · rw [if_pos h, if_pos h.symm]
    have e1 := kd_eq h (c := 1) (by omega)
    have e2 := kd_eq h (c := 2) (by omega)
    have e3 := kd_eq h (c := 3) (by omega)
    by_cases h1 : a.k = 1 ∨ a.k = 2
    · rw [if_pos h1, if_pos (by rw [← e1, ← e2]; exact h1), cmpI_swap]
    · rw [if_neg h1, if_neg (by rw [← e1, ← e2]; exact h1)]
      by_cases h3 : a.k = 3
      · rw [if_pos h3, if_pos (e3.1 h3), cb_swap]
      · rw [if_neg h3, if_neg (fun x => h3 (e3.2 x))]; rfl
  · rw [if_neg h, if_neg (fun x => h x.symm), cmpI_swap]
theorem cmpV_bd (a b : Vl) : -1 ≤ cmpV a b ∧ cmpV a b ≤ 1 := by
  unfold cmpV
  split
  · split
    · exact cmpI_bd _ _
    · split
      · exact cb_bd _ _
      · omega
  · exact cmpI_bd _ _
theorem lessV_cmp (a b : Vl) : lessV a b = decide (cmpV a b < 0) := by
  unfold lessV cmpV lessS
  by_cases h : kd a.k = kd b.k
  · rw [if_pos h, if_pos h]
    split
    · rw [cmpI_lt]
    · split
      · rw [bl_cmp]
      · rfl
  · rw [if_neg h, if_neg h, cmpI_lt]
theorem lessV_cmp2 (a b : Vl) : lessV b a = decide (0 < cmpV a b) := by
  rw [lessV_cmp, cmpV_swap a b]
  exact decide_eq_decide.2 (by omega)

end Go.Proofs.YtblpflobpffjnaaDoor
