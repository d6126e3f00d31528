
/-
  ShapeLess, plain: keys, and how rows stand by them.
-/
import Derived.Test.YthpggfcindnlcaaGreatDoorVh
set_option linter.unusedSimpArgs false
set_option linter.unusedVariables false
namespace Go.Proofs.YthpggfcindnlcaaGreatDoor
open Go.RowKit

structure Ky where
  s : ByteArray
  i : Int
  d : Bool
def vKy (l : List Ky) : List Value := l.flatMap fun x => [.string x.s, .int .i64 x.i, .bool x.d]
theorem vKy_len (l : List Ky) : (vKy l).length = l.length * 3 := by
  induction l with
  | nil => rfl
  | cons x t ih => simp only [vKy, List.flatMap_cons, List.length_append, List.length_cons, List.length_nil] at ih ⊢; omega
theorem vKy_at : ∀ (l : List Ky) (k : Nat) (x : Ky) (j : Nat), l[k]? = some x → j < 3 → (vKy l)[k * 3 + j]? = ([.string x.s, .int .i64 x.i, .bool x.d] : List Value)[j]?
  | [], k, x, j, h, _ => by simp at h
  | y :: t, 0, x, j, h, hj => by
    simp at h
    subst h
    have : j = 0 ∨ j = 1 ∨ j = 2 := by omega
    rcases this with rfl | rfl | rfl <;> simp [vKy]
  | y :: t, k + 1, x, j, h, hj => by
    have ih := vKy_at t k x j (by simpa using h) hj
    have e : (k + 1) * 3 + j = (k * 3 + j) + 3 := by omega
    rw [e, ← ih]
    simp [vKy]
theorem Reads.ky {w : World} {B : Nat} {A : Option Addr} {n k : Nat} {l : List Ky} (hr : Reads w B 3 A n (vKy l)) (hk : k < n) :
    ∃ ad x, A = some ad ∧ ad.block < B ∧ l[k]? = some x ∧ w.cell? (ad.add (k * 3)) = some (.string x.s) ∧ w.cell? ⟨(ad.add (k * 3)).block, (ad.add (k * 3)).off + 1, none⟩ = some (.int .i64 x.i) ∧ w.cell? ⟨(ad.add (k * 3)).block, (ad.add (k * 3)).off + 2, none⟩ = some (.bool x.d) := by
  have hl : l.length = n := by have := hr.1; rw [vKy_len] at this; omega
  obtain ⟨ad, hA, hb, hc⟩ := hr.2 (by omega)
  have hv : l[k]? = some (l[k]'(by omega)) := List.getElem?_eq_getElem (by omega)
  refine ⟨ad, l[k]'(by omega), hA, hb, hv, ?_, ?_, ?_⟩
  · have := hc (k * 3 + 0) _ (by rw [vKy_at l k _ 0 hv (by omega)]; rfl)
    simpa using this
  · rw [field_add _ _ _ (by omega)]
    exact hc (k * 3 + 1) _ (by rw [vKy_at l k _ 1 hv (by omega)]; rfl)
  · rw [field_add _ _ _ (by omega)]
    exact hc (k * 3 + 2) _ (by rw [vKy_at l k _ 2 hv (by omega)]; rfl)
def okK (na nb : Nat) (x : Ky) : Bool := decide (1 ≤ x.i ∧ x.i ≤ na ∧ x.i ≤ nb)
def atV (l : List Vl) (n : Nat) : Vl := l[n]?.getD ⟨0, 0, ⟨#[]⟩⟩
def selL (na nb : Nat) (a : List Vl) (l : List Ky) : List Vl := (l.filter (okK na nb)).map fun x => atV a (x.i - 1).toNat
def selD (na nb : Nat) (l : List Ky) : List Bool := (l.filter (okK na nb)).map Ky.d
theorem selL_len (na nb : Nat) (a b : List Vl) (l : List Ky) : (selL na nb a l).length = (selL na nb b l).length := by simp [selL]
theorem selD_len (na nb : Nat) (b : List Vl) (l : List Ky) : (selD na nb l).length = (selL na nb b l).length := by simp [selL, selD]
theorem selL_snoc (na nb : Nat) (a : List Vl) (l : List Ky) (x : Ky) : selL na nb a (l ++ [x]) = selL na nb a l ++ (if okK na nb x = true then [atV a (x.i - 1).toNat] else []) := by
  unfold selL
  rw [List.filter_append, List.map_append]
  cases h : okK na nb x <;> simp [h]
theorem selD_snoc (na nb : Nat) (l : List Ky) (x : Ky) : selD na nb (l ++ [x]) = selD na nb l ++ (if okK na nb x = true then [x.d] else []) := by
  unfold selD
  rw [List.filter_append, List.map_append]
  cases h : okK na nb x <;> simp [h]
/-- The reference's Less. -/
def lessK (na nb : Nat) (a b : List Vl) : List Ky → Bool
  | [] => false
  | x :: t => if okK na nb x = true then
      (if x.d = true then
        (if lessV (atV b (x.i - 1).toNat) (atV a (x.i - 1).toNat) = true then true else if lessV (atV a (x.i - 1).toNat) (atV b (x.i - 1).toNat) = true then false else lessK na nb a b t)
      else (if lessV (atV a (x.i - 1).toNat) (atV b (x.i - 1).toNat) = true then true else if lessV (atV b (x.i - 1).toNat) (atV a (x.i - 1).toNat) = true then false else lessK na nb a b t))
    else lessK na nb a b t
theorem lessK_eq (na nb : Nat) (a b : List Vl) : ∀ l : List Ky, lessK na nb a b l = decide (rowsV (selL na nb a l) (selL na nb b l) (selD na nb l) < 0)
  | [] => by simp [lessK, selL, selD, rowsV]
  | x :: t => by
    have ih := lessK_eq na nb a b t
    unfold lessK
    by_cases h : okK na nb x = true
    · rw [if_pos h]
      have e1 : ∀ a', selL na nb a' (x :: t) = atV a' (x.i - 1).toNat :: selL na nb a' t := fun a' => by simp [selL, h]
      have e2 : selD na nb (x :: t) = x.d :: selD na nb t := by simp [selD, h]
      rw [e1, e1, e2, rowsV]
      have hl := lessV_cmp (atV a (x.i - 1).toNat) (atV b (x.i - 1).toNat)
      have hg := lessV_cmp2 (atV a (x.i - 1).toNat) (atV b (x.i - 1).toNat)
      rw [hl, hg, ih]
      generalize cmpV (atV a (x.i - 1).toNat) (atV b (x.i - 1).toNat) = c
      cases x.d
      · by_cases h0 : c = 0
        · simp [h0]
        · by_cases h1 : c < 0
          · simp [h0, h1]
          · have h2 : 0 < c := by omega
            simp [h0, h1, h2]
      · by_cases h0 : c = 0
        · simp [h0]
        · by_cases h1 : c < 0
          · have h2 : ¬ 0 < c := by omega
            have h3 : ¬ (-c < 0) := by omega
            simp [h0, h1, h2, h3]
          · have h2 : 0 < c := by omega
            have h3 : -c < 0 := by omega
            simp [h0, h2, h3]
    · rw [if_neg h]
      have e1 : ∀ a', selL na nb a' (x :: t) = selL na nb a' t := fun a' => by simp [selL, h]
      have e2 : selD na nb (x :: t) = selD na nb t := by simp [selD, h]
      rw [e1, e1, e2]
      exact ih
theorem okK_comm (na nb : Nat) (x : Ky) : okK na nb x = okK nb na x := by
  unfold okK
  rw [decide_eq_decide]
  constructor <;> rintro ⟨h1, h2, h3⟩ <;> exact ⟨h1, h3, h2⟩
theorem sel_comm (na nb : Nat) (a : List Vl) (l : List Ky) : selL na nb a l = selL nb na a l := by
  unfold selL
  rw [show okK na nb = okK nb na from funext (okK_comm na nb)]
theorem selD_comm (na nb : Nat) (l : List Ky) : selD na nb l = selD nb na l := by
  unfold selD
  rw [show okK na nb = okK nb na from funext (okK_comm na nb)]
theorem cmpV_self (a : Vl) : cmpV a a = 0 := by have := cmpV_swap a a; omega
theorem rowsV_same : ∀ (a : List Vl) (d : List Bool), rowsV a a d = 0
  | [], _ => rfl
  | x :: t, d => by
    have := cmpV_self x
    rw [rowsV, if_pos this]
    exact rowsV_same t _
end Go.Proofs.YthpggfcindnlcaaGreatDoor
