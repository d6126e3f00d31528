
/-
  Facts on decimals: what is written is read again; values shown and read (plain).
-/
import Derived.Test.YtblpflobpffjnaaDoorVb
import Derived.Lib.ParseIntB
import Derived.Lib.ItoaMem
namespace Go.Proofs.YtblpflobpffjnaaDoor
open Go.Lib

theorem dd_small {u : Nat} (h : u < 10) : decDigits u = [UInt8.ofNat (48 + u)] := by rw [decDigits, dif_pos h]
theorem dd_big {u : Nat} (h : ¬ u < 10) : decDigits u = decDigits (u / 10) ++ [UInt8.ofNat (48 + u % 10)] := by rw [decDigits, dif_neg h]
theorem dg_nat {d : Nat} (h : d < 10) : (UInt8.ofNat (48 + d)).toNat = 48 + d := by simp; omega
theorem dd_head : ∀ (k u : Nat), u ≤ k → ∃ c r, decDigits u = c :: r ∧ 48 ≤ c.toNat ∧ c.toNat ≤ 57
  | k, u, hk => by
    by_cases h : u < 10
    · exact ⟨_, [], dd_small h, by rw [dg_nat h]; omega, by rw [dg_nat h]; omega⟩
    · cases k with
      | zero => omega
      | succ k =>
        obtain ⟨c, r, e, h1, h2⟩ := dd_head k (u / 10) (by omega)
        exact ⟨c, r ++ [UInt8.ofNat (48 + u % 10)], by rw [dd_big h, e]; rfl, h1, h2⟩
theorem pum_app {M : Nat} : ∀ {l r : List UInt8} {a b : Nat}, parseUintM M a l = .ok b → parseUintM M a (l ++ r) = parseUintM M b r
  | [], _, a, b, h => by simp [parseUintM] at h; subst h; rfl
  | c :: l, r, a, b, h => by
    rw [parseUintM] at h
    rw [List.cons_append, parseUintM]
    split at h
    · rename_i h1
      rw [if_pos h1]
      split at h
      · cases h
      · rename_i h2
        rw [if_neg h2]
        split at h
        · cases h
        · rename_i h3
          rw [if_neg h3]
          exact pum_app h
    · cases h
theorem pum_dd {M : Nat} (hM : M < 18446744073709551616) : ∀ (k u : Nat), u ≤ k → u ≤ M → parseUintM M 0 (decDigits u) = .ok u
  | k, u, hk, hu => by
    by_cases h : u < 10
    · rw [dd_small h, parseUintM, dg_nat h, if_pos (by omega), if_neg (by omega), if_neg (by omega), parseUintM]
      congr 1; omega
    · cases k with
      | zero => omega
      | succ k =>
        rw [dd_big h, pum_app (pum_dd hM k (u / 10) (by omega) (by omega)), parseUintM, dg_nat (by omega), if_pos (by omega), if_neg (by omega), if_neg (by omega), parseUintM]
        congr 1; omega
theorem itoa_cases (i : Int) : (i < 0 ∧ itoa i = 45 :: decDigits i.natAbs) ∨ (0 ≤ i ∧ itoa i = decDigits i.toNat) := by
  unfold itoa
  by_cases h : i < 0
  · exact .inl ⟨h, by rw [if_pos h]⟩
  · exact .inr ⟨by omega, by rw [if_neg h]⟩
theorem itoa_head (i : Int) : ∃ c r, itoa i = c :: r ∧ (c = 45 ∨ 48 ≤ c.toNat ∧ c.toNat ≤ 57) := by
  rcases itoa_cases i with ⟨_, h⟩ | ⟨_, h⟩
  · exact ⟨45, _, h, .inl rfl⟩
  · obtain ⟨c, r, e, h1, h2⟩ := dd_head _ i.toNat (Nat.le_refl _)
    exact ⟨c, r, h.trans e, .inr ⟨h1, h2⟩⟩
theorem pib_ok (c : UInt8) (r : List UInt8) (u : Nat) (hq : parseUintB 64 (if c.toNat = 43 ∨ c.toNat = 45 then r else c :: r) = .ok u) :
    parseIntB 64 (c :: r) = if ¬ c.toNat = 45 ∧ 2 ^ (64 - 1) ≤ u then .range else if c.toNat = 45 ∧ 2 ^ (64 - 1) < u then .range else .ok (if c.toNat = 45 then -(u : Int) else u) := by
  simp only [parseIntB, hq]
theorem pib_itoa (i : Int) (h0 : -9223372036854775808 ≤ i) (h1 : i ≤ 9223372036854775807) : parseIntB 64 (itoa i) = .ok i := by
  rcases itoa_cases i with ⟨hn, h⟩ | ⟨hn, h⟩
  · rw [h]
    have hne : decDigits i.natAbs ≠ [] := by obtain ⟨c, r, e, _⟩ := dd_head _ i.natAbs (Nat.le_refl _); rw [e]; simp
    have hp := pum_dd (M := 2 ^ 64 - 1) (by decide) _ i.natAbs (Nat.le_refl _) (by omega)
    have hq : parseUintB 64 (decDigits i.natAbs) = .ok i.natAbs := by unfold parseUintB; rw [if_neg hne, hp]
    have e45 : (45 : UInt8).toNat = 45 := rfl
    rw [pib_ok 45 _ i.natAbs (by rw [if_pos (.inr e45)]; exact hq)]
    rw [if_neg (fun h => h.1 e45), if_neg (by omega), if_pos e45]
    congr 1; omega
  · obtain ⟨c, r, e, c1, c2⟩ := dd_head _ i.toNat (Nat.le_refl _)
    have hp := pum_dd (M := 2 ^ 64 - 1) (by decide) _ i.toNat (Nat.le_refl _) (by omega)
    rw [h]
    rw [e] at hp ⊢
    have hq : parseUintB 64 (c :: r) = .ok i.toNat := by unfold parseUintB; rw [if_neg (by simp), hp]
    rw [pib_ok c r i.toNat (by rw [if_neg (by omega)]; exact hq)]
    rw [if_neg (by omega), if_neg (by omega), if_neg (by omega)]
    congr 1; omega

/-- Digits summed up, as far as there is room. -/
def accR : Nat → List UInt8 → Option Nat
  | a, [] => some a
  | a, c :: r => if c.toNat < 48 ∨ 57 < c.toNat then none else if 9223372036854775808 < 10 * a + (c.toNat - 48) then none else accR (10 * a + (c.toNat - 48)) r
theorem accR_app : ∀ {l r : List UInt8} {a b : Nat}, accR a l = some b → accR a (l ++ r) = accR b r
  | [], _, a, b, h => by simp [accR] at h; subst h; rfl
  | c :: l, r, a, b, h => by
    rw [accR] at h
    rw [List.cons_append, accR]
    split at h
    · cases h
    · rename_i h1
      rw [if_neg h1]
      split at h
      · cases h
      · rename_i h2
        rw [if_neg h2]
        exact accR_app h
theorem accR_dd : ∀ (k u : Nat), u ≤ k → u ≤ 9223372036854775808 → accR 0 (decDigits u) = some u
  | k, u, hk, hu => by
    by_cases h : u < 10
    · rw [dd_small h, accR, dg_nat h, if_neg (by omega), if_neg (by omega), accR]
      congr 1; omega
    · cases k with
      | zero => omega
      | succ k =>
        rw [dd_big h, accR_app (accR_dd k (u / 10) (by omega) (by omega)), accR, dg_nat (by omega), if_neg (by omega), if_neg (by omega), accR]
        congr 1; omega
theorem accR_le : ∀ {l : List UInt8} {a b : Nat}, accR a l = some b → a ≤ 9223372036854775808 → b ≤ 9223372036854775808
  | [], a, b, h, ha => by simp [accR] at h; omega
  | c :: l, a, b, h, ha => by
    rw [accR] at h
    split at h
    · cases h
    · split at h
      · cases h
      · exact accR_le h (by omega)
/-- A decimal number; is it just as it is written? -/
def numL : List UInt8 → Int × Bool
  | [] => (0, false)
  | c :: r => if c = 45 then (if r = [] then (0, false) else match accR 0 r with
      | none => (0, false)
      | some a => (-(a : Int), itoa (-(a : Int)) == c :: r)) else match accR 0 (c :: r) with
      | none => (0, false)
      | some a => if a = 9223372036854775808 then (0, false) else ((a : Int), itoa (a : Int) == c :: r)
theorem numL_cons (c : UInt8) (r : List UInt8) : numL (c :: r) = if c = 45 then (if r = [] then (0, false) else match accR 0 r with
      | none => (0, false)
      | some a => (-(a : Int), itoa (-(a : Int)) == c :: r)) else match accR 0 (c :: r) with
      | none => (0, false)
      | some a => if a = 9223372036854775808 then (0, false) else ((a : Int), itoa (a : Int) == c :: r) := rfl
theorem numL_sound {s : List UInt8} (h : (numL s).2 = true) : itoa (numL s).1 = s ∧ -9223372036854775808 ≤ (numL s).1 ∧ (numL s).1 ≤ 9223372036854775807 := by
  cases s with
  | nil => cases h
  | cons c r =>
    rw [numL_cons] at h ⊢
    by_cases h1 : c = 45
    · rw [if_pos h1] at h ⊢
      by_cases h2 : r = []
      · rw [if_pos h2] at h; cases h
      · rw [if_neg h2] at h ⊢
        cases ha : accR 0 r with
        | none => rw [ha] at h; cases h
        | some a =>
          rw [ha] at h
          have := accR_le ha (by omega)
          exact ⟨by simpa using h, by simp only; omega, by simp only; omega⟩
    · rw [if_neg h1] at h ⊢
      cases ha : accR 0 (c :: r) with
      | none => rw [ha] at h; cases h
      | some a =>
        rw [ha] at h
        have := accR_le ha (by omega)
        simp only at h ⊢
        by_cases h2 : a = 9223372036854775808
        · rw [if_pos h2] at h; cases h
        · rw [if_neg h2] at h ⊢
          exact ⟨by simpa using h, by simp only; omega, by simp only; omega⟩
theorem numL_itoa (i : Int) (h0 : -9223372036854775808 ≤ i) (h1 : i ≤ 9223372036854775807) : numL (itoa i) = (i, true) := by
  rcases itoa_cases i with ⟨hn, h⟩ | ⟨hn, h⟩
  · have hne : decDigits i.natAbs ≠ [] := by obtain ⟨c, r, e, _⟩ := dd_head _ i.natAbs (Nat.le_refl _); rw [e]; simp
    have ha := accR_dd _ i.natAbs (Nat.le_refl _) (by omega)
    have hi : -((i.natAbs : Nat) : Int) = i := by omega
    rw [h, numL_cons, if_pos rfl, if_neg hne, ha]
    simp only [hi, h]
    simp
  · obtain ⟨c, r, e, c1, c2⟩ := dd_head _ i.toNat (Nat.le_refl _)
    have ha := accR_dd _ i.toNat (Nat.le_refl _) (by omega)
    have hi : ((i.toNat : Nat) : Int) = i := by omega
    have hc : ¬ c = 45 := by intro e; subst e; exact absurd c1 (by decide)
    rw [h]
    rw [e] at ha ⊢
    rw [numL_cons, if_neg hc, ha]
    simp only [hi]
    rw [if_neg (by omega), h, e]
    simp
end Go.Proofs.YtblpflobpffjnaaDoor
