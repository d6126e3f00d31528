/-
  Keys stand as rows do (plain).
-/
import Derived.Test.YtohaplmbgipbcaaDoorKo
namespace Go.Proofs.YtohaplmbgipbcaaDoor
open Go.RowKit

abbrev cb := Lib.compareBytes
theorem cb_cons (x y : UInt8) (a b : List UInt8) : cb (x :: a) (y :: b) = if x < y then -1 else if y < x then 1 else cb a b := rfl
theorem cb_same (x : UInt8) (a b : List UInt8) : cb (x :: a) (x :: b) = cb a b := by
  rw [cb_cons, if_neg (UInt8.lt_irrefl x), if_neg (UInt8.lt_irrefl x)]
theorem cb_pre : ∀ (p a b : List UInt8), cb (p ++ a) (p ++ b) = cb a b
  | [], _, _ => rfl
  | x :: p, a, b => by rw [List.cons_append, List.cons_append, cb_same]; exact cb_pre p a b
theorem cb_self : ∀ a : List UInt8, cb a a = 0
  | [] => rfl
  | x :: a => by rw [cb_same]; exact cb_self a
theorem cb_zero : ∀ {a b : List UInt8}, cb a b = 0 → a = b
  | [], [], _ => rfl
  | [], _ :: _, h => by cases h
  | _ :: _, [], h => by cases h
  | x :: a, y :: b, h => by
    rw [cb_cons] at h
    split at h
    · cases h
    · split at h
      · cases h
      · rename_i h1 h2
        have : x = y := by
          rw [UInt8.lt_iff_toNat_lt] at h1 h2
          exact UInt8.toNat_inj.1 (by omega)
        rw [this, cb_zero h]
theorem cb_nat (x y : Nat) (hx : x < 256) (hy : y < 256) (a b : List UInt8) : cb (UInt8.ofNat x :: a) (UInt8.ofNat y :: b) = if x < y then -1 else if y < x then 1 else cb a b := by
  have h1 : (UInt8.ofNat x).toNat = x := by simp; omega
  have h2 : (UInt8.ofNat y).toNat = y := by simp; omega
  rw [cb_cons]
  simp only [UInt8.lt_iff_toNat_lt, h1, h2]
theorem be_mod : ∀ (n u : Nat), be n (u % 256 ^ n) = be n u
  | 0, _ => rfl
  | n + 1, u => by
    rw [be, be]
    have h1 : u % 256 ^ (n + 1) / 256 = u / 256 % 256 ^ n := by
      rw [Nat.pow_succ, Nat.mul_comm, Nat.mod_mul_right_div_self]
    have h2 : UInt8.ofNat (u % 256 ^ (n + 1)) = UInt8.ofNat u := by
      apply UInt8.toNat_inj.1
      simp only [UInt8.toNat_ofNat']
      rw [Nat.pow_succ]
      show u % (256 ^ n * 256) % 256 = u % 256
      exact Nat.mod_mod_of_dvd u (Nat.dvd_mul_left 256 _)
    rw [h1, h2, be_mod n]
theorem cb_be : ∀ (n U V : Nat) (a b : List UInt8), U < 256 ^ n → V < 256 ^ n → U ≠ V → cb (be n U ++ a) (be n V ++ b) = if U < V then -1 else 1
  | 0, U, V, _, _, hU, hV, hne => by simp at hU hV; omega
  | n + 1, U, V, a, b, hU, hV, hne => by
    have hp : 0 < 256 ^ n := Nat.pow_pos (by decide)
    have qU : U / 256 ^ n < 256 := by rw [Nat.div_lt_iff_lt_mul hp, Nat.mul_comm]; rwa [Nat.pow_succ] at hU
    have qV : V / 256 ^ n < 256 := by rw [Nat.div_lt_iff_lt_mul hp, Nat.mul_comm]; rwa [Nat.pow_succ] at hV
    have dU := Nat.div_add_mod U (256 ^ n)
    have dV := Nat.div_add_mod V (256 ^ n)
    have mU := Nat.mod_lt U hp
    have mV := Nat.mod_lt V hp
    have hlt : ∀ x y : Nat, U / 256 ^ n = x → V / 256 ^ n = y → x < y → U < V := by
      intro x y hx hy hxy
      have : 256 ^ n * (x + 1) ≤ 256 ^ n * y := Nat.mul_le_mul_left _ hxy
      rw [hx] at dU
      rw [hy] at dV
      rw [Nat.mul_succ] at this
      omega
    have hgt : ∀ x y : Nat, U / 256 ^ n = x → V / 256 ^ n = y → y < x → V < U := by
      intro x y hx hy hxy
      have : 256 ^ n * (y + 1) ≤ 256 ^ n * x := Nat.mul_le_mul_left _ hxy
      rw [hx] at dU
      rw [hy] at dV
      rw [Nat.mul_succ] at this
      omega
    rw [be_cons, be_cons, List.cons_append, List.cons_append, cb_nat _ _ qU qV]
    by_cases h1 : U / 256 ^ n < V / 256 ^ n
    · rw [if_pos h1, if_pos (hlt _ _ rfl rfl h1)]
    · rw [if_neg h1]
      by_cases h2 : V / 256 ^ n < U / 256 ^ n
      · have := hgt _ _ rfl rfl h2
        rw [if_pos h2, if_neg (by omega)]
      · rw [if_neg h2]
        have he : U / 256 ^ n = V / 256 ^ n := by omega
        rw [← be_mod n U, ← be_mod n V]
        have hne2 : U % 256 ^ n ≠ V % 256 ^ n := by
          intro e
          rw [he, e] at dU
          omega
        rw [cb_be n _ _ a b mU mV hne2]
        rw [he] at dU
        by_cases h3 : U % 256 ^ n < V % 256 ^ n
        · rw [if_pos h3, if_pos (by omega)]
        · rw [if_neg h3, if_neg (by omega)]
theorem cb_esc : ∀ (s t a b : List UInt8), s ≠ t → cb (escL s ++ 0 :: 1 :: a) (escL t ++ 0 :: 1 :: b) = cb s t
  | [], [], _, _, h => absurd rfl h
  | [], d :: t, a, b, _ => by
    rw [escL_cons]
    by_cases hd : d = 0
    · subst hd
      rw [if_pos rfl]
      show cb (0 :: 1 :: a) (0 :: 255 :: (escL t ++ 0 :: 1 :: b)) = -1
      rw [cb_same, cb_cons, if_pos (by decide)]
    · rw [if_neg hd]
      show cb (0 :: 1 :: a) (d :: (escL t ++ 0 :: 1 :: b)) = -1
      have : (0 : UInt8) < d := by
        rw [UInt8.lt_iff_toNat_lt]
        have : d.toNat ≠ 0 := fun e => hd (UInt8.toNat_inj.1 e)
        show 0 < d.toNat
        omega
      rw [cb_cons, if_pos this]
  | c :: s, [], a, b, _ => by
    rw [escL_cons]
    by_cases hd : c = 0
    · subst hd
      rw [if_pos rfl]
      show cb (0 :: 255 :: (escL s ++ 0 :: 1 :: a)) (0 :: 1 :: b) = 1
      rw [cb_same, cb_cons, if_neg (by decide), if_pos (by decide)]
    · rw [if_neg hd]
      show cb (c :: (escL s ++ 0 :: 1 :: a)) (0 :: 1 :: b) = 1
      have : (0 : UInt8) < c := by
        rw [UInt8.lt_iff_toNat_lt]
        have : c.toNat ≠ 0 := fun e => hd (UInt8.toNat_inj.1 e)
        show 0 < c.toNat
        omega
      rw [cb_cons, if_neg (by rw [UInt8.lt_iff_toNat_lt] at this ⊢; show ¬ c.toNat < 0; omega), if_pos this]
  | c :: s, d :: t, a, b, h => by
    by_cases hcd : c = d
    · subst hcd
      have hst : s ≠ t := fun e => h (by rw [e])
      rw [cb_same, escL_cons, escL_cons]
      by_cases hc : c = 0
      · rw [if_pos hc, if_pos hc]
        show cb (0 :: 255 :: (escL s ++ _)) (0 :: 255 :: (escL t ++ _)) = _
        rw [cb_same, cb_same]
        exact cb_esc s t a b hst
      · rw [if_neg hc, if_neg hc]
        show cb (c :: (escL s ++ _)) (c :: (escL t ++ _)) = _
        rw [cb_same]
        exact cb_esc s t a b hst
    · have hne : c.toNat ≠ d.toNat := fun e => hcd (UInt8.toNat_inj.1 e)
      have e1 : ∃ x, escL (c :: s) ++ 0 :: 1 :: a = c :: x := by
        rw [escL_cons]
        by_cases hc : c = 0
        · subst hc; rw [if_pos rfl]; exact ⟨_, rfl⟩
        · rw [if_neg hc]; exact ⟨_, rfl⟩
      have e2 : ∃ x, escL (d :: t) ++ 0 :: 1 :: b = d :: x := by
        rw [escL_cons]
        by_cases hc : d = 0
        · subst hc; rw [if_pos rfl]; exact ⟨_, rfl⟩
        · rw [if_neg hc]; exact ⟨_, rfl⟩
      obtain ⟨x, hx⟩ := e1
      obtain ⟨y, hy⟩ := e2
      rw [hx, hy, cb_cons, cb_cons]
      simp only [UInt8.lt_iff_toNat_lt]
      by_cases h1 : c.toNat < d.toNat
      · rw [if_pos h1, if_pos h1]
      · rw [if_neg h1, if_neg h1, if_pos (by omega), if_pos (by omega)]

/-- Two values that may be, and are not the same, part within their keys, as they stand. -/
theorem cb_key {v u : Vl} (hv : mayV v = true) (hu : mayV u = true) (v0 : -9223372036854775808 ≤ v.i) (v1 : v.i ≤ 9223372036854775807) (u0 : -9223372036854775808 ≤ u.i) (u1 : u.i ≤ 9223372036854775807) :
    (cmpV v u = 0 ∧ v = u) ∨ (cmpV v u ≠ 0 ∧ ∀ a b, cb (keyV v ++ a) (keyV u ++ b) = cmpV v u) := by
  have hd : ∀ (x y : UInt8) (p q a b : List UInt8), x ≠ y → cb ((x :: p) ++ a) ((y :: q) ++ b) = if x < y then -1 else 1 := by
    intro x y p q a b h
    rw [List.cons_append, List.cons_append, cb_cons]
    by_cases h1 : x < y
    · rw [if_pos h1, if_pos h1]
    · rw [if_neg h1, if_neg h1, if_pos]
      rw [UInt8.lt_iff_toNat_lt] at h1 ⊢
      have : x.toNat ≠ y.toNat := fun e => h (UInt8.toNat_inj.1 e)
      omega
  rcases may_cases hv with rfl | ⟨i, rfl⟩ | rfl | rfl | ⟨s, rfl, hs⟩ <;> rcases may_cases hu with rfl | ⟨j, rfl⟩ | rfl | rfl | ⟨t, rfl, ht⟩
  all_goals first
    | exact .inl ⟨rfl, rfl⟩
    | (right; refine ⟨by show (-1 : Int) ≠ 0; decide, fun a b => ?_⟩; exact hd _ _ _ _ a b (by decide))
    | (right; refine ⟨by show (1 : Int) ≠ 0; decide, fun a b => ?_⟩; exact hd _ _ _ _ a b (by decide))
    | (right; refine ⟨by show (-1 : Int) ≠ 0; decide, fun a b => ?_⟩; rfl)
    | (right; refine ⟨by show (1 : Int) ≠ 0; decide, fun a b => ?_⟩; rfl)
    | skip
  · -- two numbers
    have hc : cmpV ⟨1, i, ⟨#[]⟩⟩ ⟨1, j, ⟨#[]⟩⟩ = cmpI i j := rfl
    rw [hc]
    simp only at v0 v1 u0 u1
    by_cases h : i = j
    · subst h
      exact .inl ⟨by unfold cmpI; rw [if_neg (by omega), if_neg (by omega)], rfl⟩
    · right
      refine ⟨fun e => h ((cmpI_zero i j).1 e), fun a b => ?_⟩
      show cb (2 :: (keyI i ++ a)) (2 :: (keyI j ++ b)) = _
      unfold keyI
      rw [cb_same, cb_be 8 _ _ a b (by omega) (by omega) (by omega)]
      unfold cmpI
      by_cases h1 : i < j
      · rw [if_pos h1, if_pos (by omega)]
      · rw [if_neg h1, if_neg (by omega), if_pos (by omega)]
  · -- two texts
    have hc : cmpV ⟨3, 0, s⟩ ⟨3, 0, t⟩ = cb s.data.toList t.data.toList := rfl
    rw [hc]
    by_cases h : s.data.toList = t.data.toList
    · left
      refine ⟨by rw [h]; exact cb_self _, ?_⟩
      rw [bx h]
    · right
      refine ⟨fun e => h (cb_zero e), fun a b => ?_⟩
      show cb (4 :: ((escL s.data.toList ++ [0, 1]) ++ a)) (4 :: ((escL t.data.toList ++ [0, 1]) ++ b)) = _
      rw [cb_same]
      have e : ∀ (p q : List UInt8), (escL p ++ [0, 1]) ++ q = escL p ++ 0 :: 1 :: q := fun p q => by simp
      rw [e, e]
      exact cb_esc _ _ a b h
end Go.Proofs.YtohaplmbgipbcaaDoor
