/-
  Several texts in one: Ka.
-/
import Derived.Test.YtgndebdoljnheaaGreatDoorMeat
import Derived.Test.YtgndebdoljnheaaGreatDoorMean
import Derived.Test.YtgndebdoljnheaaGreatDoorMeaa
import Derived.Test.YtgndebdoljnheaaGreatDoorMeai
/-
  Keys as bytes (plain): what is written; what is read again.
-/
namespace Go.Proofs.YtgndebdoljnheaaGreatDoor
section
set_option linter.unusedSimpArgs false
set_option linter.unusedVariables false
open Go.RowKit

/-- A text with a byte 255 behind each byte 0. -/
def escL : List UInt8 → List UInt8
  | [] => []
  | c :: r => if c = 0 then 0 :: 255 :: escL r else c :: escL r
theorem escL_cons (c : UInt8) (r : List UInt8) : escL (c :: r) = if c = 0 then 0 :: 255 :: escL r else c :: escL r := rfl
theorem escL_eq (s : List UInt8) : Lib.replaceAll s [0] [0, 255] = escL s := by
  rw [rA_eq (by decide)]
  induction s with
  | nil => exact rA_nil (by decide)
  | cons c r ih =>
    rw [escL_cons]
    by_cases h : c = 0
    · subst h
      rw [if_pos rfl, rA_yes (by decide) (by simp [List.isPrefixOf])]
      simp [ih]
    · rw [if_neg h, rA_no (by decide) (by simp [List.isPrefixOf, Ne.symm h]), ih]
theorem escL_len (s : List UInt8) : (escL s).length ≤ 2 * s.length := by
  induction s with
  | nil => simp [escL]
  | cons c r ih => rw [escL_cons]; split <;> simp <;> omega
theorem escL_app : ∀ (a b : List UInt8), escL (a ++ b) = escL a ++ escL b
  | [], _ => rfl
  | c :: r, b => by
    rw [List.cons_append, escL_cons, escL_cons, escL_app r b]
    split <;> simp
def keyI (i : Int) : List UInt8 := be 8 (i + 9223372036854775808).toNat
def keyV (v : Vl) : List UInt8 := if v.k = 1 then 2 :: keyI v.i else if v.k = 2 then [3, UInt8.ofNat (v.i % 256).toNat] else if v.k = 3 then 4 :: (escL v.s.data.toList ++ [0, 1]) else [1]
def keyR (l : List Vl) : List UInt8 := l.flatMap keyV
def allMay (l : List Vl) : Bool := l.all mayV
def kE (l : List Vl) : Int := if allMay l then 0 else 1
def kS (l : List Vl) : List UInt8 := if allMay l then keyR l else []
theorem keyV_len (v : Vl) : (keyV v).length ≤ 10 + 2 * v.s.size := by
  unfold keyV
  split
  · simp [keyI, be_len]; omega
  · split
    · simp; omega
    · split
      · have := escL_len v.s.data.toList
        have : v.s.data.toList.length = v.s.size := rfl
        simp only [List.length_cons, List.length_append, List.length_nil]; omega
      · simp; omega
theorem keyV_ne (v : Vl) : 1 ≤ (keyV v).length := by
  unfold keyV
  split
  · simp
  · split
    · simp
    · split <;> simp
theorem grV_sum : ∀ (l : List Vl) (q : Int), 0 ≤ q → grV q l = false → q + ((l.map fun v => 1 + v.s.size).sum : Nat) ≤ 5000 ∨ l = []
  | [], q, _, _ => .inr rfl
  | v :: r, q, hq, h => by
    left
    unfold grV at h
    by_cases ht : 5000 < q + (1 + min (v.s.size : Int) 9000)
    · rw [if_pos ht] at h; cases h
    · rw [if_neg ht] at h
      rcases grV_sum r _ (by omega) h with h2 | rfl
      · simp only [List.map_cons, List.sum_cons]; omega
      · simp only [List.map_cons, List.sum_cons, List.map_nil, List.sum_nil]; omega
theorem sum_mem : ∀ (l : List Vl), l.length ≤ (l.map fun v => 1 + v.s.size).sum ∧ (∀ v ∈ l, v.s.size ≤ (l.map fun v => 1 + v.s.size).sum) ∧ (keyR l).length ≤ 10 * (l.map fun v => 1 + v.s.size).sum
  | [] => by simp [keyR]
  | v :: r => by
    obtain ⟨h1, h2, h3⟩ := sum_mem r
    have hv := keyV_len v
    unfold keyR at *
    simp only [List.length_cons, List.map_cons, List.sum_cons, List.flatMap_cons, List.length_append]
    refine ⟨by omega, ?_, by omega⟩
    intro u hu
    rcases List.mem_cons.1 hu with rfl | hu
    · omega
    · have := h2 u hu; omega
theorem grV_bd {l : List Vl} (h : grV 0 l = false) : l.length ≤ 5000 ∧ (∀ v ∈ l, v.s.size ≤ 5000) ∧ (keyR l).length ≤ 50000 := by
  rcases grV_sum l 0 (by omega) h with h1 | rfl
  · obtain ⟨a, b, c⟩ := sum_mem l
    refine ⟨by omega, fun v hv => ?_, by omega⟩
    have := b v hv; omega
  · simp [keyR]
theorem key_take {l : List Vl} {k : Nat} {v : Vl} (h : l[k]? = some v) : keyR (l.take (k + 1)) = keyR (l.take k) ++ keyV v := by
  unfold keyR; rw [List.take_add_one, h]; simp
theorem key_take_len (l : List Vl) (k : Nat) : (keyR (l.take k)).length ≤ (keyR l).length := by
  unfold keyR
  conv => rhs; rw [← List.take_append_drop k l, List.flatMap_append, List.length_append]
  omega

/-- A text read to its end. -/
inductive TD
  | bad (e : Int)
  | ok (t r : List UInt8)
def txt : List UInt8 → List UInt8 → TD
  | _, [] => .bad 3
  | _, [_] => .bad 3
  | o, c :: d :: r => if c = 0 then (if d = 255 then txt (o ++ [0]) r else if d = 1 then (if 48 < o.length then .bad 4 else .ok o r) else .bad 2) else txt (o ++ [c]) (d :: r)
inductive KD
  | bad (e : Int)
  | ok (v : Vl) (r : List UInt8)
def kdB : List UInt8 → KD
  | [] => .bad 3
  | x :: s => if 1 < x.toNat then .bad 2 else .ok ⟨2, x.toNat, ⟨#[]⟩⟩ s
def kdI (r : List UInt8) : KD := if r.length < 8 then .bad 3 else .ok ⟨1, (beVal (r.take 8) : Int) - 9223372036854775808, ⟨#[]⟩⟩ (r.drop 8)
def kdT (r : List UInt8) : KD := match txt [] r with
  | .bad e => .bad e
  | .ok t r' => .ok ⟨3, 0, ⟨t.toArray⟩⟩ r'
def kdV : List UInt8 → KD
  | [] => .bad 6
  | k :: r => if k.toNat = 1 then .ok ⟨0, 0, ⟨#[]⟩⟩ r else if k.toNat = 2 then kdI r else if k.toNat = 3 then kdB r else if k.toNat = 4 then kdT r else .bad 6
theorem txt_len : ∀ (n : Nat) (o l : List UInt8) (t r : List UInt8), l.length ≤ n → txt o l = .ok t r → r.length < l.length ∧ t.length ≤ 48
  | n, o, [], t, r, _, h => by simp [txt] at h
  | n, o, [c], t, r, _, h => by simp [txt] at h
  | n, o, c :: d :: q, t, r, hn, h => by
    cases n with
    | zero => simp at hn
    | succ n =>
      rw [txt] at h
      simp only [List.length_cons] at hn ⊢
      split at h
      · split at h
        · have := txt_len n _ q t r (by omega) h; omega
        · split at h
          · split at h
            · cases h
            · injection h with h1 h2; subst h1; subst h2; omega
          · cases h
      · have := txt_len n _ (d :: q) t r (by simp; omega) h
        simp only [List.length_cons] at this
        omega
theorem kdV_len {l r : List UInt8} {v : Vl} (h : kdV l = .ok v r) : r.length < l.length := by
  cases l with
  | nil => simp [kdV] at h
  | cons k s =>
    rw [kdV] at h
    simp only [List.length_cons]
    split at h
    · injection h with _ h; subst h; omega
    · split at h
      · unfold kdI at h
        split at h
        · cases h
        · injection h with _ h; subst h; simp; omega
      · split at h
        · cases s with
          | nil => cases h
          | cons x t =>
            rw [kdB] at h
            split at h
            · cases h
            · injection h with _ h; subst h; simp; omega
        · split at h
          · unfold kdT at h
            cases ht : txt [] s with
            | bad e => rw [ht] at h; cases h
            | ok t q => rw [ht] at h; injection h with _ h; subst h; have := (txt_len _ _ _ _ _ (Nat.le_refl _) ht).1; omega
          · cases h
/-- A row read: the values, the error. -/
def kdN : Nat → List UInt8 → List Vl × Int
  | 0, _ => ([], 0)
  | _ + 1, [] => ([], 0)
  | n + 1, k :: r => match kdV (k :: r) with
    | .bad e => ([], e)
    | .ok v r' => match kdN n r' with
      | (l, e) => if e = 0 then (v :: l, 0) else ([], e)
def kdR (l : List UInt8) : List Vl × Int := kdN l.length l
theorem kdN_more : ∀ (n m : Nat) (l : List UInt8), l.length ≤ n → l.length ≤ m → kdN n l = kdN m l
  | 0, m, l, h, _ => by
    have : l = [] := List.eq_nil_of_length_eq_zero (by omega)
    subst this
    cases m <;> rfl
  | n + 1, 0, l, _, h => by
    have : l = [] := List.eq_nil_of_length_eq_zero (by omega)
    subst this
    rfl
  | n + 1, m + 1, [], _, _ => rfl
  | n + 1, m + 1, k :: r, h1, h2 => by
    rw [kdN, kdN]
    cases hk : kdV (k :: r) with
    | bad e => rfl
    | ok v r' =>
      have := kdV_len hk
      simp only [List.length_cons] at this h1 h2
      simp only
      rw [kdN_more n m r' (by omega) (by omega)]
theorem kdR_nil : kdR [] = ([], 0) := rfl
theorem kdR_bad {l : List UInt8} {e : Int} (hl : l ≠ []) (h : kdV l = .bad e) : kdR l = ([], e) := by
  cases l with
  | nil => exact absurd rfl hl
  | cons k r => unfold kdR; rw [List.length_cons, kdN, h]
theorem kdR_ok {l r : List UInt8} {v : Vl} (h : kdV l = .ok v r) : kdR l = if (kdR r).2 = 0 then (v :: (kdR r).1, 0) else ([], (kdR r).2) := by
  have hl := kdV_len h
  cases l with
  | nil => simp at hl
  | cons k s =>
    unfold kdR
    simp only [List.length_cons] at hl ⊢
    rw [kdN, h]
    simp only
    rw [kdN_more s.length r.length r (by omega) (Nat.le_refl _)]
end
end Go.Proofs.YtgndebdoljnheaaGreatDoor
