
/-
  Numbers as rows of digits of 2^16: the plain mathematics, and the words for walks.
-/
import Derived.Test.YthpggfcindnlcaaGreatDoorMem
set_option linter.unusedSimpArgs false
set_option linter.unusedVariables false
namespace Go.Proofs.YthpggfcindnlcaaGreatDoor
open Go.RowKit

/-- What digits come to, the lowest first. -/
def dv : List Nat → Nat
  | [] => 0
  | d :: r => d + 65536 * dv r
def dok (l : List Nat) : Prop := ∀ d ∈ l, d < 65536
def vD (l : List Nat) : List Value := l.map (fun d : Nat => Value.int .u64 (d : Int))
theorem vD_len (l : List Nat) : (vD l).length = l.length := by simp [vD]
theorem vD_at {l : List Nat} {k : Nat} {u : Value} (h : (vD l)[k]? = some u) : ∃ d : Nat, l[k]? = some d ∧ u = .int .u64 (d : Int) := by
  simp only [vD, List.getElem?_map, Option.map_eq_some_iff] at h
  obtain ⟨x, h1, rfl⟩ := h
  exact ⟨x, h1, rfl⟩
theorem vD_one (l : List Nat) : ∀ u ∈ vD l, u.oneCell' = true := by
  intro u hu
  obtain ⟨x, _, rfl⟩ := List.mem_map.1 hu
  rfl
theorem dv_app (a b : List Nat) : dv (a ++ b) = dv a + 65536 ^ a.length * dv b := by
  induction a with
  | nil => simp [dv]
  | cons d r ih => simp only [List.cons_append, dv, ih, List.length_cons, Nat.pow_succ]; rw [Nat.mul_add, Nat.add_assoc, Nat.mul_comm (65536 ^ r.length) 65536, Nat.mul_assoc]
theorem dv_lt {l : List Nat} (h : dok l) : dv l < 65536 ^ l.length := by
  induction l with
  | nil => simp [dv]
  | cons d r ih =>
    have h1 := ih fun x hx => h x (by simp [hx])
    have h2 := h d (by simp)
    simp only [dv, List.length_cons, Nat.pow_succ]
    have : dv r + 1 ≤ 65536 ^ r.length := h1
    omega
theorem dv_drop {l : List Nat} {k d : Nat} (h : l[k]? = some d) : dv (l.drop k) = d + 65536 * dv (l.drop (k + 1)) := by
  have hk := lt_of_at h
  have : l[k] = d := by simpa [List.getElem?_eq_getElem hk] using h
  rw [List.drop_eq_getElem_cons hk, this]
  rfl
/-- The digit at a place; 0 behind the last one. -/
def dg (l : List Nat) (k : Nat) : Nat := l[k]?.getD 0
theorem dg_lt {l : List Nat} (h : dok l) (k : Nat) : dg l k < 65536 := by
  unfold dg
  cases hk : l[k]? with
  | none => simp
  | some d => exact h d (List.mem_of_getElem? hk)
theorem dg_out {l : List Nat} {k : Nat} (h : l.length ≤ k) : dg l k = 0 := by unfold dg; rw [List.getElem?_eq_none h]; rfl
theorem dv_dg (l : List Nat) (k : Nat) : dv (l.drop k) = dg l k + 65536 * dv (l.drop (k + 1)) := by
  unfold dg
  cases hk : l[k]? with
  | none =>
    have h1 := List.getElem?_eq_none_iff.1 hk
    rw [List.drop_eq_nil_of_le h1, List.drop_eq_nil_of_le (by omega)]
    rfl
  | some d => exact dv_drop hk

/-- A number in memory: its sign, and its digits. -/
def IsN (w : World) (v : Value) (sg : Int) (x : Nat) (m : Nat) : Prop :=
  ∃ (A : Option Addr) (n c : Nat) (l : List Nat), v = .agg #[.int .i64 sg, .slice A n c] ∧ Reads w w.heap.size 1 A n (vD l) ∧ n ≤ c ∧ n ≤ m ∧ dok l ∧ dv l = x ∧ l.length = n
theorem IsN.below {w w' : World} {v : Value} {sg : Int} {x m : Nat} (h : IsN w v sg x m) (hb : Below w.heap.size w w') : IsN w' v sg x m := by
  obtain ⟨A, n, c, l, h1, h2, h3, h4, h5, h6, h7⟩ := h
  exact ⟨A, n, c, l, h1, (h2.below hb).more hb.size, h3, h4, h5, h6, h7⟩
def RetN (w : World) (sg : Int) (x m : Nat) (e : Ending) (w' : World) : Prop := ∃ v, e = .returned v ∧ IsN w' v sg x m ∧ Below w.heap.size w w'

theorem size_step {a b s q : Nat} {O A B : List Nat} {i c : Nat} (hO : O.length = i) (h : dv O + 65536 ^ i * (c + dv (A.drop i) + dv (B.drop i)) = s) (ha : dg A i = a) (hb : dg B i = b) (hq : a + b + c = q) :
    dv (O ++ [q % 65536]) + 65536 ^ (i + 1) * (q / 65536 + dv (A.drop (i + 1)) + dv (B.drop (i + 1))) = s := by
  rw [dv_app, hO]
  have h1 := dv_dg A i
  have h2 := dv_dg B i
  rw [ha] at h1
  rw [hb] at h2
  rw [h1, h2] at h
  rw [← h]
  have hm := Nat.div_add_mod q 65536
  have e : dv [q % 65536] = q % 65536 := by simp [dv]
  rw [e, Nat.pow_succ]
  generalize 65536 ^ i = P
  generalize dv (A.drop (i + 1)) = X
  generalize dv (B.drop (i + 1)) = Y
  rw [Nat.add_assoc]
  congr 1
  rw [Nat.mul_assoc, ← Nat.mul_add]
  congr 1
  omega
theorem dok_snoc {l : List Nat} {d : Nat} (h : dok l) (hd : d < 65536) : dok (l ++ [d]) := by
  intro x hx
  rcases List.mem_append.1 hx with hx | hx
  · exact h x hx
  · simp at hx; omega

theorem whole_step {i x N : Nat} {O : List Nat} (hO : O.length = i) (h : dv O + 65536 ^ i * x = N) : dv (O ++ [x % 65536]) + 65536 ^ (i + 1) * (x / 65536) = N := by
  rw [dv_app, hO, ← h]
  have e : dv [x % 65536] = x % 65536 := by simp [dv]
  rw [e, Nat.pow_succ, Nat.mul_assoc, Nat.add_assoc, ← Nat.mul_add]
  congr 2
  omega
/-- What the digits below a place come to. -/
def low (l : List Nat) (i : Nat) : Nat := dv (l.take i)
theorem low_all {l : List Nat} {i : Nat} (h : l.length ≤ i) : low l i = dv l := by unfold low; rw [List.take_of_length_le h]
theorem low_succ (l : List Nat) (i : Nat) : low l (i + 1) = low l i + 65536 ^ i * dg l i := by
  unfold low dg
  rw [List.take_add_one]
  cases h : l[i]? with
  | none => simp
  | some d =>
    have := lt_of_at h
    simp only [Option.toList_some, Option.getD_some]
    rw [dv_app, List.length_take, Nat.min_eq_left (by omega)]
    simp [dv]
theorem low_lt {l : List Nat} (h : dok l) (i : Nat) : low l i < 65536 ^ i := by
  unfold low
  have h1 : dok (l.take i) := fun x hx => h x (List.mem_of_mem_take hx)
  refine Nat.lt_of_lt_of_le (dv_lt h1) ?_
  exact Nat.pow_le_pow_right (by omega) (by rw [List.length_take]; omega)
theorem dv_split (l : List Nat) (i : Nat) : dv l = low l i + 65536 ^ i * dv (l.drop i) := by
  unfold low
  by_cases h : i ≤ l.length
  · have := dv_app (l.take i) (l.drop i)
    rw [List.take_append_drop, List.length_take, Nat.min_eq_left h] at this
    exact this
  · rw [List.drop_eq_nil_of_le (by omega), List.take_of_length_le (by omega)]
    simp [dv]
/-- The highest digit that differs tells. -/
theorem less_at {a b : List Nat} (ha : dok a) (hb : dok b) {k : Nat} (hh : dv (a.drop (k + 1)) = dv (b.drop (k + 1))) (hd : dg a k ≠ dg b k) : decide (dv a < dv b) = decide (dg a k < dg b k) := by
  rw [dv_split a k, dv_split b k, dv_dg a k, dv_dg b k, hh]
  have h1 := low_lt ha k
  have h2 := low_lt hb k
  generalize low a k = x at *
  generalize low b k = y at *
  generalize dv (b.drop (k + 1)) = Z
  generalize dg a k = p at *
  generalize dg b k = q at *
  generalize 65536 ^ k = P at *
  rcases Nat.lt_or_gt_of_ne hd with h | h
  · have h3 : P * (p + 65536 * Z) + P ≤ P * (q + 65536 * Z) := by rw [← Nat.mul_succ]; exact Nat.mul_le_mul_left P (by omega)
    have : x + P * (p + 65536 * Z) < y + P * (q + 65536 * Z) := by omega
    simp [this, h]
  · have h3 : P * (q + 65536 * Z) + P ≤ P * (p + 65536 * Z) := by rw [← Nat.mul_succ]; exact Nat.mul_le_mul_left P (by omega)
    have h4 : ¬ x + P * (p + 65536 * Z) < y + P * (q + 65536 * Z) := by omega
    have h5 : ¬ p < q := by omega
    simp [h4, h5]
theorem less_eq {a b : List Nat} (h : dv (a.drop 0) = dv (b.drop 0)) : decide (dv a < dv b) = false := by
  simp only [List.drop_zero] at h
  simp [h]
/-- One digit of a difference: what is borrowed is paid by the next one. -/
theorem apart_step {A B O : List Nat} {i br q : Nat} (hO : O.length = i) (h : dv O + low B i = low A i + br * 65536 ^ i) (hbr : br ≤ 1) (hA : dg A i < 65536) (hB : dg B i < 65536) (hq : q + dg B i + br = dg A i + 65536) :
    dv (O ++ [q % 65536]) + low B (i + 1) = low A (i + 1) + (1 - q / 65536) * 65536 ^ (i + 1) ∧ q / 65536 ≤ 1 := by
  have hq1 : q / 65536 ≤ 1 := by omega
  refine ⟨?_, hq1⟩
  rw [dv_app, hO, low_succ, low_succ, Nat.pow_succ]
  have e : dv [q % 65536] = q % 65536 := by simp [dv]
  rw [e]
  have hm := Nat.div_add_mod q 65536
  generalize 65536 ^ i = P at *
  generalize dg A i = a at *
  generalize dg B i = b at *
  generalize low A i = x at *
  generalize low B i = y at *
  generalize dv O = o at *
  have hc : q / 65536 = 0 ∨ q / 65536 = 1 := by omega
  have h1 : P * (q % 65536) + P * b + P * br + P * (q / 65536 * 65536) = P * a + P * 65536 := by
    rw [← Nat.mul_add, ← Nat.mul_add, ← Nat.mul_add, ← Nat.mul_add]
    congr 1
    omega
  have h2 : br * P = P * br := Nat.mul_comm _ _
  rcases hc with hc | hc
  · rw [hc] at h1 ⊢
    simp only [Nat.zero_mul, Nat.mul_zero, Nat.sub_zero, Nat.one_mul] at h1 ⊢
    omega
  · rw [hc] at h1 ⊢
    simp only [Nat.one_mul, Nat.sub_self, Nat.zero_mul] at h1 ⊢
    omega
theorem apart_end {A B O : List Nat} {i br : Nat} (hA : A.length = i) (hO : O.length = i) (hdO : dok O) (hdA : dok A) (h : dv O + low B i = low A i + br * 65536 ^ i) (hle : dv B ≤ dv A) : dv O = dv A - dv B := by
  have h1 := dv_lt hdA
  have h2 := dv_lt hdO
  rw [hA] at h1
  rw [hO] at h2
  have h3 := dv_split B i
  have h4 : dv (B.drop i) = 0 := by
    rcases Nat.eq_zero_or_pos (dv (B.drop i)) with h0 | h0
    · exact h0
    · have : 65536 ^ i * 1 ≤ 65536 ^ i * dv (B.drop i) := Nat.mul_le_mul_left _ h0
      omega
  rw [h4, Nat.mul_zero, Nat.add_zero] at h3
  rw [low_all (by omega : A.length ≤ i), ← h3] at h
  have h5 : br = 0 := by
    rcases Nat.eq_zero_or_pos br with h0 | h0
    · exact h0
    · have : 1 * 65536 ^ i ≤ br * 65536 ^ i := Nat.mul_le_mul_right _ h0
      omega
  subst h5
  omega
theorem low_zero (l : List Nat) : low l 0 = 0 := by simp [low, dv]

end Go.Proofs.YthpggfcindnlcaaGreatDoor
