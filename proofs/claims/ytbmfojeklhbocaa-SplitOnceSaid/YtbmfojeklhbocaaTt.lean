/-
  SplitOnce: how often conditions were ready (plain).
-/
import Derived.Test.YtbmfojeklhbocaaTq
set_option linter.unusedSimpArgs false
set_option linter.unusedVariables false
namespace Go.Proofs.Ytbmfojeklhbocaa
open Go.RowKit

/-- Numbers told once more, each where it stands. -/
def incs (I T : List Nat) : List Nat := I.foldl (fun T x => T.set x (T[x]?.getD 0 + 1)) T
theorem incs_len (I : List Nat) : ∀ T : List Nat, (incs I T).length = T.length := by
  induction I with
  | nil => intro T; rfl
  | cons x I ih =>
    intro T
    show (incs I _).length = _
    rw [ih, List.length_set]
theorem incs_snoc (I T : List Nat) (x : Nat) : incs (I ++ [x]) T = (incs I T).set x ((incs I T)[x]?.getD 0 + 1) := by
  unfold incs; rw [List.foldl_append]; rfl
theorem incs_take {I T : List Nat} {j x : Nat} (h : I[j]? = some x) : incs (I.take (j + 1)) T = (incs (I.take j) T).set x ((incs (I.take j) T)[x]?.getD 0 + 1) := by
  rw [List.take_add_one, h]
  exact incs_snoc _ _ _
theorem incs_bd : ∀ (I : List Nat) (m : Nat) (T : List Nat), (∀ y ∈ T, y ≤ m) → ∀ y ∈ incs I T, y ≤ m + I.length
  | [], m, T, hT => by simpa [incs] using hT
  | x :: I, m, T, hT => by
    intro y hy
    have h := incs_bd I (m + 1) (T.set x (T[x]?.getD 0 + 1)) (by
      intro z hz
      rcases List.mem_or_eq_of_mem_set hz with h | h
      · have := hT z h; omega
      · subst h
        cases h2 : T[x]? with
        | none => simp
        | some u => have := hT u (List.mem_of_getElem? h2); simp; omega) y hy
    simp only [List.length_cons]
    omega
theorem incs_range (q : Nat → Bool) (T : List Nat) : ∀ k i : Nat, (incs ((List.range k).filter q) T)[i]? = T[i]?.map fun t => t + (if i < k ∧ q i = true then 1 else 0)
  | 0, i => by
    simp [incs]
  | k + 1, i => by
    rw [List.range_succ, List.filter_append]
    have ih := incs_range q T k
    by_cases hq : q k = true
    · rw [List.filter_cons, if_pos hq, List.filter_nil, incs_snoc]
      by_cases hik : k = i
      · subst hik
        by_cases hl : k < T.length
        · rw [List.getElem?_set_self (by rw [incs_len]; exact hl), ih]
          rw [List.getElem?_eq_getElem hl]
          simp [hq]
        · rw [List.getElem?_eq_none (by rw [List.length_set, incs_len]; omega), List.getElem?_eq_none (by omega)]
          rfl
      · rw [List.getElem?_set_ne hik, ih]
        have e : (i < k + 1 ∧ q i = true) ↔ (i < k ∧ q i = true) := by
          constructor
          · intro h; exact ⟨by omega, h.2⟩
          · intro h; exact ⟨by omega, h.2⟩
        simp only [e]
    · rw [List.filter_cons, if_neg hq, List.filter_nil, List.append_nil, ih]
      have e : (i < k + 1 ∧ q i = true) ↔ (i < k ∧ q i = true) := by
        constructor
        · intro h
          refine ⟨?_, h.2⟩
          rcases Nat.lt_succ_iff_lt_or_eq.1 h.1 with h1 | h1
          · exact h1
          · subst h1; exact absurd h.2 hq
        · intro h; exact ⟨by omega, h.2⟩
      simp only [e]
/-- Was a condition ready once? -/
def tm1 (f had : Nat) (t : Tm) : Nat := if anN (usT f t) had = 0 ∧ had ≠ 0 then 1 else 0
def tms (f had : Nat) (l : List Tm) : List Nat := l.map (tm1 f had)
theorem tms_le (f had : Nat) (l : List Tm) : ∀ y ∈ tms f had l, y ≤ 1 := by
  intro y hy
  obtain ⟨t, _, rfl⟩ := List.mem_map.1 hy
  unfold tm1
  split <;> omega
theorem tms_zero (f : Nat) (l : List Tm) : tms f 0 l = List.replicate l.length 0 := by
  unfold tms
  apply List.ext_getElem?
  intro i
  rw [List.getElem?_map, List.getElem?_replicate]
  by_cases h : i < l.length
  · rw [if_pos h, List.getElem?_eq_getElem h]; simp [tm1]
  · rw [if_neg h, List.getElem?_eq_none (by omega)]; rfl
theorem tms_full (f : Nat) (l : List Tm) : tms f 4294967295 l = List.replicate l.length 1 := by
  unfold tms
  apply List.ext_getElem?
  intro i
  rw [List.getElem?_map, List.getElem?_replicate]
  by_cases h : i < l.length
  · rw [if_pos h, List.getElem?_eq_getElem h]; simp [tm1, anN]
  · rw [if_neg h, List.getElem?_eq_none (by omega)]; rfl
theorem anN_more {s had now : Nat} (hs : s < 4294967296) (hh : had < 4294967296) (hn : now < 4294967296) (hsub : ∀ i, had.testBit i = true → now.testBit i = true) (h : anN s had = 0) : anN s now = 0 := by
  have h1 := anN_zero s had hs hh
  have h2 := anN_zero s now hs hn
  rw [h] at h1
  have h3 : (anN s now == 0) = true := by
    rw [h2, List.all_eq_true]
    intro i hi
    have h4 : (((List.range 32).filter fun i => s.testBit i).all fun i => had.testBit i) = true := by rw [← h1]; rfl
    rw [List.all_eq_true] at h4
    exact hsub i (h4 i hi)
  simpa using h3
theorem rdy_step (s had now : Nat) (hs : s < 4294967296) (hh : had < 4294967296) (hn : now < 4294967296) (hsub : ∀ i, had.testBit i = true → now.testBit i = true) (h0 : now ≠ 0) :
    (if anN s had = 0 ∧ had ≠ 0 then 1 else 0) + (if rdyB s had now = true then 1 else 0) = (if anN s now = 0 ∧ now ≠ 0 then 1 else 0) := by
  unfold rdyB
  by_cases h1 : anN s had = 0
  · have h2 := anN_more hs hh hn hsub h1
    by_cases h3 : had = 0
    · subst h3
      have e : anN s 0 = s := by
        apply Nat.eq_of_testBit_eq
        intro i
        rw [anN_bit s 0 i (by omega), Nat.zero_testBit]
        by_cases hi : i < 32
        · simp [hi]
        · rw [bit_ge hs (by omega)]; rfl
      rw [e] at h1
      subst h1
      simp [h2, h0]
    · simp [h1, h2, h3, h0]
  · by_cases h2 : anN s now = 0
    · simp [h1, h2, h0]
    · simp [h1, h2]
theorem tms_step (f had now : Nat) (l : List Tm) (hh : had < 4294967296) (hn : now < 4294967296) (hsub : ∀ i, had.testBit i = true → now.testBit i = true) (h0 : now ≠ 0) :
    incs (idxK (fun t => rdyB (usT f t) had now) l l.length) (tms f had l) = tms f now l := by
  apply List.ext_getElem?
  intro i
  unfold idxK
  rw [incs_range]
  unfold tms
  rw [List.getElem?_map, List.getElem?_map]
  by_cases hi : i < l.length
  · rw [List.getElem?_eq_getElem hi]
    have hq : qB (fun t => rdyB (usT f t) had now) l i = rdyB (usT f l[i]) had now := by
      unfold qB; rw [List.getElem?_eq_getElem hi]; rfl
    simp only [Option.map_some, hq, hi, true_and]
    exact congrArg some (rdy_step (usT f l[i]) had now (usT_lt f _) hh hn hsub h0)
  · rw [List.getElem?_eq_none (by omega)]; rfl
theorem idx_lt (p : Tm → Bool) (l : List Tm) (k : Nat) : ∀ x ∈ idxK p l k, x < k := by
  intro x hx
  unfold idxK at hx
  simpa using (List.mem_filter.1 hx).1
theorem or_sub (a b : Nat) : ∀ i, a.testBit i = true → (a ||| b).testBit i = true := by
  intro i h
  rw [Nat.testBit_or, h]; rfl
theorem full_sub (a : Nat) (h : a < 4294967296) : ∀ i, a.testBit i = true → (4294967295 : Nat).testBit i = true := by
  intro i hi
  by_cases h32 : i < 32
  · have : (2 ^ 32 - 1 : Nat).testBit i = decide (i < 32) := Nat.testBit_two_pow_sub_one ..
    simpa [h32] using this
  · rw [bit_ge h (by omega)] at hi
    cases hi
theorem vI_at {T : List Nat} {i t : Nat} (h : T[i]? = some t) : (vI T).toArray[i]? = some (.int .i64 (t : Int)) := by
  unfold vI
  simp [h]
theorem vI_set (T : List Nat) (i t : Nat) : (vI T).toArray.setIfInBounds i (.int .i64 (t : Int)) = (vI (T.set i t)).toArray := by
  unfold vI
  simp [List.map_set]
theorem own_setfar {w : World} {base g : Nat} {e : TypeId} {sz n : Nat} {v : Value} {xs : List Value} (h : w.ownsRow base e sz v n xs) (hg : g < base) (j : Nat) (u : Value) : (w.setCell ⟨g, j, none⟩ u).ownsRow base e sz v n xs := by
  refine h.kept (row := some g) ⟨rfl, rfl, rfl, by simp [World.setCell], fun k hk hkg => Below.heap_setCell w _ u k (fun e' => hkg (by rw [e'])) ⟩ ?_
  cases hv : v.ownBlock with
  | none => exact .inl rfl
  | some k =>
    have := (h.lt k hv).1
    exact .inr (by intro e'; injection e' with e'; omega)
end Go.Proofs.Ytbmfojeklhbocaa
