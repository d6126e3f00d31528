/-
  Split: that both part conditions alike (plain).
-/
import Derived.Test.YtbmfojeklhbocaaTl
set_option linter.unusedSimpArgs false
set_option linter.unusedVariables false
namespace Go.Proofs.Ytbmfojeklhbocaa
open Go.RowKit

theorem onlyN_pow (j : Nat) (h : j < 31) : onlyN (2 ^ j) = some j := by
  refine find_take (2 ^ j) j h ?_ rfl
  rw [List.find?_eq_none]
  intro i hi
  have hi : i < j := by simpa using hi
  have : (2 : Nat) ^ j ≠ 2 ^ i := by
    have := (Nat.pow_lt_pow_iff_right (a := 2) (by omega)).2 hi
    omega
  simpa using this
theorem stN_bit (f K : Nat) (t : Tm) (i : Nat) : (stN f K t).testBit i = (decide (i < K) && (usT f t).testBit i) := by
  unfold stN
  rw [Nat.testBit_and, Nat.testBit_two_pow_sub_one, Bool.and_comm]
theorem usL_st (f K : Nat) (t : Tm) (hK : K ≤ 31) : usL f t K = (List.range K).filter fun i => (stN f K t).testBit i := by
  unfold usL
  apply List.filter_congr
  intro x hx
  have hx : x < K := by simpa using hx
  rw [stN_bit, us_bit x (by omega)]
  simp [hx]
theorem st_zero (f K : Nat) (t : Tm) (hK : K ≤ 31) (h : usL f t K = []) : stN f K t = 0 := by
  rw [usL_st f K t hK] at h
  apply Nat.eq_of_testBit_eq
  intro i
  rw [Nat.zero_testBit]
  by_cases hi : i < K
  · have := List.filter_eq_nil_iff.1 h i (by simpa using hi)
    simpa using this
  · rw [stN_bit]; simp [hi]
theorem st_one (f K : Nat) (t : Tm) (hK : K ≤ 31) (j : Nat) (h : usL f t K = [j]) : stN f K t = 2 ^ j ∧ j < K := by
  rw [usL_st f K t hK] at h
  have hmem : ∀ i, i ∈ (List.range K).filter (fun i => (stN f K t).testBit i) ↔ i = j := by
    intro i; rw [h]; simp
  have hj := (hmem j).2 rfl
  rw [List.mem_filter] at hj
  have hjK : j < K := by simpa using hj.1
  refine ⟨?_, hjK⟩
  apply Nat.eq_of_testBit_eq
  intro i
  rw [Nat.testBit_two_pow]
  by_cases hi : i < K
  · by_cases hij : j = i
    · subst hij; rw [hj.2]; simp
    · cases hb : (stN f K t).testBit i with
      | false => simp [hij]
      | true =>
        have := (hmem i).1 (List.mem_filter.2 ⟨by simpa using hi, hb⟩)
        exact absurd this.symm hij
  · rw [stN_bit]
    have : j ≠ i := by omega
    simp [hi, this]
theorem pow_bits (K j : Nat) : (List.range K).filter (fun i => (2 ^ j).testBit i) = if j < K then [j] else [] := by
  induction K with
  | zero => simp
  | succ K ih =>
    rw [List.range_succ, List.filter_append, ih, List.filter_cons, List.filter_nil, Nat.testBit_two_pow]
    by_cases h1 : j < K
    · have h2 : j ≠ K := by omega
      have h3 : j < K + 1 := by omega
      simp [h1, h2, h3]
    · by_cases h2 : j = K
      · subst h2
        simp
      · have h3 : ¬ j < K + 1 := by omega
        simp [h1, h2, h3]
theorem cl_zero (f K : Nat) (t : Tm) (hK : K ≤ 31) (h : usL f t K = []) : clT f K t = 0 := by
  unfold clT clN
  rw [st_zero f K t hK h]; rfl
theorem cl_one (f K : Nat) (t : Tm) (hK : K ≤ 31) (j : Nat) (h : usL f t K = [j]) : clT f K t = 2 + j ∧ j < K := by
  obtain ⟨h1, h2⟩ := st_one f K t hK j h
  refine ⟨?_, h2⟩
  unfold clT clN
  rw [h1, onlyN_pow j (by omega)]
  have := Nat.one_le_two_pow (n := j)
  rw [if_neg (by omega)]
theorem cl_many (f K : Nat) (t : Tm) (hK : K ≤ 31) (h : 2 ≤ (usL f t K).length) : clT f K t = 1 := by
  have hs := usL_st f K t hK
  unfold clT clN
  have h0 : stN f K t ≠ 0 := by
    intro e
    rw [e] at hs
    rw [hs, List.filter_eq_nil_iff.2 (by intro i _; simp)] at h
    simp at h
  rw [if_neg h0]
  cases hq : onlyN (stN f K t) with
  | none => rfl
  | some j =>
    have e := (onlyN_some hq).1
    rw [e, pow_bits] at hs
    rw [hs] at h
    split at h <;> simp at h
/-- A join's tables differ. -/
theorem cl_join (f K : Nat) (h : TmH) (A : Option Addr) (n c : Nat) (a b : Tm) (hk : h.k = 4) (ha : a.h.k = 2) (hb : b.h.k = 2) (hm : 2 ≤ (usL f (.mk h A n c [a, b]) K).length) : a.h.tb ≠ b.h.tb := by
  intro e
  cases f with
  | zero =>
    unfold usL at hm
    rw [List.filter_eq_nil_iff.2 (by intro i _; simp [hasT, fdT])] at hm
    simp at hm
  | succ f =>
    have hfd : fdT (f + 1) (.mk h A n c [a, b]) = fdT f a ++ fdT f b := by
      rw [fdT_succ, if_neg (by omega)]; simp
    have hx : ∀ x ∈ fdT f a ++ fdT f b, x.h.tb = a.h.tb := by
      intro x hx
      cases f with
      | zero => simp [fdT] at hx
      | succ f =>
        obtain ⟨ha', Aa, na, ca, la⟩ := a
        obtain ⟨hb', Ab, nb, cb, lb⟩ := b
        simp only [Tm.h] at ha hb e
        rw [fdT_succ, fdT_succ, if_pos ha, if_pos hb] at hx
        simp only [List.cons_append, List.nil_append, List.mem_cons, List.not_mem_nil, or_false] at hx
        rcases hx with rfl | rfl
        · rfl
        · exact e.symm
    have hle : (usL (f + 1) (.mk h A n c [a, b]) K).length ≤ 1 := by
      have hsub : ∀ i ∈ usL (f + 1) (.mk h A n c [a, b]) K, (i : Int) = a.h.tb := by
        intro i hi
        unfold usL at hi
        have := (List.mem_filter.1 hi).2
        unfold hasT at this
        rw [hfd, List.any_eq_true] at this
        obtain ⟨x, h1, h2⟩ := this
        rw [← hx x h1]
        exact (by simpa using h2 : x.h.tb = (i : Int)).symm
      have hnd : (usL (f + 1) (.mk h A n c [a, b]) K).Nodup := by
        unfold usL
        exact List.Pairwise.filter _ List.nodup_range
      match hL : usL (f + 1) (.mk h A n c [a, b]) K with
      | [] => simp
      | [x] => simp
      | x :: y :: r =>
        rw [hL] at hsub hnd
        have h1 := hsub x (by simp)
        have h2 := hsub y (by simp)
        have : x = y := by omega
        simp [this] at hnd
    omega
/-- The join of two fields, as the document says it. -/
def jnR (a b : TmH) : JT := if a.tb < b.tb then (a.tb, b.tb, a.cl, b.cl) else (b.tb, a.tb, b.cl, a.cl)
theorem jnR_eq (a b : TmH) (h : a.tb ≠ b.tb) : jnR a b = jnH a b := by
  unfold jnR jnH
  by_cases h1 : a.tb < b.tb
  · rw [if_pos h1, if_neg (by omega)]
  · rw [if_neg h1, if_pos (by omega)]
end Go.Proofs.Ytbmfojeklhbocaa
