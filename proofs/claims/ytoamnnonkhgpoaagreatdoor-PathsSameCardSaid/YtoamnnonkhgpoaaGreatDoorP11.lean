/-
  Numbers, rising, each once (plain).
-/
import Derived.Test.YtoamnnonkhgpoaaGreatDoorP10
set_option linter.unusedSimpArgs false
set_option linter.unusedVariables false
namespace Go.Proofs.YtoamnnonkhgpoaaGreatDoor
open Go.RowKit

def Up (l : List Int) : Prop := l.Pairwise (· < ·)
theorem up_unique : ∀ (a b : List Int), Up a → Up b → (∀ y, y ∈ a ↔ y ∈ b) → a = b
  | [], [], _, _, _ => rfl
  | [], y :: b, _, _, h => absurd ((h y).2 (by simp)) (by simp)
  | x :: a, [], _, _, h => absurd ((h x).1 (by simp)) (by simp)
  | x :: a, y :: b, ha, hb, h => by
    unfold Up at ha hb
    rw [List.pairwise_cons] at ha hb
    have h1 : x = y := by
      have hx := (h x).1 (by simp)
      have hy := (h y).2 (by simp)
      rcases List.mem_cons.1 hx with e | hx
      · exact e
      · rcases List.mem_cons.1 hy with e | hy
        · exact e.symm
        · have := hb.1 x hx
          have := ha.1 y hy
          omega
    subst h1
    rw [up_unique a b ha.2 hb.2 fun z => ?_]
    constructor
    · intro hz
      have h2 := ha.1 z hz
      rcases List.mem_cons.1 ((h z).1 (List.mem_cons_of_mem _ hz)) with e | h3
      · omega
      · exact h3
    · intro hz
      have h2 := hb.1 z hz
      rcases List.mem_cons.1 ((h z).2 (List.mem_cons_of_mem _ hz)) with e | h3
      · omega
      · exact h3
theorem sorted_le (zs : List Int) : ∀ i j : Nat, i ≤ j → ∀ a b, (zs.mergeSort fun x y => decide (x ≤ y))[i]? = some a → (zs.mergeSort fun x y => decide (x ≤ y))[j]? = some b → a ≤ b := by
  intro i j hij a b ha hb
  have hs : (zs.mergeSort fun x y => decide (x ≤ y)).Pairwise fun x y => decide (x ≤ y) = true := List.pairwise_mergeSort (by intro a b c h1 h2; simp at h1 h2 ⊢; omega) (by intro a b; simp; omega) zs
  rcases Nat.lt_or_ge i j with h | h
  · obtain ⟨hi, rfl⟩ := List.getElem?_eq_some_iff.1 ha
    obtain ⟨hj, rfl⟩ := List.getElem?_eq_some_iff.1 hb
    have := List.pairwise_iff_getElem.1 hs i j hi hj h
    simpa using this
  · obtain rfl : i = j := by omega
    rw [ha] at hb
    injection hb with hb
    omega
theorem compact_up (ys : List Int) (hs : ∀ i j : Nat, i ≤ j → ∀ a b, ys[i]? = some a → ys[j]? = some b → a ≤ b) : ∀ m, m ≤ ys.length → Up (Lib.compactUpTo ys.toArray m) ∧ (∀ y, y ∈ Lib.compactUpTo ys.toArray m ↔ ∃ j, j < m ∧ ys[j]? = some y) := by
  intro m
  induction m with
  | zero => intro _; exact ⟨by simp [Lib.compactUpTo, Up], by simp [Lib.compactUpTo]⟩
  | succ m ih =>
    intro hm
    obtain ⟨h1, h2⟩ := ih (by omega)
    have hg : ∀ j, j < ys.length → ys[j]? = some (ys.toArray[j]!) := by
      intro j hj
      rw [List.getElem?_eq_getElem hj, getElem!_pos _ j (by simpa using hj)]
      simp
    have hmm := hg m (by omega)
    rw [Lib.compactUpTo_succ]
    cases hk : Lib.keeps ys.toArray m with
    | true =>
      rw [if_pos rfl]
      constructor
      · unfold Up
        rw [List.pairwise_append]
        refine ⟨h1, by simp, ?_⟩
        intro a ha b hb
        rw [List.mem_singleton] at hb
        subst hb
        obtain ⟨j, hj, hja⟩ := (h2 a).1 ha
        have h3 := hs j m (by omega) _ _ hja hmm
        have h4 : 0 < m := by omega
        have h5 := hg (m - 1) (by omega)
        have h6 := hs j (m - 1) (by omega) _ _ hja h5
        have h7 := hs (m - 1) m (by omega) _ _ h5 hmm
        have h8 : ys.toArray[m]! ≠ ys.toArray[m - 1]! := by
          intro e
          have := Lib.keeps_neg h4 e
          rw [hk] at this
          cases this
        omega
      · intro y
        rw [List.mem_append, List.mem_singleton, h2]
        constructor
        · rintro (⟨j, hj, he⟩ | rfl)
          · exact ⟨j, by omega, he⟩
          · exact ⟨m, by omega, hmm⟩
        · rintro ⟨j, hj, he⟩
          by_cases hjm : j < m
          · exact .inl ⟨j, hjm, he⟩
          · obtain rfl : j = m := by omega
            rw [hmm] at he
            injection he with he
            exact .inr he.symm
    | false =>
      rw [if_neg (by decide), List.append_nil]
      refine ⟨h1, fun y => ?_⟩
      rw [h2]
      constructor
      · rintro ⟨j, hj, he⟩
        exact ⟨j, by omega, he⟩
      · rintro ⟨j, hj, he⟩
        by_cases hjm : j < m
        · exact ⟨j, hjm, he⟩
        · obtain rfl : j = m := by omega
          have h4 : 0 < j := by
            rcases Nat.eq_zero_or_pos j with h | h
            · rw [h] at hk
              rw [Lib.keeps_lt_one _ 0 (by omega)] at hk
              cases hk
            · exact h
          have h8 : ys.toArray[j]! = ys.toArray[j - 1]! := by
            by_cases e : ys.toArray[j]! = ys.toArray[j - 1]!
            · exact e
            · rw [Lib.keeps_pos e] at hk
              cases hk
          rw [hmm] at he
          injection he with he
          exact ⟨j - 1, by omega, by rw [hg (j - 1) (by omega), ← h8, he]⟩
theorem condL_up (zs : List Int) : Up (condL zs) := (compact_up _ (sorted_le zs) _ (Nat.le_refl _)).1
theorem condL_mem (zs : List Int) (y : Int) : y ∈ condL zs ↔ y ∈ zs := by
  have h := (compact_up _ (sorted_le zs) _ (Nat.le_refl _)).2 y
  unfold condL Lib.compact
  rw [h]
  constructor
  · rintro ⟨j, _, he⟩
    have := List.mem_of_getElem? he
    exact (List.mergeSort_perm zs _).mem_iff.1 this
  · intro hy
    have hy2 := (List.mergeSort_perm zs fun x y => decide (x ≤ y)).mem_iff.2 hy
    obtain ⟨j, hj, he⟩ := List.mem_iff_getElem.1 hy2
    exact ⟨j, hj, by rw [List.getElem?_eq_getElem hj, he]⟩
/-- One more, in its place. -/
theorem up_put {S : List Int} {x : Int} {at_ : Nat} (hS : Up S) (hat : at_ ≤ S.length) (hlo : ∀ j, j < at_ → ∀ a, S[j]? = some a → a ≤ x) (hhi : ∀ a, S[at_]? = some a → x < a) (hno : x ∉ S.take at_) :
    Up (S.take at_ ++ [x] ++ S.drop at_) ∧ ∀ y, y ∈ S.take at_ ++ [x] ++ S.drop at_ ↔ y = x ∨ y ∈ S := by
  have hS' := hS
  unfold Up at hS'
  rw [← List.take_append_drop at_ S, List.pairwise_append] at hS'
  obtain ⟨p1, p2, p3⟩ := hS'
  have h1 : ∀ a ∈ S.take at_, a < x := by
    intro a ha
    obtain ⟨j, hj, he⟩ := List.mem_iff_getElem.1 ha
    rw [List.length_take] at hj
    have h2 := hlo j (by omega) a (by rw [List.getElem_take] at he; rw [List.getElem?_eq_getElem (by omega), he])
    have h3 : a ≠ x := fun e => hno (e ▸ ha)
    omega
  have h2 : ∀ a ∈ S.drop at_, x < a := by
    intro a ha
    obtain ⟨j, hj, he⟩ := List.mem_iff_getElem.1 ha
    rw [List.length_drop] at hj
    rw [List.getElem_drop] at he
    have h4 := hhi _ (List.getElem?_eq_getElem (show at_ < S.length by omega))
    rcases Nat.eq_zero_or_pos j with h0 | h0
    · subst h0
      simp at he
      omega
    · have := List.pairwise_iff_getElem.1 hS at_ (at_ + j) (by omega) (by omega) (by omega)
      omega
  constructor
  · unfold Up
    rw [List.append_assoc, List.pairwise_append]
    refine ⟨p1, ?_, ?_⟩
    · rw [List.singleton_append, List.pairwise_cons]
      exact ⟨h2, p2⟩
    · intro a ha b hb
      rw [List.singleton_append, List.mem_cons] at hb
      rcases hb with rfl | hb
      · exact h1 a ha
      · exact p3 a ha b hb
  · intro y
    have hmem : y ∈ S ↔ y ∈ S.take at_ ∨ y ∈ S.drop at_ := by
      conv => lhs; rw [← List.take_append_drop at_ S]
      exact List.mem_append
    rw [hmem]
    simp only [List.mem_append, List.mem_singleton]
    constructor
    · rintro ((h | h) | h)
      · exact .inr (.inl h)
      · exact .inl h
      · exact .inr (.inr h)
    · rintro (h | h | h)
      · exact .inl (.inr h)
      · exact .inl (.inl h)
      · exact .inr h
theorem up_in {S : List Int} {x : Int} {at_ : Nat} (hS : Up S) (hhi : ∀ a, S[at_]? = some a → x < a) (hx : x ∈ S) : x ∈ S.take at_ := by
  obtain ⟨j, hj, he⟩ := List.mem_iff_getElem.1 hx
  by_cases h : j < at_
  · exact List.mem_iff_getElem.2 ⟨j, by rw [List.length_take]; omega, by rw [List.getElem_take]; exact he⟩
  · exfalso
    have h4 := hhi _ (List.getElem?_eq_getElem (show at_ < S.length by omega))
    rcases Nat.eq_or_lt_of_le (show at_ ≤ j by omega) with h0 | h0
    · subst h0
      omega
    · have := List.pairwise_iff_getElem.1 hS at_ j (by omega) hj h0
      omega
end Go.Proofs.YtoamnnonkhgpoaaGreatDoor
