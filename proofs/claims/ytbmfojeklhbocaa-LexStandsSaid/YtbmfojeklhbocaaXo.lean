/-
  LexJoined: the walk.
-/
import Derived.Test.YtbmfojeklhbocaaXn
import Derived.Test.YtbmfojeklhbocaaXk
set_option linter.unusedSimpArgs false
set_option linter.unusedVariables false
namespace Go.Proofs.Ytbmfojeklhbocaa
open Go.RowKit

def shT3 (d : Nat) (x : Tk) : Tk := (x.1, x.2.1, x.2.2 + d)
theorem toks_shift : ∀ (N : Nat) (l : List UInt8), l.length ≤ N → ∀ (q c : Nat) (m : List Tk), toksT l q c = .ok m → ∀ d c', c' + m.length ≤ 1001 → toksT l (q + d) c' = .ok (m.map (shT3 d)) := by
  intro N
  induction N with
  | zero =>
    intro l hl q c m h d c' hc'
    have : l = [] := List.eq_nil_of_length_eq_zero (by omega)
    subst this
    rw [toksT_end rfl] at h ⊢
    injection h with h
    subst h
    simp [shT3]
    omega
  | succ N ih =>
    intro l hl q c m h d c' hc'
    by_cases hne : l.drop (skipN l) = []
    · rw [toksT_end hne] at h ⊢
      injection h with h
      subst h
      simp [shT3]
      omega
    · rw [toksT_step hne] at h ⊢
      by_cases hc : c = 1000
      · rw [if_pos hc] at h; cases h
      · rw [if_neg hc] at h
        by_cases he : (tokN (l.drop (skipN l))).e = 0
        · have h1 : ¬ ((tokN (l.drop (skipN l))).e ≠ 0) := by simpa using he
          rw [if_neg h1] at h ⊢
          have hn := tokN_n _ he
          cases hrest : toksT ((l.drop (skipN l)).drop (tokN (l.drop (skipN l))).n) (q + skipN l + (tokN (l.drop (skipN l))).n) (c + 1) with
          | bad e => rw [hrest] at h; cases h
          | ok r' =>
            rw [hrest] at h
            injection h with h
            subst h
            rw [List.length_drop] at hn
            obtain ⟨i, hi, _⟩ := toks_join _ _ (Nat.le_refl _) _ _ _ hrest
            have hr1 : 1 ≤ r'.length := by rw [hi]; simp
            simp only [List.length_cons] at hc'
            have h2 := ih _ (by rw [List.length_drop, List.length_drop]; omega) _ _ _ hrest d (c' + 1) (by omega)
            have e1 : q + d + skipN l + (tokN (l.drop (skipN l))).n = q + skipN l + (tokN (l.drop (skipN l))).n + d := by omega
            rw [if_neg (by omega), e1, h2]
            show TksR.ok _ = TksR.ok _
            congr 1
            simp [shT3]
            omega
        · rw [if_pos he] at h; cases h
theorem toks_joined (a b : List UInt8) (ha : a.length ≤ 2000) (hb : b.length ≤ 2000) (l m : List Tk) (hl : toksQ a = .ok l) (hm : toksQ b = .ok m) (hlm : l.length + m.length ≤ 1000) :
    ∃ i, l = i ++ [(0, [], a.length)] ∧ toksQ (a ++ 32 :: b) = .ok (i ++ m.map (shT3 (a.length + 1))) := by
  have e1 : toksQ a = toksT a 0 0 := by unfold toksQ; rw [if_neg (by omega)]; rfl
  have e2 : toksQ b = toksT b 0 0 := by unfold toksQ; rw [if_neg (by omega)]; rfl
  have e3 : toksQ (a ++ 32 :: b) = toksT (a ++ 32 :: b) 0 0 := by unfold toksQ; rw [if_neg (by simp; omega)]; rfl
  rw [e1] at hl
  rw [e2] at hm
  obtain ⟨i, hi, hj⟩ := toks_join _ a (Nat.le_refl _) 0 0 l hl
  rw [Nat.zero_add] at hi
  refine ⟨i, hi, ?_⟩
  rw [e3, hj b]
  have h := toks_shift _ b (Nat.le_refl _) 0 0 m hm (a.length + 1) (0 + i.length) (by rw [hi] at hlm; simp at hlm; omega)
  have e4 : 0 + a.length + 1 = 0 + (a.length + 1) := by omega
  rw [e4, h]
  rfl
end Go.Proofs.Ytbmfojeklhbocaa
