/-
  Tokens of queries: what a token hangs on; two queries behind each other (plain).
-/
import Derived.Test.YtbmfojeklhbocaaXj
set_option linter.unusedSimpArgs false
set_option linter.unusedVariables false
namespace Go.Proofs.Ytbmfojeklhbocaa
open Go.RowKit

theorem runN_zero (l : List UInt8) : runN l = 0 ↔ ∀ c, l.head? = some c → innB c = false := by
  cases l with
  | nil => simp [runN]
  | cons c l =>
    unfold runN
    by_cases h : innB c = true
    · simp [h]
    · simp [h]
theorem runN_app (y : List UInt8) : ∀ p : List UInt8, (∀ c ∈ p, innB c = true) → runN (p ++ y) = p.length + runN y
  | [], _ => by simp
  | c :: p, h => by
    show runN (c :: (p ++ y)) = _
    rw [runN, if_pos (h c (by simp)), runN_app y p (fun d hd => h d (by simp [hd]))]
    simp; omega
theorem inn32 : innB 32 = false := by decide
theorem run_next (l y : List UInt8) (hy : y.head? = (l.drop (runN l)).head? ∨ y.head? = some 32) : runN (l.take (runN l) ++ y) = runN l := by
  have h1 := runN_app y (l.take (runN l)) (run_inn l)
  have hl : (l.take (runN l)).length = runN l := by rw [List.length_take]; have := runN_le l; omega
  have h2 := runN_app (l.drop (runN l)) (l.take (runN l)) (run_inn l)
  rw [List.take_append_drop, hl] at h2
  have h3 : runN (l.drop (runN l)) = 0 := by omega
  have h4 : runN y = 0 := by
    rw [runN_zero]
    intro c hc
    rcases hy with h | h
    · exact (runN_zero _).1 h3 c (by rw [← h]; exact hc)
    · rw [h] at hc; injection hc with hc; subst hc; exact inn32
  rw [h1, hl, h4]; rfl
theorem txt_nextN : ∀ (N : Nat) (l acc : List UInt8) (i : Nat) (b : List UInt8) (n : Nat) (y : List UInt8), l.length ≤ N → txtN acc i l = .ok b n → (y.head? = (l.drop (n - i)).head? ∨ y.head? = some 32) → txtN acc i (l.take (n - i) ++ y) = .ok b n
  | _, [], acc, i, b, n, y, _, h, hy => by simp [txtN] at h
  | 0, c :: l, acc, i, b, n, y, hN, h, hy => by simp at hN
  | N + 1, c :: l, acc, i, b, n, y, hN, h, hy => by
    simp only [List.length_cons] at hN
    have hle := txtN_le _ _ _ _ _ h
    by_cases hc : c = 39
    · subst hc
      rcases l with _ | ⟨d, r⟩
      · rw [txtN_end (.inl rfl)] at h
        split at h
        · cases h
        · rename_i h48
          injection h with h1 h2
          subst h1; subst h2
          have e : i + 1 - i = 1 := by omega
          rw [e] at hy ⊢
          simp at hy
          show txtN acc i (39 :: y) = _
          rw [txtN_end (by
            cases y with
            | nil => exact .inl rfl
            | cons d r =>
              simp at hy
              subst hy
              exact .inr ⟨32, r, rfl, by decide⟩), if_neg h48]
      · by_cases hd : d = 39
        · subst hd
          rw [txtN_qq] at h
          have hle2 := txtN_le _ _ _ _ _ h
          have e : n - i = (n - (i + 2)) + 2 := by omega
          have ih := txt_nextN N r (acc ++ [39]) (i + 2) b n y (by simp only [List.length_cons] at hN; omega) h (by
            rw [e] at hy
            simpa using hy)
          rw [e]
          show txtN acc i (39 :: 39 :: (r.take (n - (i + 2)) ++ y)) = _
          rw [txtN_qq]
          exact ih
        · rw [txtN_end (.inr ⟨d, r, rfl, hd⟩)] at h
          split at h
          · cases h
          · rename_i h48
            injection h with h1 h2
            subst h1; subst h2
            have e : i + 1 - i = 1 := by omega
            rw [e] at hy ⊢
            simp at hy
            show txtN acc i (39 :: y) = _
            rw [txtN_end (by
              cases y with
              | nil => exact .inl rfl
              | cons d' r' =>
                simp at hy
                rcases hy with hy | hy
                · subst hy; exact .inr ⟨_, r', rfl, hd⟩
                · subst hy; exact .inr ⟨32, r', rfl, by decide⟩), if_neg h48]
    · rw [txtN_step hc] at h
      have hle2 := txtN_le _ _ _ _ _ h
      have e : n - i = (n - (i + 1)) + 1 := by omega
      have ih := txt_nextN N l (acc ++ [c]) (i + 1) b n y (by omega) h (by
        rw [e] at hy
        simpa using hy)
      rw [e]
      show txtN acc i (c :: (l.take (n - (i + 1)) ++ y)) = _
      rw [txtN_step hc]
      exact ih
theorem txt_next (l acc : List UInt8) (i : Nat) (b : List UInt8) (n : Nat) (y : List UInt8) (h : txtN acc i l = .ok b n) (hy : y.head? = (l.drop (n - i)).head? ∨ y.head? = some 32) : txtN acc i (l.take (n - i) ++ y) = .ok b n := txt_nextN l.length l acc i b n y (Nat.le_refl _) h hy
/-- A sign of one byte, or of two. -/
theorem sgn_next (l y : List UInt8) (hpos : 0 < sgnN l) (hy : y.head? = (l.drop (sgnN l)).head? ∨ y.head? = some 32) : sgnN (l.take (sgnN l) ++ y) = sgnN l := by
  by_cases h2 : 1 < l.length ∧ (l.take 2 = [60, 61] ∨ l.take 2 = [62, 61] ∨ l.take 2 = [60, 62])
  · have hs : sgnN l = 2 := by unfold sgnN; rw [if_pos h2]
    rw [hs]
    have hl : (l.take 2).length = 2 := by rw [List.length_take]; omega
    unfold sgnN
    rw [if_pos]
    refine ⟨by rw [List.length_append, hl]; omega, ?_⟩
    rw [List.take_append_of_le_length (by omega), List.take_take, Nat.min_self]
    exact h2.2
  · cases l with
    | nil => simp [sgnN] at hpos
    | cons c l =>
      have hs : sgnN (c :: l) = if ones.contains c then 1 else 0 := by unfold sgnN; rw [if_neg h2]
      have hc : ones.contains c = true := by
        rw [hs] at hpos
        by_cases h : ones.contains c = true
        · exact h
        · rw [if_neg h] at hpos; omega
      rw [hs, if_pos hc] at hy ⊢
      show sgnN (c :: y) = 1
      unfold sgnN
      rw [if_neg]
      · simp only [hc, if_true]
      · rintro ⟨h1, h3⟩
        cases y with
        | nil => simp at h1
        | cons d r =>
          simp only [List.take_succ_cons, List.take_zero] at h3
          simp only [List.head?_cons, List.drop_succ_cons, List.drop_zero] at hy
          rcases hy with hy | hy
          · cases l with
            | nil => simp at hy
            | cons d' l' =>
              simp at hy
              subst hy
              exact h2 ⟨by simp, by simpa using h3⟩
          · injection hy with hy
            subst hy
            simp at h3
/-- A token hangs on its bytes, and on the one behind them. -/
theorem tok_next (l y : List UInt8) (h : (tokN l).e = 0) (hy : y.head? = (l.drop (tokN l).n).head? ∨ y.head? = some 32) : tokN (l.take (tokN l).n ++ y) = tokN l := by
  have hn := tokN_n l h
  by_cases hr : 0 < runN l
  · have ht : tokN l = ⟨(kindN (l.take (runN l))).1, l.take (runN l), runN l, (kindN (l.take (runN l))).2⟩ := by unfold tokN; rw [if_pos hr]
    rw [ht] at hy ⊢
    simp only at hy ⊢
    have hrn := run_next l y hy
    have hl : (l.take (runN l)).length = runN l := by rw [List.length_take]; have := runN_le l; omega
    have htk : (l.take (runN l) ++ y).take (runN l) = l.take (runN l) := by rw [List.take_append_of_le_length (by omega), List.take_take, Nat.min_self]
    unfold tokN
    rw [hrn, if_pos hr, htk]
  · have hr0 : runN l = 0 := by omega
    obtain ⟨c, l', rfl⟩ : ∃ c l', l = c :: l' := by
      cases l with
      | nil => have h1 := hn.1; have h2 := hn.2; simp at h2; omega
      | cons c l' => exact ⟨c, l', rfl⟩
    have hc : innB c = false := (runN_zero _).1 hr0 c rfl
    obtain ⟨n', hn'⟩ : ∃ n', (tokN (c :: l')).n = n' + 1 := ⟨(tokN (c :: l')).n - 1, by omega⟩
    have hM : ∃ z, (c :: l').take (tokN (c :: l')).n ++ y = c :: z := by rw [hn']; exact ⟨_, rfl⟩
    have hrM : runN ((c :: l').take (tokN (c :: l')).n ++ y) = 0 := by
      obtain ⟨z, hz⟩ := hM
      rw [hz, runN_zero]
      intro d hd
      simp at hd
      subst hd
      exact hc
    have hhM : ((c :: l').take (tokN (c :: l')).n ++ y).head? = some c := by
      obtain ⟨z, hz⟩ := hM
      rw [hz]; rfl
    by_cases h39 : c = 39
    · subst h39
      have ht : tokN (39 :: l') = (match txtN [] 1 l' with
        | .bad e => ⟨0, [], 0, e⟩
        | .ok b n => ⟨4, b, n, 0⟩) := by
        unfold tokN
        rw [if_neg hr, List.head?_cons, if_pos rfl]
        rfl
      cases hx : txtN [] 1 l' with
      | bad e =>
        rw [hx] at ht
        rw [ht] at hn
        simp at hn
      | ok b n =>
        rw [hx] at ht
        simp only at ht
        have hle := txtN_le _ _ _ _ _ hx
        rw [ht] at hy hrM hhM ⊢
        simp only at hy hrM hhM ⊢
        have hnn : n = (n - 1) + 1 := by omega
        have hd : ((39 : UInt8) :: l').drop n = l'.drop (n - 1) := by
          conv => lhs; rw [hnn]
          rfl
        have htx := txt_next l' [] 1 b n y hx (by rwa [hd] at hy)
        have htk : ((39 : UInt8) :: l').take n = 39 :: l'.take (n - 1) := by
          conv => lhs; rw [hnn]
          rfl
        unfold tokN
        rw [hrM, if_neg (by omega), hhM, if_pos rfl, htk]
        show (match txtN [] 1 (l'.take (n - 1) ++ y) with
          | .bad e => (⟨0, [], 0, e⟩ : TokR)
          | .ok b n => ⟨4, b, n, 0⟩) = _
        rw [htx]
    · have h39' : ¬ (some c = some (39 : UInt8)) := by simpa using h39
      have ht : tokN (c :: l') = if 0 < sgnN (c :: l') then ⟨5, (c :: l').take (sgnN (c :: l')), sgnN (c :: l'), 0⟩ else ⟨0, [], 0, 11⟩ := by
        unfold tokN
        rw [if_neg hr, List.head?_cons, if_neg h39']
      by_cases hs : 0 < sgnN (c :: l')
      · rw [if_pos hs] at ht
        rw [ht] at hy hrM hhM ⊢
        simp only at hy hrM hhM ⊢
        have hsn := sgn_next (c :: l') y hs hy
        have hl : ((c :: l').take (sgnN (c :: l'))).length = sgnN (c :: l') := by rw [List.length_take]; have := sgnN_le (c :: l'); omega
        have htk : ((c :: l').take (sgnN (c :: l')) ++ y).take (sgnN (c :: l')) = (c :: l').take (sgnN (c :: l')) := by rw [List.take_append_of_le_length (by omega), List.take_take, Nat.min_self]
        conv => lhs; unfold tokN
        rw [hrM, if_neg (by omega), hhM, if_neg h39', hsn, if_pos hs, htk]
      · rw [if_neg hs] at ht
        rw [ht] at h
        simp at h
/-- Enough is enough. -/
theorem toks_fuel : ∀ (N : Nat) (l : List UInt8), l.length ≤ N → ∀ (f f' p c : Nat), l.length < f → l.length < f' → toksN f l p c = toksN f' l p c := by
  intro N
  induction N with
  | zero =>
    intro l hl f f' p c hf hf'
    obtain ⟨f, rfl⟩ : ∃ g, f = g + 1 := ⟨f - 1, by omega⟩
    obtain ⟨f', rfl⟩ : ∃ g, f' = g + 1 := ⟨f' - 1, by omega⟩
    have : l = [] := List.eq_nil_of_length_eq_zero (by omega)
    subst this
    rw [toksN_end rfl, toksN_end rfl]
  | succ N ih =>
    intro l hl f f' p c hf hf'
    obtain ⟨f, rfl⟩ : ∃ g, f = g + 1 := ⟨f - 1, by omega⟩
    obtain ⟨f', rfl⟩ : ∃ g, f' = g + 1 := ⟨f' - 1, by omega⟩
    by_cases hne : l.drop (skipN l) = []
    · rw [toksN_end hne, toksN_end hne]
    · rw [toksN_step hne, toksN_step hne]
      by_cases hc : c = 1000
      · rw [if_pos hc, if_pos hc]
      · rw [if_neg hc, if_neg hc]
        by_cases he : (tokN (l.drop (skipN l))).e = 0
        · have hn := tokN_n _ he
          have h1 : ¬ ((tokN (l.drop (skipN l))).e ≠ 0) := by simpa using he
          rw [if_neg h1, if_neg h1]
          rw [ih _ (by rw [List.length_drop, List.length_drop] at *; omega) f f' _ _ (by rw [List.length_drop, List.length_drop] at *; omega) (by rw [List.length_drop, List.length_drop] at *; omega)]
        · rw [if_pos he, if_pos he]
def toksT (l : List UInt8) (p c : Nat) : TksR := toksN (l.length + 1) l p c
theorem toksT_end {l : List UInt8} {p c : Nat} (h : l.drop (skipN l) = []) : toksT l p c = .ok [(0, [], p + skipN l)] := toksN_end h
theorem toksT_step {l : List UInt8} {p c : Nat} (hne : l.drop (skipN l) ≠ []) : toksT l p c = if c = 1000 then .bad 15 else if (tokN (l.drop (skipN l))).e ≠ 0 then .bad (tokN (l.drop (skipN l))).e else (toksT ((l.drop (skipN l)).drop (tokN (l.drop (skipN l))).n) (p + skipN l + (tokN (l.drop (skipN l))).n) (c + 1)).cons ((tokN (l.drop (skipN l))).k, (tokN (l.drop (skipN l))).t, p + skipN l) := by
  unfold toksT
  rw [toksN_step hne]
  by_cases hc : c = 1000
  · rw [if_pos hc, if_pos hc]
  · rw [if_neg hc, if_neg hc]
    by_cases he : (tokN (l.drop (skipN l))).e = 0
    · have hn := tokN_n _ he
      have h1 : ¬ ((tokN (l.drop (skipN l))).e ≠ 0) := by simpa using he
      rw [if_neg h1, if_neg h1]
      rw [toks_fuel l.length ((l.drop (skipN l)).drop (tokN (l.drop (skipN l))).n) (by rw [List.length_drop, List.length_drop]; omega) l.length _ _ _ (by rw [List.length_drop, List.length_drop] at *; omega) (Nat.lt_succ_self _)]
    · rw [if_pos he, if_pos he]
theorem skip_ws : ∀ (l y : List UInt8), l.drop (skipN l) = [] → skipN (l ++ y) = l.length + skipN y
  | [], y, _ => by simp
  | c :: l, y, h => by
    unfold skipN at h
    show skipN (c :: (l ++ y)) = _
    split at h
    · rename_i hc
      rw [skipN, if_pos hc, skip_ws l y (by simpa using h)]
      simp; omega
    · simp at h
theorem skip_lt : ∀ (l y : List UInt8), l.drop (skipN l) ≠ [] → skipN (l ++ y) = skipN l
  | [], y, h => by simp at h
  | c :: l, y, h => by
    unfold skipN at h ⊢
    show (if wsB c = true then skipN (l ++ y) + 1 else 0) = _
    split at h
    · rename_i hc
      rw [if_pos hc, if_pos hc, skip_lt l y (by simpa using h)]
    · rename_i hc
      rw [if_neg hc, if_neg hc]
theorem app_app (a b : List Tk) (r : TksR) : (r.app b).app a = r.app (a ++ b) := by cases r <;> simp [TksR.app]
theorem app_nil (r : TksR) : r.app [] = r := by cases r <;> simp [TksR.app]
theorem skip_le_len (l : List UInt8) (h : l.drop (skipN l) = []) : skipN l = l.length := by
  have h1 := skipN_le l
  have h2 := congrArg List.length h
  rw [List.length_drop] at h2
  simp at h2
  omega
/-- Blanks ahead. -/
theorem toks_skipL (l b : List UInt8) (h : l.drop (skipN l) = []) (p c : Nat) : toksT (l ++ b) p c = toksT b (p + l.length) c := by
  have hs := skip_ws l b h
  have hd : (l ++ b).drop (skipN (l ++ b)) = b.drop (skipN b) := by
    rw [hs, List.drop_append, List.drop_eq_nil_of_le (by omega), List.nil_append]
    congr 1
    omega
  by_cases hb : b.drop (skipN b) = []
  · rw [toksT_end (by rw [hd]; exact hb), toksT_end hb, hs]
    congr 4
    omega
  · rw [toksT_step (by rw [hd]; exact hb), toksT_step hb, hd, hs]
    have e : p + (l.length + skipN b) = p + l.length + skipN b := by omega
    rw [e]
theorem toks_skipW (l : List UInt8) (h : l.drop (skipN l) = []) (b : List UInt8) (p c : Nat) : toksT (l ++ 32 :: b) p c = toksT b (p + l.length + 1) c := by
  have e : l ++ 32 :: b = (l ++ [32]) ++ b := by simp
  have h2 : (l ++ [32]).drop (skipN (l ++ [32])) = [] := by
    have h3 : skipN [32] = 1 := by decide
    rw [skip_ws l [32] h, h3]
    exact List.drop_eq_nil_of_le (by simp)
  rw [e, toks_skipL _ b h2]
  simp [Nat.add_assoc]
theorem toks_skip1 (b : List UInt8) (p c : Nat) : toksT ([] ++ 32 :: b) p c = toksT b (p + 0 + 1) c := toks_skipW [] rfl b p c
/-- Behind a query and a blank stand the other one's tokens. -/
theorem toks_join : ∀ (N : Nat) (l : List UInt8), l.length ≤ N → ∀ (p c : Nat) (r : List Tk), toksT l p c = .ok r → ∃ i, r = i ++ [(0, [], p + l.length)] ∧ ∀ b : List UInt8, toksT (l ++ 32 :: b) p c = (toksT b (p + l.length + 1) (c + i.length)).app i := by
  intro N
  induction N with
  | zero =>
    intro l hl p c r h
    have : l = [] := List.eq_nil_of_length_eq_zero (by omega)
    subst this
    rw [toksT_end rfl] at h
    injection h with h
    subst h
    refine ⟨[], rfl, fun b => ?_⟩
    rw [app_nil]
    exact toks_skip1 b p c
  | succ N ih =>
    intro l hl p c r h
    by_cases hne : l.drop (skipN l) = []
    · rw [toksT_end hne] at h
      injection h with h
      subst h
      refine ⟨[], by rw [skip_le_len l hne]; rfl, fun b => ?_⟩
      rw [app_nil]
      exact toks_skipW l hne b p c
    · rw [toksT_step hne] at h
      by_cases hc : c = 1000
      · rw [if_pos hc] at h; cases h
      · rw [if_neg hc] at h
        by_cases he : (tokN (l.drop (skipN l))).e = 0
        · have h1 : ¬ ((tokN (l.drop (skipN l))).e ≠ 0) := by simpa using he
          rw [if_neg h1] at h
          have hn := tokN_n _ he
          cases hrest : toksT ((l.drop (skipN l)).drop (tokN (l.drop (skipN l))).n) (p + skipN l + (tokN (l.drop (skipN l))).n) (c + 1) with
          | bad e => rw [hrest] at h; cases h
          | ok r' =>
            rw [hrest] at h
            injection h with h
            subst h
            rw [List.length_drop] at hn
            obtain ⟨i, hi, hj⟩ := ih _ (by rw [List.length_drop, List.length_drop]; omega) _ _ _ hrest
            have hlen : p + skipN l + (tokN (l.drop (skipN l))).n + ((l.drop (skipN l)).drop (tokN (l.drop (skipN l))).n).length = p + l.length := by
              rw [List.length_drop, List.length_drop]
              omega
            rw [hlen] at hi hj
            refine ⟨((tokN (l.drop (skipN l))).k, (tokN (l.drop (skipN l))).t, p + skipN l) :: i, by rw [hi]; rfl, fun b => ?_⟩
            have hsk := skip_lt l (32 :: b) hne
            have hdr : (l ++ 32 :: b).drop (skipN (l ++ 32 :: b)) = l.drop (skipN l) ++ 32 :: b := by
              rw [hsk, List.drop_append_of_le_length (skipN_le l)]
            obtain ⟨n, hnn⟩ : ∃ n, (tokN (l.drop (skipN l))).n = n := ⟨_, rfl⟩
            have htok : tokN (l.drop (skipN l) ++ 32 :: b) = tokN (l.drop (skipN l)) := by
              have e : l.drop (skipN l) ++ 32 :: b = (l.drop (skipN l)).take n ++ ((l.drop (skipN l)).drop n ++ 32 :: b) := by
                rw [← List.append_assoc, List.take_append_drop]
              have h2 := tok_next (l.drop (skipN l)) ((l.drop (skipN l)).drop n ++ 32 :: b) he (by
                rw [hnn]
                cases (l.drop (skipN l)).drop n with
                | nil => exact .inr rfl
                | cons d r => exact .inl rfl)
              rw [hnn, ← e] at h2
              exact h2
            have hne2 : (l ++ 32 :: b).drop (skipN (l ++ 32 :: b)) ≠ [] := by rw [hdr]; simp
            rw [toksT_step hne2, hdr, htok, if_neg hc, if_neg h1, hsk]
            have hdd : (l.drop (skipN l) ++ 32 :: b).drop (tokN (l.drop (skipN l))).n = (l.drop (skipN l)).drop (tokN (l.drop (skipN l))).n ++ 32 :: b := by
              rw [List.drop_append_of_le_length (by rw [List.length_drop]; omega)]
            rw [hdd, hj b]
            have e3 : c + (((tokN (l.drop (skipN l))).k, (tokN (l.drop (skipN l))).t, p + skipN l) :: i).length = c + 1 + i.length := by simp; omega
            rw [e3]
            cases toksT b (p + l.length + 1) (c + 1 + i.length) <;> rfl
        · rw [if_pos he] at h; cases h
end Go.Proofs.Ytbmfojeklhbocaa
