/-
  Tokens of queries: where they stand; a query put together anew (plain).
-/
import Derived.Test.YtbmfojeklhbocaaXo
set_option linter.unusedSimpArgs false
set_option linter.unusedVariables false
namespace Go.Proofs.Ytbmfojeklhbocaa
open Go.RowKit

theorem skip_all : ∀ (l : List UInt8), ∀ c ∈ l.take (skipN l), wsB c = true
  | [], c, h => by simp at h
  | d :: l, c, h => by
    unfold skipN at h
    split at h
    · rename_i hd
      rw [List.take_succ_cons] at h
      rcases List.mem_cons.1 h with h | h
      · subst h; exact hd
      · exact skip_all l c h
    · simp at h
theorem skip_head : ∀ (l : List UInt8), l.drop (skipN l) ≠ [] → ∃ c, (l.drop (skipN l)).head? = some c ∧ wsB c = false
  | [], h => by simp at h
  | d :: l, h => by
    unfold skipN at h ⊢
    split at h
    · rename_i hd
      rw [if_pos hd]
      exact skip_head l (by simpa using h)
    · rename_i hd
      rw [if_neg hd]
      exact ⟨d, rfl, by simpa using hd⟩
theorem toks_first {l : List UInt8} {p c : Nat} {r : List Tk} (h : toksT l p c = .ok r) : ∃ x r', r = x :: r' ∧ x.2.2 = p + skipN l := by
  by_cases hne : l.drop (skipN l) = []
  · rw [toksT_end hne] at h
    injection h with h
    subst h
    exact ⟨_, _, rfl, rfl⟩
  · rw [toksT_step hne] at h
    split at h
    · cases h
    · split at h
      · cases h
      · cases hr : toksT ((l.drop (skipN l)).drop (tokN (l.drop (skipN l))).n) (p + skipN l + (tokN (l.drop (skipN l))).n) (c + 1) with
        | bad k => rw [hr] at h; cases h
        | ok r' =>
          rw [hr] at h
          injection h with h
          subst h
          exact ⟨_, _, rfl, rfl⟩
/-- What is known of a token, and of the one behind it. -/
structure TkAt (l : List UInt8) (p : Nat) (x y : Tk) (n : Nat) : Prop where
  hp : p ≤ x.2.2
  he : (tokN (l.drop (x.2.2 - p))).e = 0
  hk : (tokN (l.drop (x.2.2 - p))).k = x.1
  ht : (tokN (l.drop (x.2.2 - p))).t = x.2.1
  hn : (tokN (l.drop (x.2.2 - p))).n = n
  hy : x.2.2 + n ≤ y.2.2
  hl : y.2.2 ≤ p + l.length
  hw : ∀ c ∈ ((l.drop (x.2.2 - p)).drop n).take (y.2.2 - x.2.2 - n), wsB c = true
  hh : ∃ c, (l.drop (x.2.2 - p)).head? = some c ∧ wsB c = false
theorem toks_where : ∀ (N : Nat) (l : List UInt8), l.length ≤ N → ∀ (p c : Nat) (r : List Tk), toksT l p c = .ok r → ∀ (i : Nat) (x y : Tk), r[i]? = some x → r[i + 1]? = some y → ∃ n, TkAt l p x y n := by
  intro N
  induction N with
  | zero =>
    intro l hl p c r h i x y hx hy
    have : l = [] := List.eq_nil_of_length_eq_zero (by omega)
    subst this
    rw [toksT_end rfl] at h
    injection h with h
    subst h
    simp at hy
  | succ N ih =>
    intro l hl p c r h i x y hx hy
    by_cases hne : l.drop (skipN l) = []
    · rw [toksT_end hne] at h
      injection h with h
      subst h
      simp at hy
    · have hhd := skip_head l hne
      rw [toksT_step hne] at h
      by_cases hc : c = 1000
      · rw [if_pos hc] at h; cases h
      · rw [if_neg hc] at h
        by_cases he : (tokN (l.drop (skipN l))).e = 0
        · have h1 : ¬ ((tokN (l.drop (skipN l))).e ≠ 0) := by simpa using he
          rw [if_neg h1] at h
          have hn := tokN_n _ he
          rw [List.length_drop] at hn
          have hsk := skipN_le l
          cases hrest : toksT ((l.drop (skipN l)).drop (tokN (l.drop (skipN l))).n) (p + skipN l + (tokN (l.drop (skipN l))).n) (c + 1) with
          | bad e => rw [hrest] at h; cases h
          | ok r' =>
            rw [hrest] at h
            injection h with h
            subst h
            obtain ⟨x1, r1, hr1, hx1⟩ := toks_first hrest
            cases i with
            | zero =>
              simp only [List.getElem?_cons_zero, Option.some.injEq] at hx
              subst hx
              rw [hr1] at hy
              simp only [List.getElem?_cons_succ, List.getElem?_cons_zero, Option.some.injEq] at hy
              subst hy
              have hsk2 := skipN_le ((l.drop (skipN l)).drop (tokN (l.drop (skipN l))).n)
              rw [List.length_drop, List.length_drop] at hsk2
              have e0 : p + skipN l - p = skipN l := by omega
              refine ⟨(tokN (l.drop (skipN l))).n, ⟨?_, ?_, ?_, ?_, ?_, ?_, ?_, ?_, ?_⟩⟩
              · show p ≤ p + skipN l; omega
              · show (tokN (l.drop (p + skipN l - p))).e = 0; rw [e0]; exact he
              · show (tokN (l.drop (p + skipN l - p))).k = _; rw [e0]
              · show (tokN (l.drop (p + skipN l - p))).t = _; rw [e0]
              · show (tokN (l.drop (p + skipN l - p))).n = _; rw [e0]
              · show p + skipN l + _ ≤ x1.2.2; rw [hx1]; omega
              · rw [hx1]; omega
              · show ∀ c ∈ ((l.drop (p + skipN l - p)).drop _).take (x1.2.2 - (p + skipN l) - _), wsB c = true
                rw [hx1, e0]
                have e : p + skipN l + (tokN (l.drop (skipN l))).n + skipN ((l.drop (skipN l)).drop (tokN (l.drop (skipN l))).n) - (p + skipN l) - (tokN (l.drop (skipN l))).n = skipN ((l.drop (skipN l)).drop (tokN (l.drop (skipN l))).n) := by omega
                rw [e]
                exact skip_all _
              · show ∃ c, (l.drop (p + skipN l - p)).head? = some c ∧ _
                rw [e0]
                exact hhd
            | succ i =>
              simp only [List.getElem?_cons_succ] at hx hy
              obtain ⟨n, g1, g2, g3, g4, g5, g6, g7, g8, g9⟩ := ih _ (by rw [List.length_drop, List.length_drop]; omega) _ _ _ hrest i x y hx hy
              have ed : ((l.drop (skipN l)).drop (tokN (l.drop (skipN l))).n).drop (x.2.2 - (p + skipN l + (tokN (l.drop (skipN l))).n)) = l.drop (x.2.2 - p) := by
                rw [List.drop_drop, List.drop_drop]
                congr 1
                omega
              rw [ed] at g2 g3 g4 g5 g8 g9
              rw [List.length_drop, List.length_drop] at g7
              exact ⟨n, by omega, g2, g3, g4, g5, g6, by omega, g8, g9⟩
        · rw [if_pos he] at h; cases h
theorem tok_raw (l : List UInt8) (he : (tokN l).e = 0) (hk : (tokN l).k ≠ 4) : (tokN l).t = l.take (tokN l).n := by
  by_cases hr : 0 < runN l
  · unfold tokN; rw [if_pos hr]
  · by_cases h39 : l.head? = some 39
    · exfalso
      apply hk
      have ht : tokN l = (match txtN [] 1 (l.drop 1) with
        | .bad e => ⟨0, [], 0, e⟩
        | .ok b n => ⟨4, b, n, 0⟩) := by unfold tokN; rw [if_neg hr, if_pos h39]; rfl
      cases hx : txtN [] 1 (l.drop 1) with
      | bad e =>
        exfalso
        rw [hx] at ht
        have := tokN_n l he
        rw [ht] at this
        simp at this
      | ok b n =>
        rw [hx] at ht
        rw [ht]
    · by_cases hs : 0 < sgnN l
      · unfold tokN; rw [if_neg hr, if_neg h39, if_pos hs]
      · exfalso
        have := tokN_n l he
        unfold tokN at this
        rw [if_neg hr, if_neg h39, if_neg hs] at this
        simp at this
theorem inn_ws (c : UInt8) (h : innB c = true) : wsB c = false := by
  cases hw : wsB c with
  | false => rfl
  | true =>
    exfalso
    unfold wsB at hw
    simp only [Bool.or_eq_true, beq_iff_eq] at hw
    rcases hw with ((hw | hw) | hw) | hw <;> (subst hw; revert h; decide)
theorem txt_last : ∀ (N : Nat) (l acc : List UInt8) (i : Nat) (b : List UInt8) (n : Nat), l.length ≤ N → txtN acc i l = .ok b n → l[n - i - 1]? = some 39
  | _, [], acc, i, b, n, _, h => by simp [txtN] at h
  | 0, c :: l, acc, i, b, n, hN, h => by simp at hN
  | N + 1, c :: l, acc, i, b, n, hN, h => by
    simp only [List.length_cons] at hN
    by_cases hc : c = 39
    · subst hc
      rcases l with _ | ⟨d, r⟩
      · rw [txtN_end (.inl rfl)] at h
        split at h
        · cases h
        · injection h with h1 h2
          subst h2
          have e : i + 1 - i - 1 = 0 := by omega
          rw [e]; rfl
      · by_cases hd : d = 39
        · subst hd
          rw [txtN_qq] at h
          have hle2 := txtN_le _ _ _ _ _ h
          have ih := txt_last N r (acc ++ [39]) (i + 2) b n (by simp only [List.length_cons] at hN; omega) h
          have e : n - i - 1 = (n - (i + 2) - 1) + 2 := by omega
          rw [e]
          simpa using ih
        · rw [txtN_end (.inr ⟨d, r, rfl, hd⟩)] at h
          split at h
          · cases h
          · injection h with h1 h2
            subst h2
            have e : i + 1 - i - 1 = 0 := by omega
            rw [e]; rfl
    · rw [txtN_step hc] at h
      have hle2 := txtN_le _ _ _ _ _ h
      have ih := txt_last N l (acc ++ [c]) (i + 1) b n (by omega) h
      have e : n - i - 1 = (n - (i + 1) - 1) + 1 := by omega
      rw [e]
      simpa using ih
theorem sgn_ws (l : List UInt8) (hs : 0 < sgnN l) (c : UInt8) (hc : l[sgnN l - 1]? = some c) : wsB c = false := by
  by_cases h2 : 1 < l.length ∧ (l.take 2 = [60, 61] ∨ l.take 2 = [62, 61] ∨ l.take 2 = [60, 62])
  · have e : sgnN l = 2 := by unfold sgnN; rw [if_pos h2]
    rw [e] at hc
    have h3 : (l.take 2)[1]? = some c := by
      rw [List.getElem?_take]
      simpa using hc
    rcases h2.2 with h | h | h
    all_goals
      rw [h] at h3
      simp at h3
      subst h3
      decide
  · cases l with
    | nil => simp [sgnN] at hs
    | cons d l =>
      have e : sgnN (d :: l) = if ones.contains d then 1 else 0 := by unfold sgnN; rw [if_neg h2]
      by_cases h : ones.contains d = true
      · rw [e, if_pos h] at hc
        simp at hc
        subst hc
        cases hw : wsB d with
        | false => rfl
        | true =>
          exfalso
          unfold wsB at hw
          simp only [Bool.or_eq_true, beq_iff_eq] at hw
          rcases hw with ((hw | hw) | hw) | hw <;> (subst hw; revert h; decide)
      · rw [e, if_neg h] at hs
        omega
theorem tok_last (l : List UInt8) (he : (tokN l).e = 0) (c : UInt8) (hc : l[(tokN l).n - 1]? = some c) : wsB c = false := by
  have hn := tokN_n l he
  by_cases hr : 0 < runN l
  · have e : (tokN l).n = runN l := by unfold tokN; rw [if_pos hr]
    rw [e] at hc
    refine inn_ws c (run_inn l c ?_)
    have h3 : (l.take (runN l))[runN l - 1]? = some c := by
      rw [List.getElem?_take, if_pos (by omega)]
      exact hc
    exact List.mem_of_getElem? h3
  · by_cases h39 : l.head? = some 39
    · have ht : tokN l = (match txtN [] 1 (l.drop 1) with
        | .bad e => ⟨0, [], 0, e⟩
        | .ok b n => ⟨4, b, n, 0⟩) := by unfold tokN; rw [if_neg hr, if_pos h39]; rfl
      cases hx : txtN [] 1 (l.drop 1) with
      | bad e =>
        exfalso
        rw [hx] at ht
        rw [ht] at hn
        simp at hn
      | ok b n =>
        rw [hx] at ht
        rw [ht] at hc
        simp only at hc
        have hle := txtN_le _ _ _ _ _ hx
        have h1 := txt_last _ _ _ _ _ _ (Nat.le_refl _) hx
        rw [List.getElem?_drop] at h1
        have e : 1 + (n - 1 - 1) = n - 1 := by omega
        rw [e, hc] at h1
        injection h1 with h1
        subst h1
        decide
    · by_cases hs : 0 < sgnN l
      · have e : (tokN l).n = sgnN l := by unfold tokN; rw [if_neg hr, if_neg h39, if_pos hs]
        rw [e] at hc
        exact sgn_ws l hs c hc
      · exfalso
        unfold tokN at hn
        rw [if_neg hr, if_neg h39, if_neg hs] at hn
        simp at hn
/-- A token to be put down again: its bytes, the blanks behind it, what it is. -/
structure It where
  raw : List UInt8
  ext : List UInt8
  k : Nat
  t : List UInt8
structure It.good (x : It) : Prop where
  hh : ∃ c, x.raw.head? = some c ∧ wsB c = false
  ht : ∀ y : List UInt8, y.head? = some 32 → tokN (x.raw ++ y) = ⟨x.k, x.t, x.raw.length, 0⟩
  hw : ∀ c ∈ x.ext, wsB c = true
def itS (l : List It) : List UInt8 := l.flatMap fun x => x.raw ++ 32 :: x.ext
theorem ws_skip : ∀ (l : List UInt8), (∀ c ∈ l, wsB c = true) → l.drop (skipN l) = []
  | [], _ => rfl
  | c :: l, h => by
    unfold skipN
    rw [if_pos (h c (by simp))]
    exact ws_skip l fun d hd => h d (by simp [hd])
def ktL (l : List Tk) : List (Nat × List UInt8) := l.map fun x => (x.1, x.2.1)
theorem toks_items : ∀ (its : List It) (p c : Nat), (∀ x ∈ its, x.good) → c + its.length ≤ 1000 → ∃ r, toksT (itS its) p c = .ok r ∧ ktL r = its.map (fun x => (x.k, x.t)) ++ [(0, [])]
  | [], p, c, _, _ => ⟨_, toksT_end rfl, rfl⟩
  | x :: its, p, c, hg, hc => by
    obtain ⟨⟨d, hd, hdw⟩, ht, hw⟩ := hg x (by simp)
    simp only [List.length_cons] at hc
    have hS : itS (x :: its) = x.raw ++ 32 :: (x.ext ++ itS its) := by simp [itS]
    obtain ⟨raw', hraw⟩ : ∃ raw', x.raw = d :: raw' := by
      cases hx : x.raw with
      | nil => rw [hx] at hd; simp at hd
      | cons e r => rw [hx] at hd; simp at hd; subst hd; exact ⟨r, rfl⟩
    have hsk : skipN (itS (x :: its)) = 0 := by
      rw [hS, hraw]
      show skipN (d :: _) = 0
      rw [skipN, if_neg (by rw [hdw]; simp)]
    have hdr : (itS (x :: its)).drop (skipN (itS (x :: its))) = itS (x :: its) := by rw [hsk, List.drop_zero]
    have hne : (itS (x :: its)).drop (skipN (itS (x :: its))) ≠ [] := by rw [hdr, hS, hraw]; simp
    have htok : tokN (itS (x :: its)) = ⟨x.k, x.t, x.raw.length, 0⟩ := by
      rw [hS]
      exact ht _ rfl
    have hrest : (itS (x :: its)).drop x.raw.length = (32 :: x.ext) ++ itS its := by
      rw [hS]
      exact List.drop_left' rfl
    have hws : (32 :: x.ext).drop (skipN (32 :: x.ext)) = [] := ws_skip _ (by
      intro e he
      rcases List.mem_cons.1 he with he | he
      · subst he; decide
      · exact hw e he)
    obtain ⟨r, hr, hk⟩ := toks_items its (p + skipN (itS (x :: its)) + x.raw.length + (32 :: x.ext).length) (c + 1) (fun y hy => hg y (by simp [hy])) (by omega)
    rw [toksT_step hne, hdr, htok, if_neg (by omega)]
    simp only [ne_eq, not_true_eq_false, if_false]
    rw [hrest, toks_skipL _ _ hws, hr]
    refine ⟨_, rfl, ?_⟩
    simp only [ktL, List.map_cons] at hk ⊢
    rw [hk]
    rfl
end Go.Proofs.Ytbmfojeklhbocaa
