
/-
  A row's line: its values, parted in two ways (plain).
-/
import Derived.Test.YtblpflobpffjnaaDoorVk
set_option linter.unusedSimpArgs false
set_option linter.unusedVariables false
namespace Go.Proofs.YtblpflobpffjnaaDoor

def joinB : List (List UInt8) → List UInt8
  | [] => []
  | [x] => x
  | x :: y :: r => x ++ (32 :: 124 :: 32 :: joinB (y :: r))
theorem joinB_cons (x : List UInt8) {l : List (List UInt8)} (h : l ≠ []) : joinB (x :: l) = x ++ (32 :: 124 :: 32 :: joinB l) := by
  cases l with
  | nil => exact absurd rfl h
  | cons y r => rfl
theorem joinB_len : ∀ l : List (List UInt8), l.length ≤ (joinB l).length + 1
  | [] => by simp
  | [x] => by simp
  | x :: y :: r => by
    have := joinB_len (y :: r)
    simp only [joinB, List.length_append, List.length_cons] at this ⊢
    omega

/-- Bytes up to the quote that isn't doubled, behind the first one. -/
def scanQ : List UInt8 → Nat
  | [] => 0
  | [_] => 1
  | c :: d :: r => if c = 39 then (if d = 39 then 2 + scanQ r else 1) else 1 + scanQ (d :: r)
theorem scanQ_le : ∀ s : List UInt8, scanQ s ≤ s.length
  | [] => by simp [scanQ]
  | [_] => by simp [scanQ]
  | c :: d :: r => by
    have h1 := scanQ_le r
    have h2 := scanQ_le (d :: r)
    simp only [List.length_cons] at h2
    unfold scanQ
    split
    · split
      · simp; omega
      · simp
    · simp; omega
def shownN (s : List UInt8) : Nat := if s.head? = some 39 then 1 + scanQ s.tail else (s.takeWhile (· != 32)).length
theorem tw_le (s : List UInt8) : (s.takeWhile (· != 32)).length ≤ s.length := by
  induction s with
  | nil => simp
  | cons c r ih =>
    rw [List.takeWhile_cons]
    split
    · simp; omega
    · simp
theorem shownN_le (s : List UInt8) : shownN s ≤ s.length := by
  unfold shownN
  cases s with
  | nil => simp
  | cons c r =>
    split
    · have := scanQ_le r
      simp; omega
    · exact tw_le _

/-- A line parted at bars that stand in no quoted text. -/
def partsL (q : Bool) (cur : List UInt8) : List UInt8 → List (List UInt8)
  | [] => [cur]
  | c :: r =>
    if c = 39 then partsL (!q) (cur ++ [c]) r
    else if q = false ∧ c = 32 ∧ r.take 2 = [124, 32] then cur :: partsL q [] (r.drop 2)
    else partsL q (cur ++ [c]) r
termination_by s => s.length
decreasing_by all_goals (simp only [List.length_cons, List.length_drop]; omega)
theorem partsL_nil (q : Bool) (cur : List UInt8) : partsL q cur [] = [cur] := by rw [partsL]
theorem partsL_quote (q : Bool) (cur r : List UInt8) : partsL q cur (39 :: r) = partsL (!q) (cur ++ [39]) r := by rw [partsL, if_pos rfl]
theorem partsL_bar (cur r : List UInt8) : partsL false cur (32 :: 124 :: 32 :: r) = cur :: partsL false [] r := by
  rw [partsL, if_neg (by decide), if_pos ⟨rfl, rfl, rfl⟩]
  rfl
theorem partsL_else {q : Bool} {c : UInt8} (cur r : List UInt8) (h1 : c ≠ 39) (h2 : ¬ (q = false ∧ c = 32 ∧ r.take 2 = [124, 32])) : partsL q cur (c :: r) = partsL q (cur ++ [c]) r := by
  rw [partsL, if_neg h1, if_neg h2]
theorem partsL_ne : ∀ (n : Nat) (q : Bool) (cur s : List UInt8), s.length ≤ n → partsL q cur s ≠ []
  | n, q, cur, [], _ => by rw [partsL_nil]; simp
  | 0, q, cur, c :: r, h => by simp at h
  | n + 1, q, cur, c :: r, h => by
    simp only [List.length_cons] at h
    rw [partsL]
    split
    · exact partsL_ne n _ _ _ (by omega)
    · split
      · simp
      · exact partsL_ne n _ _ _ (by omega)
theorem take2_eq {r : List UInt8} (h : r.take 2 = [124, 32]) : r = 124 :: 32 :: r.drop 2 := by
  have := List.take_append_drop 2 r
  rw [h] at this
  exact this.symm
theorem partsL_join : ∀ (n : Nat) (q : Bool) (cur s : List UInt8), s.length ≤ n → joinB (partsL q cur s) = cur ++ s
  | n, q, cur, [], _ => by rw [partsL_nil]; simp [joinB]
  | 0, q, cur, c :: r, h => by simp at h
  | n + 1, q, cur, c :: r, h => by
    simp only [List.length_cons] at h
    rw [partsL]
    split
    · rw [partsL_join n _ _ _ (by omega)]; simp
    · split
      · rename_i hh
        obtain ⟨_, rfl, h2⟩ := hh
        rw [joinB_cons _ (partsL_ne _ _ _ _ (Nat.le_refl _)), partsL_join n _ _ _ (by rw [List.length_drop]; omega)]
        conv => rhs; rw [take2_eq h2]
        rfl
      · rw [partsL_join n _ _ _ (by omega)]; simp

def allR : List (List UInt8) → Option (List Vl)
  | [] => some []
  | p :: r => if (rreadL p).2 = true then (allR r).map ((rreadL p).1 :: ·) else none
def valsR (s : List UInt8) : Option (List Vl) := allR (partsL false [] s)
def valsP : Nat → List UInt8 → Option (List Vl)
  | 0, _ => none
  | f + 1, s =>
    if (rreadL (s.take (shownN s))).2 = true then
      if shownN s = s.length then some [(rreadL (s.take (shownN s))).1]
      else if (s.drop (shownN s)).take 3 = [32, 124, 32] then (valsP f (s.drop (shownN s + 3))).map ((rreadL (s.take (shownN s))).1 :: ·)
      else none
    else none

/-- A value as it may stand in a line. -/
def MayS (v : Vl) : Prop := mayV v = true ∧ -9223372036854775808 ≤ v.i ∧ v.i ≤ 9223372036854775807
/-- A line and its values. -/
def Ln (s : List UInt8) (l : List Vl) : Prop := l ≠ [] ∧ s = joinB (l.map showL) ∧ ∀ v ∈ l, MayS v

theorem allR_some : ∀ {ps : List (List UInt8)} {l : List Vl}, allR ps = some l → l.map showL = ps ∧ ∀ v ∈ l, MayS v
  | [], l, h => by simp [allR] at h; subst h; simp
  | p :: r, l, h => by
    unfold allR at h
    split at h
    · rename_i hp
      obtain ⟨l', h1, rfl⟩ := Option.map_eq_some_iff.1 h
      obtain ⟨h2, h3⟩ := allR_some h1
      obtain ⟨s1, s2, s3, s4⟩ := rread_sound hp
      exact ⟨by rw [List.map_cons, s2, h2], fun v hv => by
        rcases List.mem_cons.1 hv with rfl | hv
        · exact ⟨s1, s3, s4⟩
        · exact h3 v hv⟩
    · cases h
theorem allR_show : ∀ {l : List Vl}, (∀ v ∈ l, MayS v) → allR (l.map showL) = some l
  | [], _ => rfl
  | v :: r, h => by
    have hv := h v (by simp)
    have := rread_show hv.2.1 hv.2.2 hv.1
    have ih := allR_show (l := r) (fun u hu => h u (by simp [hu]))
    simp only [List.map_cons, allR, this, if_true, ih, Option.map_some]
theorem valsR_ln {s : List UInt8} {l : List Vl} (h : valsR s = some l) : Ln s l := by
  obtain ⟨h1, h2⟩ := allR_some h
  have hj := partsL_join _ false [] s (Nat.le_refl _)
  refine ⟨?_, ?_, h2⟩
  · rintro rfl
    exact partsL_ne _ false [] s (Nat.le_refl _) h1.symm
  · rw [h1, hj, List.nil_append]

theorem drop3_eq {r : List UInt8} (h : r.take 3 = [32, 124, 32]) : r = 32 :: 124 :: 32 :: r.drop 3 := by
  have := List.take_append_drop 3 r
  rw [h] at this
  exact this.symm
theorem valsP_ln : ∀ {f : Nat} {s : List UInt8} {l : List Vl}, valsP f s = some l → Ln s l
  | 0, s, l, h => by cases h
  | f + 1, s, l, h => by
    unfold valsP at h
    split at h
    · rename_i hp
      obtain ⟨s1, s2, s3, s4⟩ := rread_sound hp
      split at h
      · rename_i hn
        injection h with h
        subst h
        refine ⟨by simp, ?_, fun v hv => ?_⟩
        · rw [List.map_cons, List.map_nil, s2, hn, List.take_length]; rfl
        · rw [List.mem_singleton.1 hv]; exact ⟨s1, s3, s4⟩
      · split at h
        · rename_i hb
          obtain ⟨l', h1, rfl⟩ := Option.map_eq_some_iff.1 h
          obtain ⟨i1, i2, i3⟩ := valsP_ln h1
          refine ⟨by simp, ?_, fun v hv => ?_⟩
          · rw [List.map_cons, joinB_cons _ (by simpa using i1), s2, ← i2, ← List.drop_drop]
            conv => lhs; rw [← List.take_append_drop (shownN s) s, drop3_eq hb]
          · rcases List.mem_cons.1 hv with rfl | hv
            · exact ⟨s1, s3, s4⟩
            · exact i3 v hv
        · cases h
    · cases h

theorem dd_all : ∀ (k u : Nat), u ≤ k → ∀ c ∈ Lib.decDigits u, c ≠ 32 ∧ c ≠ 39
  | k, u, hk, c, hc => by
    by_cases h : u < 10
    · rw [dd_small h, List.mem_singleton] at hc
      have e := dg_nat h
      rw [← hc] at e
      constructor <;> (rintro rfl; revert e; simp; omega)
    · cases k with
      | zero => omega
      | succ k =>
        rw [dd_big h, List.mem_append] at hc
        rcases hc with hc | hc
        · exact dd_all k (u / 10) (by omega) c hc
        · rw [List.mem_singleton] at hc
          have e := dg_nat (d := u % 10) (by omega)
          rw [← hc] at e
          constructor <;> (rintro rfl; revert e; simp; omega)
theorem itoa_all (i : Int) : ∀ c ∈ Lib.itoa i, c ≠ 32 ∧ c ≠ 39 := by
  intro c hc
  rcases itoa_cases i with ⟨_, h⟩ | ⟨_, h⟩
  · rw [h] at hc
    rcases List.mem_cons.1 hc with rfl | hc
    · decide
    · exact dd_all _ _ (Nat.le_refl _) c hc
  · rw [h] at hc
    exact dd_all _ _ (Nat.le_refl _) c hc
/-- What is shown: without quotes and blanks, or a text between quotes. -/
theorem show_forms {v : Vl} (h : MayS v) : (showL v ≠ [] ∧ ∀ c ∈ showL v, c ≠ 32 ∧ c ≠ 39) ∨ ∃ t, showL v = 39 :: (dblL t ++ [39]) := by
  rcases may_cases h.1 with rfl | ⟨i, rfl⟩ | rfl | rfl | ⟨s, rfl, hs⟩
  · exact .inl ⟨by decide, by decide⟩
  · refine .inl ⟨?_, itoa_all i⟩
    obtain ⟨c, r, e, _⟩ := itoa_head i
    show Lib.itoa i ≠ []
    rw [e]; simp
  · exact .inl ⟨by decide, by decide⟩
  · exact .inl ⟨by decide, by decide⟩
  · exact .inr ⟨s.data.toList, rfl⟩

theorem tw_app : ∀ {x rest : List UInt8}, (∀ c ∈ x, c ≠ 32) → (rest = [] ∨ rest.head? = some 32) → ((x ++ rest).takeWhile (· != 32)).length = x.length
  | [], rest, _, hr => by
    rcases hr with rfl | hr
    · rfl
    · cases rest with
      | nil => rfl
      | cons c r => simp at hr; subst hr; rfl
  | c :: x, rest, h, hr => by
    have hc := h c (by simp)
    have hb : (c != 32) = true := by simpa using hc
    rw [List.cons_append, List.takeWhile_cons, if_pos hb, List.length_cons, tw_app (fun d hd => h d (by simp [hd])) hr, List.length_cons]
theorem dbl_cons (t rest : List UInt8) : ∃ d r, dblL t ++ 39 :: rest = d :: r := by
  cases t with
  | nil => exact ⟨_, _, rfl⟩
  | cons c t =>
    unfold dblL
    split <;> exact ⟨_, _, rfl⟩
theorem scan_dbl : ∀ (t rest : List UInt8), rest.head? ≠ some 39 → scanQ (dblL t ++ 39 :: rest) = (dblL t).length + 1
  | [], rest, h => by
    cases rest with
    | nil => rfl
    | cons d r =>
      have hd : d ≠ 39 := by simpa using h
      show scanQ (39 :: d :: r) = _
      rw [scanQ, if_pos rfl, if_neg hd]
      rfl
  | c :: t, rest, h => by
    have ih := scan_dbl t rest h
    by_cases hc : c = 39
    · have e : dblL (c :: t) = 39 :: 39 :: dblL t := by rw [dblL, if_pos hc]
      rw [e]
      show scanQ (39 :: 39 :: (dblL t ++ 39 :: rest)) = _
      rw [scanQ, if_pos rfl, if_pos rfl, ih]
      simp only [List.length_cons]; omega
    · have e : dblL (c :: t) = c :: dblL t := by rw [dblL, if_neg hc]
      rw [e]
      obtain ⟨d, r, hd⟩ := dbl_cons t rest
      rw [List.cons_append, hd, scanQ, if_neg hc, ← hd, ih]
      simp only [List.length_cons]; omega
theorem shown_show {v : Vl} (h : MayS v) {rest : List UInt8} (hr : rest = [] ∨ rest.head? = some 32) : shownN (showL v ++ rest) = (showL v).length := by
  rcases show_forms h with ⟨hne, hc⟩ | ⟨t, ht⟩
  · unfold shownN
    rw [if_neg ?_, tw_app (fun c hcm => (hc c hcm).1) hr]
    cases hs : showL v with
    | nil => exact absurd hs hne
    | cons c r =>
      rw [hs] at hc
      have := (hc c (by simp)).2
      simpa using this
  · rw [ht]
    have hq : rest.head? ≠ some 39 := by
      rcases hr with rfl | hr
      · simp
      · rw [hr]; decide
    have e : 39 :: (dblL t ++ [39]) ++ rest = 39 :: (dblL t ++ 39 :: rest) := by simp
    rw [e]
    unfold shownN
    rw [List.head?_cons, if_pos rfl, List.tail_cons, scan_dbl _ _ hq]
    simp only [List.length_cons, List.length_append, List.length_nil]; omega
theorem parts_plain : ∀ (x cur s : List UInt8), (∀ c ∈ x, c ≠ 32 ∧ c ≠ 39) → partsL false cur (x ++ s) = partsL false (cur ++ x) s
  | [], cur, s, _ => by simp
  | c :: x, cur, s, h => by
    have hc := h c (by simp)
    rw [List.cons_append, partsL_else _ _ hc.2 (fun hh => hc.1 hh.2.1), parts_plain x _ _ (fun d hd => h d (by simp [hd]))]
    simp
theorem parts_dbl : ∀ (t cur s : List UInt8), partsL true cur (dblL t ++ s) = partsL true (cur ++ dblL t) s
  | [], cur, s => by simp [dblL]
  | c :: t, cur, s => by
    by_cases hc : c = 39
    · have e : dblL (c :: t) = 39 :: 39 :: dblL t := by rw [dblL, if_pos hc]
      rw [e, List.cons_append, List.cons_append, partsL_quote, partsL_quote]
      simp only [Bool.not_true, Bool.not_false]
      rw [parts_dbl t]
      simp
    · have e : dblL (c :: t) = c :: dblL t := by rw [dblL, if_neg hc]
      rw [e, List.cons_append, partsL_else _ _ hc (by simp), parts_dbl t]
      simp
theorem parts_show {v : Vl} (h : MayS v) (cur s : List UInt8) : partsL false cur (showL v ++ s) = partsL false (cur ++ showL v) s := by
  rcases show_forms h with ⟨_, hc⟩ | ⟨t, ht⟩
  · exact parts_plain _ _ _ hc
  · rw [ht]
    have e : 39 :: (dblL t ++ [39]) ++ s = 39 :: (dblL t ++ 39 :: s) := by simp
    rw [e, partsL_quote, Bool.not_false, parts_dbl, partsL_quote, Bool.not_true]
    simp
theorem parts_line : ∀ {l : List Vl} (cur : List UInt8), l ≠ [] → (∀ v ∈ l, MayS v) → partsL false [] (joinB (l.map showL)) = l.map showL
  | [], _, h, _ => absurd rfl h
  | [v], _, _, h => by
    have := parts_show (h v (by simp)) [] []
    simp only [List.append_nil, List.nil_append] at this
    simp only [List.map_cons, List.map_nil, joinB]
    rw [this, partsL_nil]
  | v :: u :: r, cur, _, h => by
    rw [List.map_cons, joinB_cons _ (by simp), parts_show (h v (by simp)), partsL_bar, parts_line cur (by simp) (fun x hx => h x (by simp [List.mem_cons.1 hx]))]
    simp
theorem ln_valsR {s : List UInt8} {l : List Vl} (h : Ln s l) : valsR s = some l := by
  obtain ⟨h1, rfl, h3⟩ := h
  unfold valsR
  rw [parts_line [] h1 h3, allR_show h3]
theorem ln_valsP : ∀ {l : List Vl} {f : Nat} {s : List UInt8}, Ln s l → l.length ≤ f → valsP f s = some l
  | [], _, _, h, _ => absurd rfl h.1
  | v :: r, 0, _, _, h => by simp at h
  | v :: r, f + 1, s, ⟨_, hs, h3⟩, hf => by
    have hv := h3 v (by simp)
    have hrs := rread_show hv.2.1 hv.2.2 hv.1
    simp only [List.length_cons] at hf
    by_cases hr : r = []
    · subst hr
      have e := shown_show hv (rest := []) (.inl rfl)
      rw [List.append_nil] at e
      have hs' : s = showL v := hs
      subst hs'
      unfold valsP
      rw [e, List.take_length, hrs, if_pos rfl, if_pos rfl]
    · rw [List.map_cons, joinB_cons _ (by simpa using hr)] at hs
      have e := shown_show hv (rest := 32 :: 124 :: 32 :: joinB (r.map showL)) (.inr rfl)
      rw [← hs] at e
      have ih := ln_valsP (l := r) (f := f) (s := joinB (r.map showL)) ⟨hr, rfl, fun u hu => h3 u (by simp [hu])⟩ (by omega)
      have e1 : s.take (showL v).length = showL v := by rw [hs]; simp
      have e2 : s.drop (showL v).length = 32 :: 124 :: 32 :: joinB (r.map showL) := by rw [hs]; simp
      have e3 : s.drop ((showL v).length + 3) = joinB (r.map showL) := by rw [← List.drop_drop, e2]; rfl
      have e4 : (showL v).length ≠ s.length := by rw [hs]; simp
      unfold valsP
      rw [e, e1, hrs, if_pos rfl, if_neg e4, e2, if_pos (show List.take 3 (32 :: 124 :: 32 :: joinB (r.map showL)) = [32, 124, 32] from rfl), e3, ih]
      rfl
theorem ln_len {s : List UInt8} {l : List Vl} (h : Ln s l) : l.length ≤ s.length + 1 := by
  have := joinB_len (l.map showL)
  rw [← h.2.1, List.length_map] at this
  exact this
/-- Both ways come to the same. -/
theorem vals_eq (s : List UInt8) : valsP (s.length + 1) s = valsR s := by
  cases h : valsR s with
  | some l => exact ln_valsP (valsR_ln h) (ln_len (valsR_ln h))
  | none =>
    cases hp : valsP (s.length + 1) s with
    | none => rfl
    | some l =>
      have := ln_valsR (valsP_ln hp)
      rw [h] at this
      cases this
end Go.Proofs.YtblpflobpffjnaaDoor
