
/-
  Values shown and read: the program's way and the reference's come to the same (plain).
-/
import Derived.Test.YtblpflobpffjnaaDoorVa
import Derived.Test.YtblpflobpffjnaaDoorVj
namespace Go.Proofs.YtblpflobpffjnaaDoor
open Go.RowKit

def wNull : List UInt8 := [78, 85, 76, 76]
def wTrue : List UInt8 := [84, 82, 85, 69]
def wFalse : List UInt8 := [70, 65, 76, 83, 69]
def vZero : Vl := ⟨0, 0, ⟨#[]⟩⟩
def showV (v : Vl) : ByteArray := if v.k = 1 then ⟨(Lib.itoa v.i).toArray⟩ else showT v
def showL (v : Vl) : List UInt8 := if v.k = 1 then Lib.itoa v.i else if v.k = 2 then (if v.i = 0 then wFalse else wTrue) else if v.k = 3 then 39 :: (dblL v.s.data.toList ++ [39]) else wNull
theorem show_list (v : Vl) : (showV v).data.toList = showL v := by
  unfold showV showL
  by_cases h1 : v.k = 1
  · rw [if_pos h1, if_pos h1]
  · rw [if_neg h1, if_neg h1]
    unfold showT
    by_cases h2 : v.k = 2
    · rw [if_pos h2, if_pos h2]
      by_cases h : v.i = 0
      · rw [if_pos h, if_pos h]; rfl
      · rw [if_neg h, if_neg h]; rfl
    · rw [if_neg h2, if_neg h2]
      by_cases h3 : v.k = 3
      · rw [if_pos h3, if_pos h3]
        simp [qS, dbl, ByteArray.data_append]
      · rw [if_neg h3, if_neg h3]; rfl
def numG (l : List UInt8) : Vl := match Lib.parseIntB 64 l with
  | .ok n => ⟨1, n, ⟨#[]⟩⟩
  | _ => vZero
def guessL (l : List UInt8) : Vl :=
  if l = wTrue then ⟨2, 1, ⟨#[]⟩⟩ else if l = wFalse then ⟨2, 0, ⟨#[]⟩⟩ else if 2 ≤ l.length ∧ l.head? = some 39 then ⟨3, 0, und ((l.drop 1).take (l.length - 2))⟩ else numG l
def readL (l : List UInt8) : Vl × Bool := if mayV (guessL l) = true ∧ showL (guessL l) = l then (guessL l, true) else (vZero, false)

def textR (l : List UInt8) : Option (List UInt8) := if 2 ≤ l.length ∧ l.head? = some 39 ∧ l.getLast? = some 39 then parQ ((l.drop 1).take (l.length - 2)) else none
def numR (l : List UInt8) : Vl × Bool := if (numL l).2 = true then (⟨1, (numL l).1, ⟨#[]⟩⟩, true) else (vZero, false)
def rreadL (l : List UInt8) : Vl × Bool :=
  if l = wNull then (vZero, true) else if l = wTrue then (⟨2, 1, ⟨#[]⟩⟩, true) else if l = wFalse then (⟨2, 0, ⟨#[]⟩⟩, true) else
  match textR l with
  | some t => if t.length ≤ 48 then (⟨3, 0, ⟨t.toArray⟩⟩, true) else numR l
  | none => numR l

theorem ba_ext {s : ByteArray} {l : List UInt8} (h : s.data.toList = l) : s = ⟨l.toArray⟩ := by subst h; rfl
theorem empty_of {s : ByteArray} (h : (s.toList == []) = true) : s = ⟨#[]⟩ := by
  rw [ByteArray.toList_eq] at h
  exact ba_ext (by simpa using h)
/-- What a value that may be looks like. -/
theorem may_cases {v : Vl} (h : mayV v = true) : v = vZero ∨ (∃ i, v = ⟨1, i, ⟨#[]⟩⟩) ∨ v = ⟨2, 0, ⟨#[]⟩⟩ ∨ v = ⟨2, 1, ⟨#[]⟩⟩ ∨ (∃ s : ByteArray, v = ⟨3, 0, s⟩ ∧ s.size ≤ 48) := by
  obtain ⟨k, i, s⟩ := v
  unfold mayV at h
  simp only at h
  by_cases h0 : k = 0
  · subst h0
    rw [if_pos rfl, Bool.and_eq_true] at h
    obtain ⟨h1, h2⟩ := h
    exact .inl (by rw [empty_of h2]; simp at h1; subst h1; rfl)
  · rw [if_neg h0] at h
    by_cases h1 : k = 1
    · subst h1
      rw [if_pos rfl] at h
      exact .inr (.inl ⟨i, by rw [empty_of h]⟩)
    · rw [if_neg h1] at h
      by_cases h2 : k = 2
      · subst h2
        rw [if_pos rfl, Bool.and_eq_true] at h
        obtain ⟨h3, h4⟩ := h
        rw [empty_of h3]
        simp at h4
        rcases h4 with rfl | rfl
        · exact .inr (.inr (.inl rfl))
        · exact .inr (.inr (.inr (.inl rfl)))
      · rw [if_neg h2] at h
        by_cases h3 : k = 3
        · subst h3
          rw [if_pos rfl, Bool.and_eq_true] at h
          obtain ⟨h4, h5⟩ := h
          simp at h4 h5
          subst h4
          exact .inr (.inr (.inr (.inr ⟨s, rfl, h5⟩)))
        · rw [if_neg h3] at h; cases h
theorem itoa_not (i : Int) : Lib.itoa i ≠ wNull ∧ Lib.itoa i ≠ wTrue ∧ Lib.itoa i ≠ wFalse ∧ (Lib.itoa i).head? ≠ some 39 := by
  obtain ⟨c, r, e, h⟩ := itoa_head i
  rw [e]
  have hc : c ≠ 78 ∧ c ≠ 84 ∧ c ≠ 70 ∧ c ≠ 39 := by
    rcases h with rfl | ⟨h1, h2⟩
    · decide
    · refine ⟨?_, ?_, ?_, ?_⟩ <;> (rintro rfl; first | exact absurd h1 (by decide) | exact absurd h2 (by decide))
  obtain ⟨h1, h2, h3, h4⟩ := hc
  simp [wNull, wTrue, wFalse, h1, h2, h3, h4]
theorem mid_dbl (t : List UInt8) : ((39 :: (t ++ [39])).drop 1).take ((39 :: (t ++ [39])).length - 2) = t := by simp
theorem guess_show {v : Vl} (hi0 : -9223372036854775808 ≤ v.i) (hi1 : v.i ≤ 9223372036854775807) (hm : mayV v = true) : guessL (showL v) = v := by
  rcases may_cases hm with rfl | ⟨i, rfl⟩ | rfl | rfl | ⟨s, rfl, hs⟩
  · rfl
  · have e : showL ⟨1, i, ⟨#[]⟩⟩ = Lib.itoa i := rfl
    obtain ⟨_, h2, h3, h4⟩ := itoa_not i
    rw [e]
    unfold guessL
    rw [if_neg h2, if_neg h3, if_neg (fun h => h4 h.2)]
    unfold numG
    rw [pib_itoa i hi0 hi1]
  · rfl
  · rfl
  · have e : showL ⟨3, 0, s⟩ = 39 :: (dblL s.data.toList ++ [39]) := rfl
    rw [e]
    unfold guessL
    rw [if_neg (by intro h; injection h with h; cases h), if_neg (by intro h; injection h with h; cases h), if_pos ⟨by simp, rfl⟩, mid_dbl]
    have := (par_some (par_dbl s.data.toList)).1
    unfold und
    rw [this]
theorem rread_show {v : Vl} (hi0 : -9223372036854775808 ≤ v.i) (hi1 : v.i ≤ 9223372036854775807) (hm : mayV v = true) : rreadL (showL v) = (v, true) := by
  rcases may_cases hm with rfl | ⟨i, rfl⟩ | rfl | rfl | ⟨s, rfl, hs⟩
  · rfl
  · have e : showL ⟨1, i, ⟨#[]⟩⟩ = Lib.itoa i := rfl
    obtain ⟨h1, h2, h3, h4⟩ := itoa_not i
    rw [e]
    unfold rreadL textR
    rw [if_neg h1, if_neg h2, if_neg h3, if_neg (fun h => h4 h.2.1)]
    simp only [numR, numL_itoa i hi0 hi1, if_true]
  · rfl
  · rfl
  · have e : showL ⟨3, 0, s⟩ = 39 :: (dblL s.data.toList ++ [39]) := rfl
    rw [e]
    unfold rreadL textR
    rw [if_neg (by intro h; injection h with h; cases h), if_neg (by intro h; injection h with h; cases h), if_neg (by intro h; injection h with h; cases h), if_pos ⟨by simp, rfl, by rw [← List.cons_append, List.getLast?_append]; rfl⟩, mid_dbl, par_dbl]
    have : s.data.toList.length ≤ 48 := by rw [len_size]; exact hs
    simp only
    rw [if_pos this]
theorem rread_sound {l : List UInt8} (h : (rreadL l).2 = true) : mayV (rreadL l).1 = true ∧ showL (rreadL l).1 = l ∧ -9223372036854775808 ≤ (rreadL l).1.i ∧ (rreadL l).1.i ≤ 9223372036854775807 := by
  have hn : ∀ (h : (numR l).2 = true), mayV (numR l).1 = true ∧ showL (numR l).1 = l ∧ -9223372036854775808 ≤ (numR l).1.i ∧ (numR l).1.i ≤ 9223372036854775807 := by
    intro h
    unfold numR at h ⊢
    by_cases hq : (numL l).2 = true
    · rw [if_pos hq]
      obtain ⟨e1, e2, e3⟩ := numL_sound hq
      exact ⟨by kernel_rfl, e1, e2, e3⟩
    · rw [if_neg hq] at h; cases h
  unfold rreadL at h ⊢
  by_cases h1 : l = wNull
  · rw [if_pos h1]; subst h1; exact ⟨by kernel_rfl, rfl, by decide, by decide⟩
  · rw [if_neg h1] at h ⊢
    by_cases h2 : l = wTrue
    · rw [if_pos h2]; subst h2; exact ⟨by kernel_rfl, rfl, by decide, by decide⟩
    · rw [if_neg h2] at h ⊢
      by_cases h3 : l = wFalse
      · rw [if_pos h3]; subst h3; exact ⟨by kernel_rfl, rfl, by decide, by decide⟩
      · rw [if_neg h3] at h ⊢
        cases ht : textR l with
        | none => rw [ht] at h; exact hn h
        | some t =>
          rw [ht] at h
          simp only at h ⊢
          by_cases h4 : t.length ≤ 48
          · rw [if_pos h4]
            refine ⟨?_, ?_, by simp, by simp⟩
            · show mayV ⟨3, 0, ⟨t.toArray⟩⟩ = true
              unfold mayV
              have : (⟨t.toArray⟩ : ByteArray).size ≤ 48 := by show t.toArray.size ≤ 48; simpa using h4
              simp [this]
            · unfold textR at ht
              by_cases hq : 2 ≤ l.length ∧ l.head? = some 39 ∧ l.getLast? = some 39
              · rw [if_pos hq] at ht
                obtain ⟨q1, q2, q3⟩ := hq
                have e := (par_some ht).2
                show 39 :: (dblL (⟨t.toArray⟩ : ByteArray).data.toList ++ [39]) = l
                have e2 : (⟨t.toArray⟩ : ByteArray).data.toList = t := by simp
                rw [e2, e]
                cases l with
                | nil => simp at q1
                | cons c r =>
                  simp at q2
                  subst q2
                  have hr : r ≠ [] := by intro e; subst e; simp at q1
                  congr 1
                  have e3 : ((39 : UInt8) :: r).length - 2 = r.length - 1 := by simp
                  rw [List.drop_one, List.tail_cons, e3, ← List.dropLast_eq_take]
                  have e4 : r.getLast hr = 39 := by
                    rw [List.getLast?_cons] at q3
                    rw [List.getLast?_eq_some_getLast hr] at q3
                    simpa using q3
                  rw [← e4]
                  exact List.dropLast_concat_getLast hr
              · rw [if_neg hq] at ht; cases ht
          · rw [if_neg h4] at h ⊢; exact hn h
theorem rread_no {l : List UInt8} (h : (rreadL l).2 = false) : rreadL l = (vZero, false) := by
  have hn : (numR l).2 = false → numR l = (vZero, false) := by
    intro h
    unfold numR at h ⊢
    by_cases hq : (numL l).2 = true
    · rw [if_pos hq] at h; cases h
    · rw [if_neg hq]
  unfold rreadL at h ⊢
  by_cases h1 : l = wNull
  · rw [if_pos h1] at h; cases h
  · rw [if_neg h1] at h ⊢
    by_cases h2 : l = wTrue
    · rw [if_pos h2] at h; cases h
    · rw [if_neg h2] at h ⊢
      by_cases h3 : l = wFalse
      · rw [if_pos h3] at h; cases h
      · rw [if_neg h3] at h ⊢
        cases ht : textR l with
        | none => rw [ht] at h; exact hn h
        | some t =>
          rw [ht] at h
          simp only at h ⊢
          by_cases h4 : t.length ≤ 48
          · rw [if_pos h4] at h; cases h
          · rw [if_neg h4] at h ⊢; exact hn h
theorem read_eq (l : List UInt8) (hb : -9223372036854775808 ≤ (guessL l).i ∧ (guessL l).i ≤ 9223372036854775807) : readL l = rreadL l := by
  cases h : (rreadL l).2 with
  | true =>
    obtain ⟨h1, h2, h3, h4⟩ := rread_sound h
    have e : rreadL l = ((rreadL l).1, true) := by rw [← h]
    rw [e]
    have g : guessL l = (rreadL l).1 := by rw [← h2]; exact (guess_show h3 h4 h1).trans (by rw [h2])
    unfold readL
    rw [g, if_pos ⟨h1, h2⟩]
  | false =>
    rw [rread_no h]
    unfold readL
    rw [if_neg]
    rintro ⟨h1, h2⟩
    have := rread_show hb.1 hb.2 h1
    rw [h2] at this
    rw [this] at h
    cases h
end Go.Proofs.YtblpflobpffjnaaDoor
