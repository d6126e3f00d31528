/-
  Several texts in one: Xa.
-/
import Derived.Test.YtgndebdoljnheaaGreatDoorMeag
import Derived.Lib.Bytealg
/-
  Tokens of queries (plain): blanks, runs, texts, signs, numbers, words.
-/
namespace Go.Proofs.YtgndebdoljnheaaGreatDoor
section
set_option linter.unusedSimpArgs false
set_option linter.unusedVariables false
open Go.RowKit

def wsB (c : UInt8) : Bool := c == 32 || c == 9 || c == 10 || c == 13
def digB (c : UInt8) : Bool := decide (48 ≤ c.toNat) && decide (c.toNat ≤ 57)
def alB (c : UInt8) : Bool := decide (97 ≤ (c ||| 32).toNat) && decide ((c ||| 32).toNat ≤ 122)
def innB (c : UInt8) : Bool := c == 95 || (digB c || alB c)
def skipN : List UInt8 → Nat
  | [] => 0
  | c :: l => if wsB c = true then skipN l + 1 else 0
def runN : List UInt8 → Nat
  | [] => 0
  | c :: l => if innB c = true then runN l + 1 else 0
/-- What a text between quotes is: an error, or its bytes and how many it has with its quotes. -/
inductive TxR
  | bad (e : Nat)
  | ok (b : List UInt8) (n : Nat)
def txtN : List UInt8 → Nat → List UInt8 → TxR
  | _, _, [] => .bad 11
  | acc, i, c :: l => if c = 39 then (match l with
      | [] => if 48 < acc.length then .bad 4 else .ok acc (i + 1)
      | d :: r => if d = 39 then txtN (acc ++ [39]) (i + 2) r else if 48 < acc.length then .bad 4 else .ok acc (i + 1))
    else txtN (acc ++ [c]) (i + 1) l
def two12 : List (List UInt8) := [[60, 61], [62, 61], [60, 62]]
def ones : List UInt8 := [40, 41, 44, 46, 42, 43, 45, 61, 60, 62]
def sgnN (l : List UInt8) : Nat := if 1 < l.length ∧ (l.take 2 = [60, 61] ∨ l.take 2 = [62, 61] ∨ l.take 2 = [60, 62]) then 2 else match l with
  | [] => 0
  | c :: _ => if ones.contains c then 1 else 0
/-- A run of digits: 0; another run: 11; too great a number: 5. -/
def numN : Bool → Nat → List UInt8 → Nat
  | g, _, [] => if g = true then 5 else 0
  | g, n, c :: l => if c.toNat < 48 ∨ 57 < c.toNat then 11 else if g = true ∨ (9223372036854775807 - (c.toNat - 48)) / 10 < n then numN true n l else numN false (n * 10 + (c.toNat - 48)) l
def wordsL : List (List UInt8) := [[65, 78, 68], [65, 83], [65, 83, 67], [66, 69, 84, 87, 69, 69, 78], [66, 89], [67, 79, 85, 78, 84], [68, 69, 83, 67], [68, 73, 83, 84, 73, 78, 67, 84], [70, 65, 76, 83, 69], [70, 82, 79, 77], [71, 82, 79, 85, 80], [73, 78], [73, 83], [76, 73, 77, 73, 84], [77, 65, 88], [77, 73, 78], [78, 79, 84], [78, 85, 76, 76], [79, 82], [79, 82, 68, 69, 82], [83, 69, 76, 69, 67, 84], [83, 85, 77], [84, 82, 85, 69], [87, 72, 69, 82, 69]]
def wordB (l : List UInt8) : Bool := wordsL.contains l
def letB (c : UInt8) : Bool := decide (97 ≤ c.toNat) && decide (c.toNat ≤ 122)
def nmB (c : UInt8) : Bool := letB c || (digB c || c == 95)
def nameB : List UInt8 → Bool
  | [] => false
  | c :: l => decide (l.length < 24) && letB c && (c :: l).all nmB
/-- A run's kind, and its error. -/
def kindN (l : List UInt8) : Nat × Nat := if wordB l = true then (1, 0) else if nameB l = true then (2, 0) else if 1 < l.length ∧ l.head? = some 48 then (0, 11) else match numN false 0 l with
  | 0 => (3, 0)
  | e => (0, e)
/-- The token with which a text begins. -/
structure TokR where
  k : Nat
  t : List UInt8
  n : Nat
  e : Nat
def tokN (l : List UInt8) : TokR :=
  if 0 < runN l then ⟨(kindN (l.take (runN l))).1, l.take (runN l), runN l, (kindN (l.take (runN l))).2⟩
  else if l.head? = some 39 then (match txtN [] 1 (l.drop 1) with
    | .bad e => ⟨0, [], 0, e⟩
    | .ok b n => ⟨4, b, n, 0⟩)
  else if 0 < sgnN l then ⟨5, l.take (sgnN l), sgnN l, 0⟩
  else ⟨0, [], 0, 11⟩
/-- A query's tokens, from a place on; so many were met ahead of it. -/
inductive TksR
  | bad (e : Nat)
  | ok (l : List (Nat × List UInt8 × Nat))
def TksR.cons (x : Nat × List UInt8 × Nat) : TksR → TksR
  | .bad e => .bad e
  | .ok l => .ok (x :: l)
def toksN : Nat → List UInt8 → Nat → Nat → TksR
  | 0, _, _, _ => .bad 0
  | f + 1, l, at_, cnt =>
    let r := l.drop (skipN l)
    let p := at_ + skipN l
    if r = [] then .ok [(0, [], p)]
    else if cnt = 1000 then .bad 15
    else if (tokN r).e ≠ 0 then .bad (tokN r).e
    else (toksN f (r.drop (tokN r).n) (p + (tokN r).n) (cnt + 1)).cons ((tokN r).k, (tokN r).t, p)
/-- A whole query's. -/
def toksQ (l : List UInt8) : TksR := if 4096 < l.length then .bad 4 else toksN (l.length + 1) l 0 0

theorem skipN_le : ∀ l, skipN l ≤ l.length
  | [] => Nat.le_refl _
  | c :: l => by
    unfold skipN
    split
    · have := skipN_le l; simp; omega
    · omega
theorem runN_le : ∀ l, runN l ≤ l.length
  | [] => Nat.le_refl _
  | c :: l => by
    unfold runN
    split
    · have := runN_le l; simp; omega
    · omega
theorem txtN_le : ∀ (l acc : List UInt8) (i : Nat) (b : List UInt8) (n : Nat), txtN acc i l = .ok b n → i < n ∧ n ≤ i + l.length ∧ b.length ≤ 48
  | [], acc, i, b, n, h => by simp [txtN] at h
  | c :: l, acc, i, b, n, h => by
    unfold txtN at h
    split at h
    · split at h
      · split at h
        · cases h
        · injection h with h1 h2
          subst h1; subst h2
          simp; omega
      · rename_i d r
        split at h
        · have := txtN_le r _ _ _ _ h
          simp; omega
        · split at h
          · cases h
          · injection h with h1 h2
            subst h1; subst h2
            simp; omega
    · have := txtN_le l _ _ _ _ h
      simp; omega
termination_by l => l.length
theorem sgnN_le (l : List UInt8) : sgnN l ≤ l.length := by
  unfold sgnN
  split
  · rename_i h; omega
  · cases l with
    | nil => simp
    | cons c l => simp only; split <;> simp
/-- A token has bytes, and no more than there are. -/
theorem tokN_n (l : List UInt8) (h : (tokN l).e = 0) : 0 < (tokN l).n ∧ (tokN l).n ≤ l.length := by
  unfold tokN at h ⊢
  split
  · rename_i h1
    exact ⟨h1, runN_le l⟩
  · rename_i h1
    rw [if_neg h1] at h
    split
    · rename_i h2
      rw [if_pos h2] at h
      have hne : 0 < l.length := by cases l with
        | nil => simp at h2
        | cons c l => simp
      cases hx : txtN [] 1 (l.drop 1) with
      | bad e =>
        exfalso
        rw [hx] at h
        simp only at h
        subst h
        exact absurd hx (by
          have : ∀ (m acc : List UInt8) (i : Nat), txtN acc i m ≠ .bad 0 := by
            intro m
            induction hm : m.length using Nat.strongRecOn generalizing m with
            | _ k ih =>
              intro acc i
              cases m with
              | nil => simp [txtN]
              | cons c m =>
                unfold txtN
                split
                · split
                  · split <;> simp
                  · rename_i d r
                    split
                    · exact ih r.length (by simp at hm; omega) r rfl _ _
                    · split <;> simp
                · exact ih m.length (by simp at hm; omega) m rfl _ _
          exact this _ _ _)
      | ok b n =>
        have := txtN_le _ _ _ _ _ hx
        simp only [List.length_drop] at this
        simp only
        omega
    · rename_i h2
      rw [if_neg h2] at h
      split
      · rename_i h3
        exact ⟨h3, sgnN_le l⟩
      · rename_i h3
        rw [if_neg h3] at h
        simp at h
end
end Go.Proofs.YtgndebdoljnheaaGreatDoor
