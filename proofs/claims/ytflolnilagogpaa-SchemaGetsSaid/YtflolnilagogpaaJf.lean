/-
  The plain parser, turned round: what is read is written as it stood.
-/
import Derived.Test.YtflolnilagogpaaIl
set_option linter.unusedSimpArgs false
set_option linter.unusedVariables false
namespace Go.Proofs.Ytflolnilagogpaa
open Go.RowKit

theorem gOne_inv {l : List UInt8} {n : Nat} {r : List UInt8} (h : gOne l = some (n, r)) : oneB (n : Int) ++ r = l ∧ n < 256 := by
  cases l with
  | nil => cases h
  | cons b t =>
    have h1 := Prod.mk.inj (Option.some.inj h)
    obtain ⟨rfl, rfl⟩ := h1
    exact ⟨by simp [oneB], b.toNat_lt⟩
theorem gTake_inv {k : Nat} {l a r : List UInt8} (h : gTake k l = some (a, r)) : a ++ r = l ∧ a.length = k := by
  unfold gTake at h
  split at h
  · rename_i hk
    obtain ⟨rfl, rfl⟩ := Prod.mk.inj (Option.some.inj h)
    exact ⟨List.take_append_drop _ _, by rw [List.length_take]; omega⟩
  · cases h
theorem gFour_inv {l : List UInt8} {n : Nat} {r : List UInt8} (h : gFour l = some (n, r)) : fourB (n : Int) ++ r = l := by
  unfold gFour at h
  split at h
  · cases h
  · rename_i a r' ha
    obtain ⟨rfl, rfl⟩ := Prod.mk.inj (Option.some.inj h)
    obtain ⟨h1, h2⟩ := gTake_inv ha
    have h3 := be_beVal a
    rw [h2] at h3
    unfold fourB
    rw [Int.toNat_natCast, h3, h1]
theorem gInt_inv {g : List UInt8 → Got Nat} {l : List UInt8} {z : Int} {r : List UInt8} (h : gInt g l = some (z, r)) : ∃ n : Nat, z = n ∧ g l = some (n, r) := by
  unfold gInt at h
  split at h
  · cases h
  · rename_i n r' ha
    obtain ⟨rfl, rfl⟩ := Prod.mk.inj (Option.some.inj h)
    exact ⟨n, rfl, ha⟩
theorem gI1_inv {l : List UInt8} {z : Int} {r : List UInt8} (h : gInt gOne l = some (z, r)) : oneB z ++ r = l := by
  obtain ⟨n, rfl, h1⟩ := gInt_inv h
  exact (gOne_inv h1).1
theorem gI4_inv {l : List UInt8} {z : Int} {r : List UInt8} (h : gInt gFour l = some (z, r)) : fourB z ++ r = l := by
  obtain ⟨n, rfl, h1⟩ := gInt_inv h
  exact gFour_inv h1
theorem gText_inv {l s r : List UInt8} (h : gText l = some (s, r)) : txtB s ++ r = l := by
  unfold gText at h
  split at h
  · cases h
  · rename_i n r' ha
    obtain ⟨h1, h2⟩ := gTake_inv h
    obtain ⟨h3, h4⟩ := gOne_inv ha
    rw [← h3, ← h1]
    unfold txtB oneB
    rw [h2]
    simp
theorem gMany_inv {α : Type} {g : List UInt8 → Got α} {f : α → List UInt8} (hg : ∀ l a r, g l = some (a, r) → f a ++ r = l) : ∀ (n : Nat) (l : List UInt8) (t : List α) (r : List UInt8), gMany g n l = some (t, r) → t.flatMap f ++ r = l ∧ t.length = n := by
  intro n
  induction n with
  | zero =>
    intro l t r h
    obtain ⟨rfl, rfl⟩ := Prod.mk.inj (Option.some.inj h)
    exact ⟨rfl, rfl⟩
  | succ n ih =>
    intro l t r h
    unfold gMany at h
    split at h
    · cases h
    · rename_i a r' ha
      split at h
      · cases h
      · rename_i t' r'' hb
        obtain ⟨rfl, rfl⟩ := Prod.mk.inj (Option.some.inj h)
        obtain ⟨h1, h2⟩ := ih _ _ _ hb
        refine ⟨?_, by rw [List.length_cons, h2]⟩
        rw [List.flatMap_cons, List.append_assoc, h1]
        exact hg _ _ _ ha
theorem gCol_inv (l : List UInt8) (c : PC) (r : List UInt8) (h : gCol l = some (c, r)) : colB c ++ r = l := by
  unfold gCol at h
  split at h
  · cases h
  rename_i s r1 h1
  split at h
  · cases h
  rename_i k r2 h2
  split at h
  · cases h
  rename_i d r3 h3
  split at h
  · cases h
  rename_i u r4 h4
  obtain ⟨rfl, rfl⟩ := Prod.mk.inj (Option.some.inj h)
  rw [← gText_inv h1, ← gI1_inv h2, ← gI4_inv h3, ← gI4_inv h4]
  simp only [colB, List.append_assoc]
theorem gNums3_inv {l : List UInt8} {a b c : Int} {r : List UInt8} (h : gNums3 l = some ((a, b, c), r)) : fourB a ++ (fourB b ++ (fourB c ++ r)) = l := by
  unfold gNums3 at h
  split at h
  · cases h
  rename_i a' r1 h1
  split at h
  · cases h
  rename_i b' r2 h2
  split at h
  · cases h
  rename_i c' r3 h3
  obtain ⟨h4, rfl⟩ := Prod.mk.inj (Option.some.inj h)
  obtain ⟨rfl, h5⟩ := Prod.mk.inj h4
  obtain ⟨rfl, rfl⟩ := Prod.mk.inj h5
  rw [← gI4_inv h1, ← gI4_inv h2, ← gI4_inv h3]
theorem gTab_inv (l : List UInt8) (t : PT) (r : List UInt8) (h : gTab l = some (t, r)) : tabB t ++ r = l := by
  unfold gTab at h
  split at h
  · cases h
  rename_i s r1 h1
  split at h
  · cases h
  rename_i n r2 h2
  split at h
  · cases h
  rename_i cs r3 h3
  split at h
  · cases h
  rename_i a b c r4 h4
  obtain ⟨rfl, rfl⟩ := Prod.mk.inj (Option.some.inj h)
  obtain ⟨h5, h6⟩ := gMany_inv gCol_inv _ _ _ _ h3
  rw [← gText_inv h1, ← (gOne_inv h2).1, ← h5, ← gNums3_inv h4, ← h6]
  simp only [tabB, List.append_assoc]
theorem gIdx_inv (l : List UInt8) (x : PX) (r : List UInt8) (h : gIdx l = some (x, r)) : idxB x ++ r = l := by
  unfold gIdx at h
  split at h
  · cases h
  rename_i s r1 h1
  split at h
  · cases h
  rename_i tb r2 h2
  split at h
  · cases h
  rename_i n r3 h3
  split at h
  · cases h
  rename_i cs r4 h4
  split at h
  · cases h
  rename_i a b c r5 h5
  split at h
  · cases h
  rename_i ds r6 h6
  obtain ⟨rfl, rfl⟩ := Prod.mk.inj (Option.some.inj h)
  obtain ⟨h7, h8⟩ := gMany_inv (fun _ _ _ h => gI1_inv h) _ _ _ _ h4
  obtain ⟨h9, h10⟩ := gMany_inv (fun _ _ _ h => gI4_inv h) _ _ _ _ h6
  rw [← gText_inv h1, ← gI1_inv h2, ← (gOne_inv h3).1, ← h7, ← gNums3_inv h5, ← h9, ← h8]
  simp only [idxB, List.append_assoc]
/-- What is read as a book is written as it stood. -/
theorem gBook_inv {l : List UInt8} {b : PB} {r : List UInt8} (h : gBook l = some (b, r)) : bookB b ++ r = l := by
  unfold gBook at h
  split at h
  · cases h
  rename_i n r1 h1
  split at h
  · cases h
  rename_i ts r2 h2
  split at h
  · cases h
  rename_i m r3 h3
  split at h
  · cases h
  rename_i xs r4 h4
  obtain ⟨rfl, rfl⟩ := Prod.mk.inj (Option.some.inj h)
  obtain ⟨h5, h6⟩ := gMany_inv gTab_inv _ _ _ _ h2
  obtain ⟨h7, h8⟩ := gMany_inv gIdx_inv _ _ _ _ h4
  rw [← (gOne_inv h1).1, ← h5, ← (gOne_inv h3).1, ← h7, ← h6, ← h8]
  simp only [bookB, List.append_assoc]
theorem bookB_of {l : List UInt8} {b : PB} (h : gBook l = some (b, [])) : bookB b = l := by
  have := gBook_inv h
  rwa [List.append_nil] at this
end Go.Proofs.Ytflolnilagogpaa
