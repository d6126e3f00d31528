/-
  Reading, plain: what the reader answers stands to what is read (Rel); step by step.
-/
import Derived.Test.YtflolnilagogpaaIx
import Derived.Test.YtflolnilagogpaaIl
set_option linter.unusedSimpArgs false
set_option linter.unusedVariables false
namespace Go.Proofs.Ytflolnilagogpaa
open Go.RowKit

/-- A reader at r (short: sh) answered a and stands at r' (short: sh'): it is as g reads, or short. -/
def Rel {α : Type} (g : List UInt8 → Got α) (r : List UInt8) (sh : Bool) (a : α) (r' : List UInt8) (sh' : Bool) : Prop :=
  (sh = true → sh' = true) ∧ (sh = false → (sh' = true ∧ g r = none) ∨ (sh' = false ∧ g r = some (a, r')))
theorem tk_take {r : List UInt8} {k : Nat} (h : k ≤ r.length) : tk r k = r.take k ∧ dr r k = r.drop k := by
  unfold tk dr
  rw [if_neg (by omega), if_neg (by omega)]
  exact ⟨rfl, rfl⟩
theorem rel_take (r : List UInt8) (sh : Bool) (k : Nat) : Rel (gTake k) r sh (tk r k) (dr r k) (sh || decide (r.length < k)) := by
  refine ⟨fun h => by rw [h]; rfl, fun h => ?_⟩
  subst h
  rw [Bool.false_or]
  by_cases hk : k ≤ r.length
  · right
    refine ⟨decide_eq_false (by omega), ?_⟩
    unfold gTake
    rw [if_pos hk, (tk_take hk).1, (tk_take hk).2]
  · left
    refine ⟨decide_eq_true (by omega), ?_⟩
    unfold gTake
    rw [if_neg hk]
theorem rel_one {r : List UInt8} {sh : Bool} {b : UInt8} (hb : tk r 1 = [b]) : Rel gOne r sh b.toNat (dr r 1) (sh || decide (r.length < 1)) := by
  refine ⟨fun h => by rw [h]; rfl, fun h => ?_⟩
  subst h
  rw [Bool.false_or]
  cases r with
  | nil => exact .inl ⟨rfl, rfl⟩
  | cons c t =>
    right
    obtain ⟨h1, h2⟩ := tk_take (r := c :: t) (k := 1) (by simp)
    rw [h1] at hb
    simp at hb
    subst hb
    refine ⟨by simp, ?_⟩
    rw [h2]
    rfl
theorem rel_four (r : List UInt8) (sh : Bool) : Rel gFour r sh (beVal (tk r 4)) (dr r 4) (sh || decide (r.length < 4)) := by
  have h := rel_take r sh 4
  refine ⟨h.1, fun hs => ?_⟩
  unfold gFour
  rcases h.2 hs with ⟨h1, h2⟩ | ⟨h1, h2⟩
  · rw [h2]; exact .inl ⟨h1, rfl⟩
  · rw [h2]; exact .inr ⟨h1, rfl⟩
theorem Rel.int {g : List UInt8 → Got Nat} {r r' : List UInt8} {sh sh' : Bool} {n : Nat} (h : Rel g r sh n r' sh') : Rel (gInt g) r sh (n : Int) r' sh' := by
  refine ⟨h.1, fun hs => ?_⟩
  unfold gInt
  rcases h.2 hs with ⟨h1, h2⟩ | ⟨h1, h2⟩
  · rw [h2]; exact .inl ⟨h1, rfl⟩
  · rw [h2]; exact .inr ⟨h1, rfl⟩
/-- One behind the other. -/
theorem Rel.bind {α β γ : Type} {g : List UInt8 → Got α} {k : α → List UInt8 → Got β} {G : List UInt8 → Got γ} {f : α → β → γ} {r r1 r2 : List UInt8} {sh s1 s2 : Bool} {a : α} {b : β}
    (h1 : Rel g r sh a r1 s1) (h2 : Rel (k a) r1 s1 b r2 s2)
    (hG : ∀ l, G l = match g l with | none => none | some (a, q) => match k a q with | none => none | some (b, q) => some (f a b, q)) : Rel G r sh (f a b) r2 s2 := by
  refine ⟨fun h => h2.1 (h1.1 h), fun h => ?_⟩
  rw [hG]
  rcases h1.2 h with ⟨e1, e2⟩ | ⟨e1, e2⟩
  · rw [e2]; exact .inl ⟨h2.1 e1, rfl⟩
  · rw [e2]
    simp only
    rcases h2.2 e1 with ⟨e3, e4⟩ | ⟨e3, e4⟩
    · rw [e4]; exact .inl ⟨e3, rfl⟩
    · rw [e4]; exact .inr ⟨e3, rfl⟩
theorem rel_text {r : List UInt8} {sh : Bool} {b : UInt8} (hb : tk r 1 = [b]) : Rel gText r sh (tk (dr r 1) b.toNat) (dr (dr r 1) b.toNat) ((sh || decide (r.length < 1)) || decide ((dr r 1).length < b.toNat)) :=
  Rel.bind (k := fun n l => gTake n l) (f := fun _ s => s) (rel_one hb) (rel_take _ _ _) (fun l => by
    unfold gText
    cases gOne l with
    | none => rfl
    | some x =>
      obtain ⟨n, q⟩ := x
      simp only
      cases gTake n q with
      | none => rfl
      | some y => rfl)
theorem rel_many_nil {α : Type} (g : List UInt8 → Got α) (r : List UInt8) (sh : Bool) : Rel (gMany g 0) r sh [] r sh := ⟨id, fun h => .inr ⟨h, rfl⟩⟩
theorem gMany_snoc {α : Type} (g : List UInt8 → Got α) : ∀ (n : Nat) (l : List UInt8), gMany g (n + 1) l = match gMany g n l with
    | none => none
    | some (xs, q) => match g q with
      | none => none
      | some (a, q) => some (xs ++ [a], q) := by
  intro n
  induction n with
  | zero =>
    intro l
    simp only [gMany]
    cases g l with
    | none => rfl
    | some x => rfl
  | succ n ih =>
    intro l
    rw [gMany]
    conv => rhs; rw [gMany]
    cases g l with
    | none => rfl
    | some x =>
      obtain ⟨a, q⟩ := x
      simp only
      rw [ih q]
      cases gMany g n q with
      | none => rfl
      | some y =>
        obtain ⟨xs, q2⟩ := y
        simp only
        cases g q2 with
        | none => rfl
        | some z => rfl
theorem Rel.snoc {α : Type} {g : List UInt8 → Got α} {n : Nat} {r r1 r2 : List UInt8} {sh s1 s2 : Bool} {xs : List α} {a : α} (h1 : Rel (gMany g n) r sh xs r1 s1) (h2 : Rel g r1 s1 a r2 s2) : Rel (gMany g (n + 1)) r sh (xs ++ [a]) r2 s2 :=
  Rel.bind (k := fun _ l => g l) (f := fun xs a => xs ++ [a]) h1 h2 (fun l => by
    rw [gMany_snoc]
    cases gMany g n l with
    | none => rfl
    | some x =>
      obtain ⟨a, q⟩ := x
      first
        | rfl
        | (simp only; cases g q with
          | none => rfl
          | some y => rfl)
        | (cases g q with
          | none => rfl
          | some y => rfl))
theorem rel_col {r r1 r2 r3 r4 : List UInt8} {sh s1 s2 s3 s4 : Bool} {t : List UInt8} {k d u : Int} (h1 : Rel gText r sh t r1 s1) (h2 : Rel (gInt gOne) r1 s1 k r2 s2) (h3 : Rel (gInt gFour) r2 s2 d r3 s3) (h4 : Rel (gInt gFour) r3 s3 u r4 s4) : Rel gCol r sh ⟨t, k, d, u⟩ r4 s4 := by
  refine ⟨fun h => h4.1 (h3.1 (h2.1 (h1.1 h))), fun h => ?_⟩
  unfold gCol
  rcases h1.2 h with ⟨e1, e2⟩ | ⟨e1, e2⟩ <;> rw [e2]
  · exact .inl ⟨h4.1 (h3.1 (h2.1 e1)), rfl⟩
  simp only
  rcases h2.2 e1 with ⟨e3, e4⟩ | ⟨e3, e4⟩ <;> rw [e4]
  · exact .inl ⟨h4.1 (h3.1 e3), rfl⟩
  simp only
  rcases h3.2 e3 with ⟨e5, e6⟩ | ⟨e5, e6⟩ <;> rw [e6]
  · exact .inl ⟨h4.1 e5, rfl⟩
  simp only
  rcases h4.2 e5 with ⟨e7, e8⟩ | ⟨e7, e8⟩ <;> rw [e8]
  · exact .inl ⟨e7, rfl⟩
  · exact .inr ⟨e7, rfl⟩
theorem rel_nums {r r1 r2 r3 : List UInt8} {sh s1 s2 s3 : Bool} {a b c : Int} (h1 : Rel (gInt gFour) r sh a r1 s1) (h2 : Rel (gInt gFour) r1 s1 b r2 s2) (h3 : Rel (gInt gFour) r2 s2 c r3 s3) : Rel gNums3 r sh (a, b, c) r3 s3 := by
  refine ⟨fun h => h3.1 (h2.1 (h1.1 h)), fun h => ?_⟩
  unfold gNums3
  rcases h1.2 h with ⟨e1, e2⟩ | ⟨e1, e2⟩ <;> rw [e2]
  · exact .inl ⟨h3.1 (h2.1 e1), rfl⟩
  simp only
  rcases h2.2 e1 with ⟨e3, e4⟩ | ⟨e3, e4⟩ <;> rw [e4]
  · exact .inl ⟨h3.1 e3, rfl⟩
  simp only
  rcases h3.2 e3 with ⟨e5, e6⟩ | ⟨e5, e6⟩ <;> rw [e6]
  · exact .inl ⟨e5, rfl⟩
  · exact .inr ⟨e5, rfl⟩
theorem rel_tab {r r1 r2 r3 r4 : List UInt8} {sh s1 s2 s3 s4 : Bool} {t : List UInt8} {n : Nat} {cs : List PC} {a b c : Int} (h1 : Rel gText r sh t r1 s1) (h2 : Rel gOne r1 s1 n r2 s2) (h3 : Rel (gMany gCol n) r2 s2 cs r3 s3) (h4 : Rel gNums3 r3 s3 (a, b, c) r4 s4) : Rel gTab r sh ⟨t, cs, a, b, c⟩ r4 s4 := by
  refine ⟨fun h => h4.1 (h3.1 (h2.1 (h1.1 h))), fun h => ?_⟩
  unfold gTab
  rcases h1.2 h with ⟨e1, e2⟩ | ⟨e1, e2⟩ <;> rw [e2]
  · exact .inl ⟨h4.1 (h3.1 (h2.1 e1)), rfl⟩
  simp only
  rcases h2.2 e1 with ⟨e3, e4⟩ | ⟨e3, e4⟩ <;> rw [e4]
  · exact .inl ⟨h4.1 (h3.1 e3), rfl⟩
  simp only
  rcases h3.2 e3 with ⟨e5, e6⟩ | ⟨e5, e6⟩ <;> rw [e6]
  · exact .inl ⟨h4.1 e5, rfl⟩
  simp only
  rcases h4.2 e5 with ⟨e7, e8⟩ | ⟨e7, e8⟩ <;> rw [e8]
  · exact .inl ⟨e7, rfl⟩
  · exact .inr ⟨e7, rfl⟩
theorem rel_idx {r r1 r2 r3 r4 r5 r6 : List UInt8} {sh s1 s2 s3 s4 s5 s6 : Bool} {t : List UInt8} {tb : Int} {n : Nat} {cs ds : List Int} {a b c : Int} (h1 : Rel gText r sh t r1 s1) (h2 : Rel (gInt gOne) r1 s1 tb r2 s2) (h3 : Rel gOne r2 s2 n r3 s3) (h4 : Rel (gMany (gInt gOne) n) r3 s3 cs r4 s4) (h5 : Rel gNums3 r4 s4 (a, b, c) r5 s5) (h6 : Rel (gMany (gInt gFour) n) r5 s5 ds r6 s6) : Rel gIdx r sh ⟨t, tb, cs, a, b, c, ds⟩ r6 s6 := by
  refine ⟨fun h => h6.1 (h5.1 (h4.1 (h3.1 (h2.1 (h1.1 h))))), fun h => ?_⟩
  unfold gIdx
  rcases h1.2 h with ⟨e1, e2⟩ | ⟨e1, e2⟩ <;> rw [e2]
  · exact .inl ⟨h6.1 (h5.1 (h4.1 (h3.1 (h2.1 e1)))), rfl⟩
  simp only
  rcases h2.2 e1 with ⟨e3, e4⟩ | ⟨e3, e4⟩ <;> rw [e4]
  · exact .inl ⟨h6.1 (h5.1 (h4.1 (h3.1 e3))), rfl⟩
  simp only
  rcases h3.2 e3 with ⟨e5, e6⟩ | ⟨e5, e6⟩ <;> rw [e6]
  · exact .inl ⟨h6.1 (h5.1 (h4.1 e5)), rfl⟩
  simp only
  rcases h4.2 e5 with ⟨e7, e8⟩ | ⟨e7, e8⟩ <;> rw [e8]
  · exact .inl ⟨h6.1 (h5.1 e7), rfl⟩
  simp only
  rcases h5.2 e7 with ⟨e9, e10⟩ | ⟨e9, e10⟩ <;> rw [e10]
  · exact .inl ⟨h6.1 e9, rfl⟩
  simp only
  rcases h6.2 e9 with ⟨e11, e12⟩ | ⟨e11, e12⟩ <;> rw [e12]
  · exact .inl ⟨e11, rfl⟩
  · exact .inr ⟨e11, rfl⟩
end Go.Proofs.Ytflolnilagogpaa
