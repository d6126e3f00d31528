/-
  Several texts in one: Xa Fb Ow Be.
-/
import Derived.Test.YtflolnilagogpaaMgc
import Derived.Lib.Bytealg
import Derived.Test.YtflolnilagogpaaShelf
import Derived.WalkKit
import Derived.Test.YtflolnilagogpaaProg
import Derived.Lib.AppendStr
import Derived.Deep.Onto
import Derived.Laws.MakeOwn
import Derived.WalkSpells
import Derived.WalkLawsBesides
import Derived.Laws.BitsAllLaws
/-
  Tokens of queries (plain): blanks, runs, texts, signs, numbers, words.
-/
namespace Go.Proofs.Ytflolnilagogpaa
section
set_option linter.unusedSimpArgs false
set_option linter.unusedVariables false
open Go.RowKit

def wsB (c : UInt8) : Bool := c == 32 || c == 9 || c == 10 || c == 13
def digB (c : UInt8) : Bool := decide (48 ≤ c.toNat) && decide (c.toNat ≤ 57)
def alB (c : UInt8) : Bool := decide (97 ≤ (c ||| 32).toNat) && decide ((c ||| 32).toNat ≤ 122)
def innB (c : UInt8) : Bool := c == 95 || (digB c || alB c)
def skipN : List UInt8 → Nat
  | [] => 0
  | c :: l => if wsB c = true then skipN l + 1 else 0
def runN : List UInt8 → Nat
  | [] => 0
  | c :: l => if innB c = true then runN l + 1 else 0
/-- What a text between quotes is: an error, or its bytes and how many it has with its quotes. -/
inductive TxR
  | bad (e : Nat)
  | ok (b : List UInt8) (n : Nat)
def txtN : List UInt8 → Nat → List UInt8 → TxR
  | _, _, [] => .bad 11
  | acc, i, c :: l => if c = 39 then (match l with
      | [] => if 48 < acc.length then .bad 4 else .ok acc (i + 1)
      | d :: r => if d = 39 then txtN (acc ++ [39]) (i + 2) r else if 48 < acc.length then .bad 4 else .ok acc (i + 1))
    else txtN (acc ++ [c]) (i + 1) l
def two : List (List UInt8) := [[60, 61], [62, 61], [60, 62]]
def ones : List UInt8 := [40, 41, 44, 46, 42, 43, 45, 61, 60, 62]
def sgnN (l : List UInt8) : Nat := if 1 < l.length ∧ (l.take 2 = [60, 61] ∨ l.take 2 = [62, 61] ∨ l.take 2 = [60, 62]) then 2 else match l with
  | [] => 0
  | c :: _ => if ones.contains c then 1 else 0
/-- A run of digits: 0; another run: 11; too great a number: 5. -/
def numN : Bool → Nat → List UInt8 → Nat
  | g, _, [] => if g = true then 5 else 0
  | g, n, c :: l => if c.toNat < 48 ∨ 57 < c.toNat then 11 else if g = true ∨ (9223372036854775807 - (c.toNat - 48)) / 10 < n then numN true n l else numN false (n * 10 + (c.toNat - 48)) l
def wordsL : List (List UInt8) := [[65, 78, 68], [65, 83], [65, 83, 67], [66, 69, 84, 87, 69, 69, 78], [66, 89], [67, 79, 85, 78, 84], [68, 69, 83, 67], [68, 73, 83, 84, 73, 78, 67, 84], [70, 65, 76, 83, 69], [70, 82, 79, 77], [71, 82, 79, 85, 80], [73, 78], [73, 83], [76, 73, 77, 73, 84], [77, 65, 88], [77, 73, 78], [78, 79, 84], [78, 85, 76, 76], [79, 82], [79, 82, 68, 69, 82], [83, 69, 76, 69, 67, 84], [83, 85, 77], [84, 82, 85, 69], [87, 72, 69, 82, 69]]
def wordB (l : List UInt8) : Bool := wordsL.contains l
def letB (c : UInt8) : Bool := decide (97 ≤ c.toNat) && decide (c.toNat ≤ 122)
def nmB (c : UInt8) : Bool := letB c || (digB c || c == 95)
def nameB : List UInt8 → Bool
  | [] => false
  | c :: l => decide (l.length < 24) && letB c && (c :: l).all nmB
/-- A run's kind, and its error. -/
def kindN (l : List UInt8) : Nat × Nat := if wordB l = true then (1, 0) else if nameB l = true then (2, 0) else if 1 < l.length ∧ l.head? = some 48 then (0, 11) else match numN false 0 l with
  | 0 => (3, 0)
  | e => (0, e)
/-- The token with which a text begins. -/
structure TokR where
  k : Nat
  t : List UInt8
  n : Nat
  e : Nat
def tokN (l : List UInt8) : TokR :=
  if 0 < runN l then ⟨(kindN (l.take (runN l))).1, l.take (runN l), runN l, (kindN (l.take (runN l))).2⟩
  else if l.head? = some 39 then (match txtN [] 1 (l.drop 1) with
    | .bad e => ⟨0, [], 0, e⟩
    | .ok b n => ⟨4, b, n, 0⟩)
  else if 0 < sgnN l then ⟨5, l.take (sgnN l), sgnN l, 0⟩
  else ⟨0, [], 0, 11⟩
/-- A query's tokens, from a place on; so many were met ahead of it. -/
inductive TksR
  | bad (e : Nat)
  | ok (l : List (Nat × List UInt8 × Nat))
def TksR.cons (x : Nat × List UInt8 × Nat) : TksR → TksR
  | .bad e => .bad e
  | .ok l => .ok (x :: l)
def toksN : Nat → List UInt8 → Nat → Nat → TksR
  | 0, _, _, _ => .bad 0
  | f + 1, l, at_, cnt =>
    let r := l.drop (skipN l)
    let p := at_ + skipN l
    if r = [] then .ok [(0, [], p)]
    else if cnt = 1000 then .bad 15
    else if (tokN r).e ≠ 0 then .bad (tokN r).e
    else (toksN f (r.drop (tokN r).n) (p + (tokN r).n) (cnt + 1)).cons ((tokN r).k, (tokN r).t, p)
/-- A whole query's. -/
def toksQ (l : List UInt8) : TksR := if 4096 < l.length then .bad 4 else toksN (l.length + 1) l 0 0

theorem skipN_le : ∀ l, skipN l ≤ l.length
  | [] => Nat.le_refl _
  | c :: l => by
    unfold skipN
    split
    · have := skipN_le l; simp; omega
    · omega
theorem runN_le : ∀ l, runN l ≤ l.length
  | [] => Nat.le_refl _
  | c :: l => by
    unfold runN
    split
    · have := runN_le l; simp; omega
    · omega
theorem txtN_le : ∀ (l acc : List UInt8) (i : Nat) (b : List UInt8) (n : Nat), txtN acc i l = .ok b n → i < n ∧ n ≤ i + l.length ∧ b.length ≤ 48
  | [], acc, i, b, n, h => by simp [txtN] at h
  | c :: l, acc, i, b, n, h => by
    unfold txtN at h
    split at h
    · split at h
      · split at h
        · cases h
        · injection h with h1 h2
          subst h1; subst h2
          simp; omega
      · rename_i d r
        split at h
        · have := txtN_le r _ _ _ _ h
          simp; omega
        · split at h
          · cases h
          · injection h with h1 h2
            subst h1; subst h2
            simp; omega
    · have := txtN_le l _ _ _ _ h
      simp; omega
termination_by l => l.length
theorem sgnN_le (l : List UInt8) : sgnN l ≤ l.length := by
  unfold sgnN
  split
  · rename_i h; omega
  · cases l with
    | nil => simp
    | cons c l => simp only; split <;> simp
/-- A token has bytes, and no more than there are. -/
theorem tokN_n (l : List UInt8) (h : (tokN l).e = 0) : 0 < (tokN l).n ∧ (tokN l).n ≤ l.length := by
  unfold tokN at h ⊢
  split
  · rename_i h1
    exact ⟨h1, runN_le l⟩
  · rename_i h1
    rw [if_neg h1] at h
    split
    · rename_i h2
      rw [if_pos h2] at h
      have hne : 0 < l.length := by cases l with
        | nil => simp at h2
        | cons c l => simp
      cases hx : txtN [] 1 (l.drop 1) with
      | bad e =>
        exfalso
        rw [hx] at h
        simp only at h
        subst h
        exact absurd hx (by
          have : ∀ (m acc : List UInt8) (i : Nat), txtN acc i m ≠ .bad 0 := by
            intro m
            induction hm : m.length using Nat.strongRecOn generalizing m with
            | _ k ih =>
              intro acc i
              cases m with
              | nil => simp [txtN]
              | cons c m =>
                unfold txtN
                split
                · split
                  · split <;> simp
                  · rename_i d r
                    split
                    · exact ih r.length (by simp at hm; omega) r rfl _ _
                    · split <;> simp
                · exact ih m.length (by simp at hm; omega) m rfl _ _
          exact this _ _ _)
      | ok b n =>
        have := txtN_le _ _ _ _ _ hx
        simp only [List.length_drop] at this
        simp only
        omega
    · rename_i h2
      rw [if_neg h2] at h
      split
      · rename_i h3
        exact ⟨h3, sgnN_le l⟩
      · rename_i h3
        rw [if_neg h3] at h
        simp at h
end
end Go.Proofs.Ytflolnilagogpaa
/-
  Tokens of queries: contracts of letter, Name, sign.
-/
namespace Go.Proofs.Ytflolnilagogpaa
section
set_option linter.unusedSimpArgs false
set_option linter.unusedVariables false
open Go.RowKit

theorem szL (s : ByteArray) : s.data.toList.length = s.size := rfl
theorem drop_atL (s : ByteArray) (i : Nat) (h : i < s.size) : s.data.toList.drop i = s[i] :: s.data.toList.drop (i + 1) := List.drop_eq_getElem_cons (by rw [szL]; exact h)
theorem letter_any (c : UInt8) (w : World) : Calls Try.prog 19 #[.int .u8 (c.toNat : Int)] w fun e w' => e = .returned (.bool (letB c)) ∧ w = w' := by
  unfold letB
  by_cases c1 : 97 ≤ c.toNat
  · by_cases c2 : c.toNat ≤ 122
    · simp only [c1, c2, decide_true, Bool.and_true]
      go_enter Try.func19, Try.ntmps19
      go_wp2
      go_ret
      exact ⟨by have : ((c.toNat : Int) ≤ 122) := by omega
                simp [this], rfl⟩
    · simp only [c1, c2, decide_true, decide_false, Bool.and_false]
      go_enter Try.func19, Try.ntmps19
      go_wp2
      go_ret
      exact ⟨by have : ¬ ((c.toNat : Int) ≤ 122) := by omega
                simp [this], rfl⟩
  · simp only [c1, decide_false, Bool.false_and]
    go_enter Try.func19, Try.ntmps19
    go_wp2
    go_ret
    exact ⟨rfl, rfl⟩
theorem beq95 (c : UInt8) : ((c.toNat : Int) == 95) = (c == 95) := by
  by_cases h : c = 95
  · rw [h]; rfl
  · have h1 : c.toNat ≠ 95 := fun e => h (UInt8.toNat_inj.1 e)
    have a1 : ((c.toNat : Int) == 95) = false := by simp; omega
    have a2 : (c == 95) = false := by simpa using h
    rw [a1, a2]
theorem bne95 (c : UInt8) : ((c.toNat : Int) != 95) = !(c == 95) := by
  have h := beq95 c
  unfold bne
  rw [h]
theorem nameB_long (l : List UInt8) (h : 24 < l.length) : nameB l = false := by
  cases l with
  | nil => rfl
  | cons c l =>
    simp only [List.length_cons] at h
    have : ¬ l.length < 24 := by omega
    simp [nameB, this]
theorem nameB_first (s : ByteArray) (h0 : 0 < s.size) (h : letB s[0] = false) : nameB s.data.toList = false := by
  have hd := drop_atL s 0 h0
  rw [List.drop_zero] at hd
  rw [hd, nameB, h]; simp
theorem nameB_all (s : ByteArray) (h0 : 0 < s.size) (h24 : s.size ≤ 24) (h : letB s[0] = true) : nameB s.data.toList = s.data.toList.all nmB := by
  have hd := drop_atL s 0 h0
  rw [List.drop_zero] at hd
  have hl := szL s
  rw [hd, List.length_cons] at hl
  have : (s.data.toList.drop (0 + 1)).length < 24 := by omega
  rw [hd, nameB, h, decide_eq_true this, Bool.true_and, Bool.true_and]
set_option maxHeartbeats 2000000 in
theorem name_any (s : ByteArray) (hs : s.size ≤ 1000000) (w : World) : Calls Try.prog 9 #[.string s] w fun e w' => e = .returned (.bool (nameB s.data.toList)) ∧ w = w' := by
  have hsI : (s.size : Int) ≤ 1000000 := by omega
  have LT := Lib.hid fun (c : UInt8) (W : World) => letter_any c W
  by_cases h0 : 0 < s.size
  · have g0 : (0 : Int) < (s.size : Int) := by omega
    have g1 : (1 : Int) ≤ (s.size : Int) := by omega
    by_cases h24 : s.size ≤ 24
    · have g24 : (s.size : Int) ≤ 24 := by omega
      cases hf : letB s[0] with
      | false =>
        have hN : Hid (nameB s.data.toList = false) := Lib.hid (nameB_first s h0 hf)
        have L0 := Lib.hid fun W => LT.out s[0] W
        rw [hf] at L0
        clear hf
        go_enter Try.func9, Try.ntmps9
        go_wp2_with (go_at_call 19; (with_reducible refine (L0.out _).mono ?_); rintro e w' ⟨rfl, rfl⟩)
        go_ret
        exact ⟨by rw [hN.out]; rfl, rfl⟩
      | true =>
        have hN : Hid (nameB s.data.toList = s.data.toList.all nmB) := Lib.hid (nameB_all s h0 h24 hf)
        have L0 := Lib.hid fun W => LT.out s[0] W
        rw [hf] at L0
        clear hf
        go_enter Try.func9, Try.ntmps9
        go_wp2_with (go_at_call 19; (with_reducible refine (L0.out _).mono ?_); rintro e w' ⟨rfl, rfl⟩)
        go_loop [20] (fun v => ∃ i : Nat, i ≤ s.size ∧ v = .int .i64 i ∧ s.data.toList.all nmB = (s.data.toList.drop i).all nmB) (fun v => s.size - (intOf v).toNat)
        case atStart => exact ⟨0, by omega, rfl, by simp⟩
        case round =>
          obtain ⟨i, hi, rfl, he⟩ := hrel
          have q0 : (0 : Int) ≤ (i : Int) := by omega
          by_cases hlt : i < s.size
          · have q1 : (i : Int) < (s.size : Int) := by omega
            have hd := drop_atL s i hlt
            have LI := Lib.hid fun W => LT.out s[i] W
            have h95 := bne95 s[i]
            have hin : nmB s[i] = (letB s[i] || (digB s[i] || s[i] == 95)) := rfl
            rw [hd, List.all_cons] at he
            have hst : Hid (nmB s[i] = true → s.data.toList.all nmB = (s.data.toList.drop (i + 1)).all nmB) := Lib.hid (fun hb => by rw [he, hb, Bool.true_and])
            have hno : Hid (nmB s[i] = false → s.data.toList.all nmB = false) := Lib.hid (fun hb => by rw [he, hb, Bool.false_and])
            unfold digB at hin
            obtain ⟨b, hb⟩ : ∃ b, (s[i] == 95) = b := ⟨_, rfl⟩
            obtain ⟨t, ht⟩ : ∃ t, letB s[i] = t := ⟨_, rfl⟩
            rw [hb] at h95 hin
            rw [ht] at LI hin
            clear he hd hb ht
            by_cases c1 : 48 ≤ s[i].toNat <;> by_cases c2 : s[i].toNat ≤ 57 <;> cases b <;> cases t
            all_goals
              have b2 : decide ((s[i].toNat : Int) ≤ 57) = decide (s[i].toNat ≤ 57) := decide_eq_decide.2 (by omega)
              simp only [c2, decide_true, decide_false] at b2
              simp only [c1, c2, decide_true, decide_false, Bool.and_true, Bool.and_false, Bool.or_true, Bool.or_false, Bool.true_or, Bool.false_or] at hin
              simp only [Bool.not_true, Bool.not_false] at h95
              first
                | (exfalso; omega)
                | (have hF := Lib.hid (hst.out hin)
                   clear hin hst hno
                   go_wp2_with (go_at_call 19; (with_reducible refine (LI.out _).mono ?_); rintro e w' ⟨rfl, rfl⟩)
                   go_round
                   case rel => exact ⟨i + 1, by omega, by go_num, hF.out⟩
                   case measure => simp [intOf]; omega)
                | (have hF := Lib.hid (hno.out hin)
                   clear hin hst hno
                   go_wp2_with (go_at_call 19; (with_reducible refine (LI.out _).mono ?_); rintro e w' ⟨rfl, rfl⟩)
                   go_ret
                   exact ⟨by rw [hN.out, hF.out]; rfl, rfl⟩)
          · obtain rfl : i = s.size := by omega
            have hF : Hid (s.data.toList.all nmB = true) := Lib.hid (by rw [he, List.drop_eq_nil_of_le (by rw [szL]; exact Nat.le_refl _)]; rfl)
            clear he
            go_wp2
            go_ret
            exact ⟨by rw [hN.out, hF.out]; rfl, rfl⟩
    · have g24 : (24 : Int) < (s.size : Int) := by omega
      have hN : Hid (nameB s.data.toList = false) := Lib.hid (nameB_long _ (by rw [szL]; omega))
      go_enter Try.func9, Try.ntmps9
      go_wp2
      go_ret
      exact ⟨by rw [hN.out]; rfl, rfl⟩
  · have g0 : (s.size : Int) = 0 := by omega
    have hN : Hid (nameB s.data.toList = false) := Lib.hid (by rw [show s.data.toList = [] from List.eq_nil_of_length_eq_zero (by rw [szL]; omega)]; rfl)
    go_enter Try.func9, Try.ntmps9
    go_wp2
    go_ret
    exact ⟨by rw [hN.out]; rfl, rfl⟩
end
end Go.Proofs.Ytflolnilagogpaa
/-
  Bytes that are appended to a slice of the call's own; numbers as bytes, the high ones first.
-/
namespace Go.Proofs.Ytflolnilagogpaa
section
open Go.RowKit

theorem Try.infoB : (Try.prog.info? 5).map (fun i => (i.zero, i.size, i.bytes)) = some (some (.int .u8 0), 1, 1) := by kernel_rfl
/-- A slice value of the call's own that holds these bytes. -/
def Own (w : World) (base : Nat) (v : Value) (l : List UInt8) : Prop := w.ownsRow base 5 1 v l.length (bL l)
/-- What an append onto a row of the call's own leaves as it was: all below, every block of other elements. -/
structure Keeps (base : Nat) (w w' : World) : Prop where
  below : ∀ B w0, B ≤ base → Below B w0 w → Below B w0 w'
  blk : ∀ g t cs, t ≠ 5 → Blk w g t cs → Blk w' g t cs
  size : w.heap.size ≤ w'.heap.size
theorem Keeps.refl (base : Nat) (w : World) : Keeps base w w := ⟨fun _ _ _ h => h, fun _ _ _ _ h => h, Nat.le_refl _⟩
theorem Keeps.trans {base : Nat} {a b c : World} (h : Keeps base a b) (k : Keeps base b c) : Keeps base a c :=
  ⟨fun B w0 hB hb => k.below B w0 hB (h.below B w0 hB hb), fun g t cs ht hb => k.blk g t cs ht (h.blk g t cs ht hb), Nat.le_trans h.size k.size⟩
theorem Keeps.alloc_ {base : Nat} {w : World} (hb : base ≤ w.heap.size) (o : Obj) : Keeps base w (w.alloc o) :=
  ⟨fun _ _ hB h => h.alloc (by omega) o, fun _ _ _ _ h => h.alloc o, by simp⟩
theorem Keeps.drew_ {base : Nat} {w : World} : Keeps base w w.drew := ⟨fun _ _ _ h => h.drew, fun _ _ _ _ h => h, Nat.le_refl _⟩
theorem keeps_grown {w w' : World} {base n : Nat} {v : Value} {xs : List Value} (hown : w.ownsRow base 5 1 v n xs) (hg : w.grownBy w' v.ownBlock) (hb : base ≤ w.heap.size) : Keeps base w w' :=
  ⟨fun _ _ hB h => bgrow h hg hown hB (by omega), fun _ _ _ ht h => h.grown hg (fun e => own_blk_ne hown h (fun e' => ht e'.symm) e.symm), hg.size⟩
theorem Own.alloc {w : World} {base : Nat} {v : Value} {l : List UInt8} (h : Own w base v l) (o : Obj) : Own (w.alloc o) base v l := World.ownsRow.alloc h o
theorem Own.nil (w : World) (base : Nat) : Own w base (.slice none 0 0) [] := ⟨rfl, .inl ⟨rfl, rfl⟩⟩
theorem Own.empty (w : World) {g : Nat} (hg : g = w.heap.size) : Own (w.alloc (.cells #[] 5)) w.heap.size (.slice (some ⟨g, 0, none⟩) 0 0) [] := own_empty w _ 1 hg
theorem Own.form {w : World} {base : Nat} {v : Value} {l : List UInt8} (h : Own w base v l) : ∃ A c, v = .slice A l.length c ∧ l.length ≤ c := own_form h
theorem Own.reads {w : World} {base : Nat} {A : Option Addr} {n c : Nat} {l : List UInt8} (h : Own w base (.slice A n c) l) : Reads w w.heap.size 1 A n (bL l) ∧ n = l.length := by
  obtain ⟨A', c', e, _⟩ := h.form
  injection e with e1 e2 e3
  subst e1; subst e2; subst e3
  exact ⟨Reads.of_own h, rfl⟩
theorem Own.new {w : World} {g : Nat} {l : List UInt8} (h : Blk w g 5 (bV l)) (hl : l.length ≤ maxLen) {base n : Nat} (hb : base ≤ g) (hn : n = l.length) : Own w base (.slice (some ⟨g, 0, none⟩) n n) l := by
  subst hn
  refine ⟨by rw [bL_len]; omega, .inr ⟨g, l.length, bV l, rfl, hb, h, Nat.le_refl _, hl, by rw [bV_size]; omega, ?_⟩⟩
  rw [bV_toList, Nat.mul_one, ← bL_len, List.take_length]

theorem Own.less {w : World} {base base' : Nat} {v : Value} {l : List UInt8} (h : Own w base v l) (hb : base' ≤ base) : Own w base' v l := World.ownsRow.mono h hb
theorem Own.below {w w' : World} {base : Nat} {v : Value} {l : List UInt8} (h : Own w base v l) (hb : Below w.heap.size w w') : Own w' base v l :=
  World.ownsRow.kept h (row := none) ⟨hb.os, hb.tape, hb.output, hb.size, fun i hi _ => hb.block i hi⟩ (by cases h' : v.ownBlock <;> simp)
theorem Keeps.of_below {base : Nat} {w w' : World} (hb : base ≤ w.heap.size) (h : Below w.heap.size w w') : Keeps base w w' :=
  ⟨fun _ _ hB k => k.trans (h.mono (by omega)), fun _ _ _ _ k => k.below h k.lt, h.size⟩
section
variable {ops : Array Oper} {rest : List Oper} {o : Oper} {a : Act} {Q : Exit → Act → World → Prop} {w : World}
/-- append(own, b). -/
theorem wpList_pushB (hgd : o.guard = none) (s x : Operand) (ho : o.op = .call { callee := .builtin .append, args := #[s, x], argTypes := #[28, 28] })
    (base : Nat) (v : Value) (l : List UInt8) (b : UInt8) (u : Int) (hs : a.eval s = v) (hown : Own w base v l)
    (g : Nat) (hx : a.eval x = .slice (some ⟨g, 0, none⟩) 1 1) (hg : g = w.heap.size) (hu : u = (b.toNat : Int)) (h63 : l.length + 1 ≤ 1000000000) (hbase : base ≤ w.heap.size)
    (h : ∀ v' w', Own w' base v' (l ++ [b]) → Keeps base w w' → wpList Try.prog ops Q rest (a.put o.dst v') w') : wpList Try.prog ops Q (o :: rest) a (w.alloc (.cells #[.int .u8 u] 5)) := by
  subst hu hg
  obtain ⟨i0, hi0, hz0, hs0, hy0⟩ := int_info8 Try.infoB
  have hr : Reads (w.alloc (.cells #[.int .u8 (b.toNat : Int)] 5)) (w.heap.size + 1) 1 (some ⟨w.heap.size, 0, none⟩) 1 [.int .u8 (b.toNat : Int)] := reads_new w _ _ rfl rfl
  refine wpList_append_any _ hgd s x 28 ho base 5 i0 (.int .u8 0) 1 1 Try.underlying28 hi0 hz0 hs0 hy0 rfl (by decide) v l.length (bL l) hs (hown.alloc _) _ _ 1 1 [.int .u8 (b.toNat : Int)] hx hr (by intro y hy; rw [List.mem_singleton] at hy; subst hy; rfl) (by unfold maxLen; omega) (by omega) (by simp; omega) ?_
  intro v' w' hown' hk _
  refine h v' w' ?_ ((Keeps.alloc_ hbase _).trans (keeps_grown (hown.alloc _) hk (by simp; omega)))
  unfold Own
  have e1 : (l ++ [b]).length = l.length + 1 := by simp
  have e2 : bL (l ++ [b]) = bL l ++ [.int .u8 (b.toNat : Int)] := by simp [bL]
  rw [e1, e2]
  exact hown'
/-- append(own, s...), s a string. -/
theorem wpList_appS (hgd : o.guard = none) (sl x : Operand) (ho : o.op = .call { callee := .builtin .append, args := #[sl, x], argTypes := #[28, 9] })
    (base : Nat) (v : Value) (l : List UInt8) (s : ByteArray) (hs : a.eval sl = v) (hown : Own w base v l)
    (hx : a.eval x = .string s) (h63 : l.length + s.size ≤ 1000000000) (hbase : base ≤ w.heap.size)
    (h : ∀ v' w', Own w' base v' (l ++ s.data.toList) → Keeps base w w' → wpList Try.prog ops Q rest (a.put o.dst v') w') : wpList Try.prog ops Q (o :: rest) a w := by
  obtain ⟨i0, hi0, hz0, hs0, hy0⟩ := int_info8 Try.infoB
  obtain ⟨v', w', hrun, h2, h3, _⟩ := Lib.run_append_own_string (P := Try.prog) w base 28 9 o.type 5 i0 Try.underlying28 Try.underlying9 hi0 hz0 hs0 hy0 v l.length (bL l) hown s (by unfold maxLen; omega) (by omega) hbase
  refine wpList_plain hgd fun K hK => ?_
  unfold Oper.wp execOp
  simp only [ho, resolve, invoke, builtin, Sem.run_bind, Sem.run_pure, Result.andThen_ok, List.map_toArray, List.map_cons, List.map_nil, hs, hx, hrun]
  refine hK _ _ (h v' w' ?_ ?_)
  · unfold Own
    have e1 : (l ++ s.data.toList).length = l.length + s.size := by rw [List.length_append, Array.length_toList]; rfl
    have e2 : bL (l ++ s.data.toList) = bL l ++ Lib.strCells s := by simp [bL, Lib.strCells]
    rw [e1, e2]
    exact h2
  · exact keeps_grown hown h3 hbase
/-- append(own, r...), r a slice of bytes. -/
theorem wpList_appR (hgd : o.guard = none) (sl x : Operand) (ho : o.op = .call { callee := .builtin .append, args := #[sl, x], argTypes := #[28, 28] })
    (base : Nat) (v : Value) (l r : List UInt8) (A : Option Addr) (m c B : Nat) (hs : a.eval sl = v) (hown : Own w base v l)
    (hx : a.eval x = .slice A m c) (hr : Reads w B 1 A m (bL r)) (h63 : l.length + r.length ≤ 1000000000) (hbase : base ≤ w.heap.size)
    (h : ∀ v' w', Own w' base v' (l ++ r) → Keeps base w w' → wpList Try.prog ops Q rest (a.put o.dst v') w') : wpList Try.prog ops Q (o :: rest) a w := by
  obtain ⟨i0, hi0, hz0, hs0, hy0⟩ := int_info8 Try.infoB
  have hm : r.length = m := by have := hr.1; rw [bL_len] at this; omega
  refine wpList_append_any w hgd sl x 28 ho base 5 i0 (.int .u8 0) 1 1 Try.underlying28 hi0 hz0 hs0 hy0 rfl (by decide) v l.length (bL l) hs hown B A m c (bL r) hx hr (bL_one r) (by unfold maxLen; omega) (by omega) hbase ?_
  intro v' w' h2 h3 _
  refine h v' w' ?_ ?_
  · unfold Own
    have e2 : bL (l ++ r) = bL l ++ bL r := by simp [bL]
    rw [List.length_append, hm, e2]
    exact h2
  · exact keeps_grown hown h3 hbase
end

/-- n bytes of a number, the high ones first. -/
def be : Nat → Nat → List UInt8
  | 0, _ => []
  | n + 1, u => be n (u / 256) ++ [UInt8.ofNat u]
theorem be_len : ∀ n u, (be n u).length = n
  | 0, _ => rfl
  | n + 1, u => by rw [be, List.length_append, be_len n]; rfl
theorem be_cons : ∀ n u, be (n + 1) u = UInt8.ofNat (u / 256 ^ n) :: be n u
  | 0, u => by simp [be]
  | n + 1, u => by
    rw [be, be_cons n (u / 256), be, List.cons_append]
    congr 2
    rw [Nat.div_div_eq_div_mul, Nat.pow_succ, Nat.mul_comm]
theorem be_at (n u k : Nat) (hk : k < n) : (be n u)[k]? = some (UInt8.ofNat (u / 256 ^ (n - 1 - k))) := by
  induction n generalizing k with
  | zero => omega
  | succ n ih =>
    rw [be_cons]
    cases k with
    | zero => simp
    | succ k => rw [List.getElem?_cons_succ, ih k (by omega)]; congr 4; omega
theorem be_take (n u k : Nat) (hk : k < n) : (be n u).take (k + 1) = (be n u).take k ++ [UInt8.ofNat (u / 256 ^ (n - 1 - k))] := by
  rw [List.take_add_one, be_at n u k hk]; rfl
theorem u8_nat (n : Nat) : ((UInt8.ofNat n).toNat : Int) = (n : Int) % 256 := by simp
end
end Go.Proofs.Ytflolnilagogpaa
/-
  Numbers out of bytes, the high ones first (plain).
-/
namespace Go.Proofs.Ytflolnilagogpaa
section
open Go.RowKit

def beVal (l : List UInt8) : Nat := l.foldl (fun u x => 256 * u + x.toNat) 0
theorem snoc_ind {α : Type} {P : List α → Prop} (h0 : P []) (h1 : ∀ r x, P r → P (r ++ [x])) (l : List α) : P l := by
  have key : ∀ (m : List α), P m.reverse := by
    intro m
    induction m with
    | nil => exact h0
    | cons x r ih => rw [List.reverse_cons]; exact h1 _ _ ih
  have := key l.reverse
  rwa [List.reverse_reverse] at this
theorem beVal_snoc (l : List UInt8) (x : UInt8) : beVal (l ++ [x]) = 256 * beVal l + x.toNat := by simp [beVal, List.foldl_append]
theorem beVal_be : ∀ n u, beVal (be n u) = u % 256 ^ n
  | 0, u => by simp [be, beVal, Nat.mod_one]
  | n + 1, u => by
    rw [be, beVal_snoc, beVal_be n (u / 256), Nat.pow_succ, Nat.mul_comm (256 ^ n) 256, Nat.mod_mul]
    simp
    omega
theorem beVal_lt : ∀ l : List UInt8, beVal l < 256 ^ l.length := by
  intro l
  refine snoc_ind (P := fun l => beVal l < 256 ^ l.length) (by simp [beVal]) (fun r x ih => ?_) l
  · rw [beVal_snoc, List.length_append, List.length_singleton, Nat.pow_succ]
    have := x.toNat_lt
    omega
theorem be_beVal (l : List UInt8) : be l.length (beVal l) = l := by
  refine snoc_ind (P := fun l => be l.length (beVal l) = l) rfl (fun r x ih => ?_) l
  · rw [List.length_append, List.length_singleton, be, beVal_snoc]
    have h1 : (256 * beVal r + x.toNat) / 256 = beVal r := by have := x.toNat_lt; omega
    rw [h1, ih]
    congr 2
    apply UInt8.toNat_inj.1
    have := x.toNat_lt
    simp
theorem beVal_take {l : List UInt8} {j : Nat} {b : UInt8} (h : l[j]? = some b) : beVal (l.take (j + 1)) = 256 * beVal (l.take j) + b.toNat := by
  rw [List.take_add_one, h]; exact beVal_snoc _ _
theorem beVal_lt_of {l : List UInt8} {n : Nat} (h : l.length ≤ n) : beVal l < 256 ^ n := Nat.lt_of_lt_of_le (beVal_lt l) (Nat.pow_le_pow_right (by omega) h)
theorem or_nat (U : Nat) (b : UInt8) : 256 * U ||| b.toNat = 256 * U + b.toNat := by
  have hb := b.toNat_lt
  rw [show (256 : Nat) = 2 ^ 8 from rfl]
  exact (Nat.two_pow_add_eq_or_of_lt (i := 8) (b := b.toNat) (by omega) U).symm
theorem or_u16 (x b : UInt8) : bits .or .u16 ((x.toNat : Int) * 256) (b.toNat : Int) = ((256 * x.toNat + b.toNat : Nat) : Int) := by
  have hb := b.toNat_lt
  have hx := x.toNat_lt
  have h1 : (x.toNat : Int) * 256 = ((256 * x.toNat : Nat) : Int) := by omega
  rw [h1]
  show IntKind.u16.wrap ((BitVec.ofInt 16 ((256 * x.toNat : Nat) : Int) ||| BitVec.ofInt 16 (b.toNat : Int)).toNat : Int) = _
  have e1 : (BitVec.ofInt 16 ((256 * x.toNat : Nat) : Int)).toNat = 256 * x.toNat := by rw [BitVec.toNat_ofInt]; omega
  have e2 : (BitVec.ofInt 16 (b.toNat : Int)).toNat = b.toNat := by rw [BitVec.toNat_ofInt]; omega
  rw [BitVec.toNat_or, e1, e2, or_nat]
  simp [IntKind.wrap, IntKind.bits, IntKind.signed]; omega
theorem or_u32 (U : Nat) (b : UInt8) (hU : U < 16777216) : bits .or .u32 (IntKind.u32.wrap ((U : Int) * 256)) (b.toNat : Int) = ((256 * U + b.toNat : Nat) : Int) := by
  have hb := b.toNat_lt
  have h1 : IntKind.u32.wrap ((U : Int) * 256) = ((256 * U : Nat) : Int) := by simp [IntKind.wrap, IntKind.bits, IntKind.signed]; omega
  rw [h1]
  show IntKind.u32.wrap ((BitVec.ofInt 32 ((256 * U : Nat) : Int) ||| BitVec.ofInt 32 (b.toNat : Int)).toNat : Int) = _
  have e1 : (BitVec.ofInt 32 ((256 * U : Nat) : Int)).toNat = 256 * U := by rw [BitVec.toNat_ofInt]; omega
  have e2 : (BitVec.ofInt 32 (b.toNat : Int)).toNat = b.toNat := by rw [BitVec.toNat_ofInt]; omega
  rw [BitVec.toNat_or, e1, e2, or_nat]
  simp [IntKind.wrap, IntKind.bits, IntKind.signed]; omega
end
end Go.Proofs.Ytflolnilagogpaa
