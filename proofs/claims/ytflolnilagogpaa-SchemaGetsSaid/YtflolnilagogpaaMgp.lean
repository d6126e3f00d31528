/-
  Several texts in one: Ix Iy Iz.
-/
import Derived.Test.YtflolnilagogpaaMgo
import Derived.Test.YtflolnilagogpaaMgn
import Derived.OwnWalk
import Derived.BigRegion
import Derived.Deep.RegionLaw
/-
  The reader of a book's writing: count, text, number.
-/
namespace Go.Proofs.Ytflolnilagogpaa
section
set_option linter.unusedSimpArgs false
set_option linter.unusedVariables false
open Go.RowKit

theorem but_far {w a : World} {g : Nat} (h : w.grownBy a (some g)) {p : Addr} (hp : w.heap.size ≤ p.block) (u : Value) : w.grownBy (a.setCell p u) (some g) := by
  have k := (Below.refl 0 a).setCell (p := p) (Nat.zero_le _) u
  exact ⟨k.os.trans h.os, k.tape.trans h.tape, k.output.trans h.output, Nat.le_trans h.size k.size, fun i hi hne => (Below.heap_setCell _ _ _ _ (by omega)).trans (h.block i hi hne)⟩
theorem Rd.far {a : World} {g B : Nat} {r : List UInt8} {sh : Bool} (h : Rd a g B r sh) {p : Addr} (hp : g < p.block) (u : Value) : Rd (a.setCell p u) g B r sh := by
  obtain ⟨A, m, c, h1, h2, h3, h4⟩ := h
  have hk : a.grownBy (a.setCell p u) (some p.block) := by
    have k := (Below.refl 0 a).setCell (p := p) (Nat.zero_le _) u
    exact ⟨k.os, k.tape, k.output, k.size, fun i hi hne => Below.heap_setCell _ _ _ _ (fun e => hne (by rw [e]))⟩
  exact ⟨A, m, c, h1.far (by omega) u, reads_but hk h2 (by omega), h3, h4⟩
/-- The entry with which bytes begin, as a reader takes it; what is left; whether something wasn't there. -/
theorem or_i64 (U : Nat) (b : UInt8) (hU : U < 16777216) : bits .or .i64 (wrap64 ((U : Int) * 256)) (b.toNat : Int) = ((256 * U + b.toNat : Nat) : Int) := by
  have hb := b.toNat_lt
  rw [show wrap64 ((U : Int) * 256) = (U : Int) * 256 from by unfold wrap64; omega]
  show IntKind.i64.wrap ((BitVec.ofInt 64 ((U : Int) * 256) ||| BitVec.ofInt 64 (b.toNat : Int)).toNat : Int) = _
  have e1 : (BitVec.ofInt 64 ((U : Int) * 256)).toNat = 256 * U := by rw [BitVec.toNat_ofInt]; omega
  have e2 : (BitVec.ofInt 64 (b.toNat : Int)).toNat = b.toNat := by rw [BitVec.toNat_ofInt]; omega
  rw [BitVec.toNat_or, e1, e2, or_nat]
  simp [IntKind.wrap, IntKind.bits, IntKind.signed]; omega
def RetNm (w : World) (g B : Nat) (r : List UInt8) (sh : Bool) (k : Nat) (e : Ending) (w' : World) : Prop :=
  e = .returned (.int .i64 (beVal (tk r k) : Int)) ∧ Rd w' g B (dr r k) (sh || decide (r.length < k)) ∧ w.grownBy w' (some g)
set_option maxHeartbeats 2000000 in
theorem rnum_any (g B : Nat) (r : List UInt8) (sh : Bool) (w : World) (h : Rd w g B r sh) :
    Calls Try.prog 48 #[.pointer (some ⟨g, 0, none⟩)] w (RetNm w g B r sh 4) := by
  have T := Lib.hid (take_any g B r sh 4 w h (by omega))
  have hlen := tk_len r 4
  unfold RetNm
  unfold RetTk at T
  generalize tk r 4 = L at *
  generalize dr r 4 = D at *
  generalize (sh || decide (r.length < 4)) = sh' at *
  have HL := Lib.hid hlen; clear hlen h
  go_enter Try.func48, Try.ntmps48
  go_wp2_with fail
  refine T.out.mono ?_
  rintro e w1 ⟨A, c, rfl, hc, hr, hrd, hbt, hne⟩
  have HRd := Lib.hid (And.intro hrd hbt)
  clear hrd hbt
  go_wp2
  go_loop [3, 9] (fun uv iv => ∃ j : Nat, j ≤ 4 ∧ iv = .int .i64 j ∧ uv = .int .i64 ((beVal (L.take j) : Nat) : Int)) (fun _ iv => 4 - (intOf iv).toNat)
  case atStart => exact ⟨0, by omega, rfl, rfl⟩
  case round =>
    obtain ⟨j, hj, rfl, rfl⟩ := hrel
    have q0 : (0 : Int) ≤ (j : Int) := by omega
    by_cases hlt : j < 4
    · have q1 : (j : Int) < 4 := by omega
      obtain ⟨ad, b, rfl, _, hb, cb⟩ := hr.byte hlt
      have hbt := Lib.hid (beVal_take hb)
      have hlt2 : beVal (L.take j) < 16777216 := by
        have h1 := beVal_lt_of (l := L.take j) (n := 3) (by rw [List.length_take]; omega)
        omega
      have hor := or_i64 (beVal (L.take j)) b hlt2
      rw [← hbt.out] at hor
      clear hlt2 hb hbt
      obtain ⟨U, hU⟩ : ∃ U, beVal (L.take j) = U := ⟨_, rfl⟩
      rw [hU] at hor ⊢
      clear hU
      have HOR := Lib.hid hor; clear hor
      have xb : (b.toNat : Int) ≤ 255 := by have := b.toNat_lt; omega
      have xb0 : (0 : Int) ≤ (b.toNat : Int) := by omega
      go_wp2
      go_round
      case rel => exact ⟨j + 1, by omega, by go_num, val_int HOR.out⟩
      case measure => simp [intOf]; omega
    · obtain rfl : j = 4 := by omega
      have hT : Hid (beVal (L.take 4) = beVal L) := Lib.hid (by rw [List.take_of_length_le (by rw [HL.out]; exact Nat.le_refl _)])
      go_wp2
      go_ret
      exact ⟨by rw [hT.out]; rfl, HRd.out.1, HRd.out.2⟩

def RetOne (w : World) (g B : Nat) (r : List UInt8) (sh : Bool) (e : Ending) (w' : World) : Prop :=
  ∃ b : UInt8, tk r 1 = [b] ∧ e = .returned (.int .i64 (b.toNat : Int)) ∧ Rd w' g B (dr r 1) (sh || decide (r.length < 1)) ∧ w.grownBy w' (some g)
theorem one_of {l : List UInt8} (h : l.length = 1) : ∃ b, l = [b] := by
  match l, h with
  | [b], _ => exact ⟨b, rfl⟩
/-- One byte, where it lies. -/
def RetB1 (w : World) (g B : Nat) (r : List UInt8) (sh : Bool) (e : Ending) (w' : World) : Prop :=
  ∃ (b : UInt8) (ad : Addr) (c : Nat), tk r 1 = [b] ∧ e = .returned (.slice (some ad) 1 c) ∧ w'.cell? ad = some (.int .u8 (b.toNat : Int)) ∧ ad.block ≠ g ∧ Rd w' g B (dr r 1) (sh || decide (r.length < 1)) ∧ w.grownBy w' (some g)
theorem byte_any (g B : Nat) (r : List UInt8) (sh : Bool) (w : World) (h : Rd w g B r sh) :
    Calls Try.prog 46 #[.pointer (some ⟨g, 0, none⟩), .int .i64 1] w (RetB1 w g B r sh) :=
  (take_any g B r sh 1 w h (by omega)).mono fun e w' ⟨A, c, he, hc, hr, hrd, hbt, hne⟩ => by
    obtain ⟨b, hb⟩ := one_of (tk_len r 1)
    rw [hb] at hr
    obtain ⟨ad, b', hA, _, hb', cb⟩ := hr.byte (show 0 < 1 by omega)
    simp at hb'
    subst hb'
    rw [add_zero_] at cb
    exact ⟨b, ad, c, hb, by rw [he, hA], cb, hne (by omega) ad hA, hrd, hbt⟩
theorem count_any (g B : Nat) (r : List UInt8) (sh : Bool) (w : World) (h : Rd w g B r sh) :
    Calls Try.prog 25 #[.pointer (some ⟨g, 0, none⟩)] w (RetOne w g B r sh) := by
  have T := Lib.hid (take_any g B r sh 1 w h (by omega))
  obtain ⟨b, hb⟩ := one_of (tk_len r 1)
  unfold RetTk at T
  rw [hb] at T
  have HB := Lib.hid hb
  clear h hb
  have b0 : (0 : Int) ≤ (b.toNat : Int) := by omega
  have b1 : (b.toNat : Int) ≤ 255 := by have := b.toNat_lt; omega
  go_enter Try.func25, Try.ntmps25
  go_wp2_with fail
  refine T.out.mono ?_
  rintro e w1 ⟨A, c, rfl, hc, hr, hrd, hbt, hne⟩
  obtain ⟨ad, b', rfl, _, hb', cb⟩ := hr.byte (show 0 < 1 by omega)
  simp at hb'
  subst hb'
  have cb' : w1.cell? ad = some (.int .u8 (b.toNat : Int)) := by have h := cb; rwa [add_zero_] at h
  have HRd := Lib.hid (And.intro hrd hbt)
  clear hrd hbt hr cb
  go_wp2
  go_ret
  exact ⟨b, HB.out, rfl, HRd.out.1, HRd.out.2⟩
/-- A text: as many bytes as the first one says. -/
def RetTxt (w : World) (g B : Nat) (r : List UInt8) (sh : Bool) (e : Ending) (w' : World) : Prop :=
  ∃ (b : UInt8), tk r 1 = [b] ∧ e = .returned (.string (str (tk (dr r 1) b.toNat))) ∧ Rd w' g B (dr (dr r 1) b.toNat) ((sh || decide (r.length < 1)) || decide ((dr r 1).length < b.toNat)) ∧ w.grownBy w' (some g)
theorem text2_any (g B : Nat) (r : List UInt8) (sh : Bool) (w : World) (h : Rd w g B r sh) :
    Calls Try.prog 47 #[.pointer (some ⟨g, 0, none⟩)] w (RetTxt w g B r sh) := by
  have C := Lib.hid (count_any g B r sh w h)
  clear h
  go_enter Try.func47, Try.ntmps47
  go_wp2_with fail
  refine C.out.mono ?_
  rintro e w1 ⟨b, hb, rfl, hrd, hbt⟩
  have T := Lib.hid (take_any g B (dr r 1) (sh || decide (r.length < 1)) b.toNat w1 hrd (by have := b.toNat_lt; omega))
  have H1 := Lib.hid (And.intro hb hbt)
  clear hb hrd hbt
  go_wp2_with fail
  refine T.out.mono ?_
  rintro e w2 ⟨A, c, rfl, hc, hr, hrd, hbt, hne⟩
  have cv := conv_reads (P := Try.prog) hr 28 5 9 Try.underlying28 Try.underlying5 Try.underlying9 c
  have H2 := Lib.hid (And.intro hrd (but_trans H1.out.2 hbt))
  obtain ⟨s, hs⟩ : ∃ s, str (tk (dr r 1) b.toNat) = s := ⟨_, rfl⟩
  rw [hs] at cv
  have HS := Lib.hid hs
  clear hr hrd hbt hs
  go_wp2
  go_ret
  exact ⟨b, H1.out.1, by rw [HS.out]; rfl, H2.out.1, H2.out.2⟩
end
end Go.Proofs.Ytflolnilagogpaa
/-
  Reading, plain: what the reader answers stands to what is read (Rel); step by step.
-/
namespace Go.Proofs.Ytflolnilagogpaa
section
set_option linter.unusedSimpArgs false
set_option linter.unusedVariables false
open Go.RowKit

/-- A reader at r (short: sh) answered a and stands at r' (short: sh'): it is as g reads, or short. -/
def Rel {α : Type} (g : List UInt8 → Got α) (r : List UInt8) (sh : Bool) (a : α) (r' : List UInt8) (sh' : Bool) : Prop :=
  (sh = true → sh' = true) ∧ (sh = false → (sh' = true ∧ g r = none) ∨ (sh' = false ∧ g r = some (a, r')))
theorem tk_take {r : List UInt8} {k : Nat} (h : k ≤ r.length) : tk r k = r.take k ∧ dr r k = r.drop k := by
  unfold tk dr
  rw [if_neg (by omega), if_neg (by omega)]
  exact ⟨rfl, rfl⟩
theorem rel_take (r : List UInt8) (sh : Bool) (k : Nat) : Rel (gTake k) r sh (tk r k) (dr r k) (sh || decide (r.length < k)) := by
  refine ⟨fun h => by rw [h]; rfl, fun h => ?_⟩
  subst h
  rw [Bool.false_or]
  by_cases hk : k ≤ r.length
  · right
    refine ⟨decide_eq_false (by omega), ?_⟩
    unfold gTake
    rw [if_pos hk, (tk_take hk).1, (tk_take hk).2]
  · left
    refine ⟨decide_eq_true (by omega), ?_⟩
    unfold gTake
    rw [if_neg hk]
theorem rel_one {r : List UInt8} {sh : Bool} {b : UInt8} (hb : tk r 1 = [b]) : Rel gOne r sh b.toNat (dr r 1) (sh || decide (r.length < 1)) := by
  refine ⟨fun h => by rw [h]; rfl, fun h => ?_⟩
  subst h
  rw [Bool.false_or]
  cases r with
  | nil => exact .inl ⟨rfl, rfl⟩
  | cons c t =>
    right
    obtain ⟨h1, h2⟩ := tk_take (r := c :: t) (k := 1) (by simp)
    rw [h1] at hb
    simp at hb
    subst hb
    refine ⟨by simp, ?_⟩
    rw [h2]
    rfl
theorem rel_four (r : List UInt8) (sh : Bool) : Rel gFour r sh (beVal (tk r 4)) (dr r 4) (sh || decide (r.length < 4)) := by
  have h := rel_take r sh 4
  refine ⟨h.1, fun hs => ?_⟩
  unfold gFour
  rcases h.2 hs with ⟨h1, h2⟩ | ⟨h1, h2⟩
  · rw [h2]; exact .inl ⟨h1, rfl⟩
  · rw [h2]; exact .inr ⟨h1, rfl⟩
theorem Rel.int {g : List UInt8 → Got Nat} {r r' : List UInt8} {sh sh' : Bool} {n : Nat} (h : Rel g r sh n r' sh') : Rel (gInt g) r sh (n : Int) r' sh' := by
  refine ⟨h.1, fun hs => ?_⟩
  unfold gInt
  rcases h.2 hs with ⟨h1, h2⟩ | ⟨h1, h2⟩
  · rw [h2]; exact .inl ⟨h1, rfl⟩
  · rw [h2]; exact .inr ⟨h1, rfl⟩
/-- One behind the other. -/
theorem Rel.bind {α β γ : Type} {g : List UInt8 → Got α} {k : α → List UInt8 → Got β} {G : List UInt8 → Got γ} {f : α → β → γ} {r r1 r2 : List UInt8} {sh s1 s2 : Bool} {a : α} {b : β}
    (h1 : Rel g r sh a r1 s1) (h2 : Rel (k a) r1 s1 b r2 s2)
    (hG : ∀ l, G l = match g l with | none => none | some (a, q) => match k a q with | none => none | some (b, q) => some (f a b, q)) : Rel G r sh (f a b) r2 s2 := by
  refine ⟨fun h => h2.1 (h1.1 h), fun h => ?_⟩
  rw [hG]
  rcases h1.2 h with ⟨e1, e2⟩ | ⟨e1, e2⟩
  · rw [e2]; exact .inl ⟨h2.1 e1, rfl⟩
  · rw [e2]
    simp only
    rcases h2.2 e1 with ⟨e3, e4⟩ | ⟨e3, e4⟩
    · rw [e4]; exact .inl ⟨e3, rfl⟩
    · rw [e4]; exact .inr ⟨e3, rfl⟩
theorem rel_text {r : List UInt8} {sh : Bool} {b : UInt8} (hb : tk r 1 = [b]) : Rel gText r sh (tk (dr r 1) b.toNat) (dr (dr r 1) b.toNat) ((sh || decide (r.length < 1)) || decide ((dr r 1).length < b.toNat)) :=
  Rel.bind (k := fun n l => gTake n l) (f := fun _ s => s) (rel_one hb) (rel_take _ _ _) (fun l => by
    unfold gText
    cases gOne l with
    | none => rfl
    | some x =>
      obtain ⟨n, q⟩ := x
      simp only
      cases gTake n q with
      | none => rfl
      | some y => rfl)
theorem rel_many_nil {α : Type} (g : List UInt8 → Got α) (r : List UInt8) (sh : Bool) : Rel (gMany g 0) r sh [] r sh := ⟨id, fun h => .inr ⟨h, rfl⟩⟩
theorem gMany_snoc {α : Type} (g : List UInt8 → Got α) : ∀ (n : Nat) (l : List UInt8), gMany g (n + 1) l = match gMany g n l with
    | none => none
    | some (xs, q) => match g q with
      | none => none
      | some (a, q) => some (xs ++ [a], q) := by
  intro n
  induction n with
  | zero =>
    intro l
    simp only [gMany]
    cases g l with
    | none => rfl
    | some x => rfl
  | succ n ih =>
    intro l
    rw [gMany]
    conv => rhs; rw [gMany]
    cases g l with
    | none => rfl
    | some x =>
      obtain ⟨a, q⟩ := x
      simp only
      rw [ih q]
      cases gMany g n q with
      | none => rfl
      | some y =>
        obtain ⟨xs, q2⟩ := y
        simp only
        cases g q2 with
        | none => rfl
        | some z => rfl
theorem Rel.snoc {α : Type} {g : List UInt8 → Got α} {n : Nat} {r r1 r2 : List UInt8} {sh s1 s2 : Bool} {xs : List α} {a : α} (h1 : Rel (gMany g n) r sh xs r1 s1) (h2 : Rel g r1 s1 a r2 s2) : Rel (gMany g (n + 1)) r sh (xs ++ [a]) r2 s2 :=
  Rel.bind (k := fun _ l => g l) (f := fun xs a => xs ++ [a]) h1 h2 (fun l => by
    rw [gMany_snoc]
    cases gMany g n l with
    | none => rfl
    | some x =>
      obtain ⟨a, q⟩ := x
      first
        | rfl
        | (simp only; cases g q with
          | none => rfl
          | some y => rfl)
        | (cases g q with
          | none => rfl
          | some y => rfl))
theorem rel_col {r r1 r2 r3 r4 : List UInt8} {sh s1 s2 s3 s4 : Bool} {t : List UInt8} {k d u : Int} (h1 : Rel gText r sh t r1 s1) (h2 : Rel (gInt gOne) r1 s1 k r2 s2) (h3 : Rel (gInt gFour) r2 s2 d r3 s3) (h4 : Rel (gInt gFour) r3 s3 u r4 s4) : Rel gCol r sh ⟨t, k, d, u⟩ r4 s4 := by
  refine ⟨fun h => h4.1 (h3.1 (h2.1 (h1.1 h))), fun h => ?_⟩
  unfold gCol
  rcases h1.2 h with ⟨e1, e2⟩ | ⟨e1, e2⟩ <;> rw [e2]
  · exact .inl ⟨h4.1 (h3.1 (h2.1 e1)), rfl⟩
  simp only
  rcases h2.2 e1 with ⟨e3, e4⟩ | ⟨e3, e4⟩ <;> rw [e4]
  · exact .inl ⟨h4.1 (h3.1 e3), rfl⟩
  simp only
  rcases h3.2 e3 with ⟨e5, e6⟩ | ⟨e5, e6⟩ <;> rw [e6]
  · exact .inl ⟨h4.1 e5, rfl⟩
  simp only
  rcases h4.2 e5 with ⟨e7, e8⟩ | ⟨e7, e8⟩ <;> rw [e8]
  · exact .inl ⟨e7, rfl⟩
  · exact .inr ⟨e7, rfl⟩
theorem rel_nums {r r1 r2 r3 : List UInt8} {sh s1 s2 s3 : Bool} {a b c : Int} (h1 : Rel (gInt gFour) r sh a r1 s1) (h2 : Rel (gInt gFour) r1 s1 b r2 s2) (h3 : Rel (gInt gFour) r2 s2 c r3 s3) : Rel gNums3 r sh (a, b, c) r3 s3 := by
  refine ⟨fun h => h3.1 (h2.1 (h1.1 h)), fun h => ?_⟩
  unfold gNums3
  rcases h1.2 h with ⟨e1, e2⟩ | ⟨e1, e2⟩ <;> rw [e2]
  · exact .inl ⟨h3.1 (h2.1 e1), rfl⟩
  simp only
  rcases h2.2 e1 with ⟨e3, e4⟩ | ⟨e3, e4⟩ <;> rw [e4]
  · exact .inl ⟨h3.1 e3, rfl⟩
  simp only
  rcases h3.2 e3 with ⟨e5, e6⟩ | ⟨e5, e6⟩ <;> rw [e6]
  · exact .inl ⟨e5, rfl⟩
  · exact .inr ⟨e5, rfl⟩
theorem rel_tab {r r1 r2 r3 r4 : List UInt8} {sh s1 s2 s3 s4 : Bool} {t : List UInt8} {n : Nat} {cs : List PC} {a b c : Int} (h1 : Rel gText r sh t r1 s1) (h2 : Rel gOne r1 s1 n r2 s2) (h3 : Rel (gMany gCol n) r2 s2 cs r3 s3) (h4 : Rel gNums3 r3 s3 (a, b, c) r4 s4) : Rel gTab r sh ⟨t, cs, a, b, c⟩ r4 s4 := by
  refine ⟨fun h => h4.1 (h3.1 (h2.1 (h1.1 h))), fun h => ?_⟩
  unfold gTab
  rcases h1.2 h with ⟨e1, e2⟩ | ⟨e1, e2⟩ <;> rw [e2]
  · exact .inl ⟨h4.1 (h3.1 (h2.1 e1)), rfl⟩
  simp only
  rcases h2.2 e1 with ⟨e3, e4⟩ | ⟨e3, e4⟩ <;> rw [e4]
  · exact .inl ⟨h4.1 (h3.1 e3), rfl⟩
  simp only
  rcases h3.2 e3 with ⟨e5, e6⟩ | ⟨e5, e6⟩ <;> rw [e6]
  · exact .inl ⟨h4.1 e5, rfl⟩
  simp only
  rcases h4.2 e5 with ⟨e7, e8⟩ | ⟨e7, e8⟩ <;> rw [e8]
  · exact .inl ⟨e7, rfl⟩
  · exact .inr ⟨e7, rfl⟩
theorem rel_idx {r r1 r2 r3 r4 r5 r6 : List UInt8} {sh s1 s2 s3 s4 s5 s6 : Bool} {t : List UInt8} {tb : Int} {n : Nat} {cs ds : List Int} {a b c : Int} (h1 : Rel gText r sh t r1 s1) (h2 : Rel (gInt gOne) r1 s1 tb r2 s2) (h3 : Rel gOne r2 s2 n r3 s3) (h4 : Rel (gMany (gInt gOne) n) r3 s3 cs r4 s4) (h5 : Rel gNums3 r4 s4 (a, b, c) r5 s5) (h6 : Rel (gMany (gInt gFour) n) r5 s5 ds r6 s6) : Rel gIdx r sh ⟨t, tb, cs, a, b, c, ds⟩ r6 s6 := by
  refine ⟨fun h => h6.1 (h5.1 (h4.1 (h3.1 (h2.1 (h1.1 h))))), fun h => ?_⟩
  unfold gIdx
  rcases h1.2 h with ⟨e1, e2⟩ | ⟨e1, e2⟩ <;> rw [e2]
  · exact .inl ⟨h6.1 (h5.1 (h4.1 (h3.1 (h2.1 e1)))), rfl⟩
  simp only
  rcases h2.2 e1 with ⟨e3, e4⟩ | ⟨e3, e4⟩ <;> rw [e4]
  · exact .inl ⟨h6.1 (h5.1 (h4.1 (h3.1 e3))), rfl⟩
  simp only
  rcases h3.2 e3 with ⟨e5, e6⟩ | ⟨e5, e6⟩ <;> rw [e6]
  · exact .inl ⟨h6.1 (h5.1 (h4.1 e5)), rfl⟩
  simp only
  rcases h4.2 e5 with ⟨e7, e8⟩ | ⟨e7, e8⟩ <;> rw [e8]
  · exact .inl ⟨h6.1 (h5.1 e7), rfl⟩
  simp only
  rcases h5.2 e7 with ⟨e9, e10⟩ | ⟨e9, e10⟩ <;> rw [e10]
  · exact .inl ⟨h6.1 e9, rfl⟩
  simp only
  rcases h6.2 e9 with ⟨e11, e12⟩ | ⟨e11, e12⟩ <;> rw [e12]
  · exact .inl ⟨e11, rfl⟩
  · exact .inr ⟨e11, rfl⟩
end
end Go.Proofs.Ytflolnilagogpaa
/-
  The reader of a book's writing: indexes.
-/
namespace Go.Proofs.Ytflolnilagogpaa
section
set_option linter.unusedSimpArgs false
set_option linter.unusedVariables false
open Go.RowKit

theorem wp_pushR {P : Program} {w : World} {o : Oper} {a : Act} {K : Act → World → Prop} {Q : Exit → Act → World → Prop} {news : List Value} {arr : Array Value} (s x : Operand) (t : TypeId)
    (ho : o.op = .call { callee := .builtin .append, args := #[s, x], argTypes := #[t, t] })
    (base : Nat) (e : TypeId) (i : TypeInfo) (z : Value) (size bytes : Nat) (ht : P.underlying t = some (.slice e)) (hi : P.info? e = some i) (hz : i.zero = some z)
    (hsize : i.size = size) (hby : i.bytes = bytes) (hzs : z.cells.size = size) (hsz : 0 < size)
    (v : Value) (n : Nat) (xs : List Value) (hs : a.eval s = v) (hown : w.ownsRow base e size v n xs)
    (harr : arr = news.toArray) (g : Nat) (hx : a.eval x = .slice (some ⟨g, 0, none⟩) 1 1) (hg : g = w.heap.size) (hl : news.length = size) (h1 : ∀ u ∈ news, u.oneCell' = true)
    (h63 : n + 1 ≤ 1000000000) (hbytes : bytes ≤ 10000) (hbase : base ≤ w.heap.size)
    (h : ∀ v' w', w'.ownsRow base e size v' (n + 1) (xs ++ news) → (w.alloc (.cells arr e)).grownBy w' v.ownBlock → (v'.ownBlock = v.ownBlock ∨ v'.ownBlock = some (w.heap.size + 1)) → K (a.put o.dst v') w') : o.wp P a (w.alloc (.cells arr e)) K Q := by
  subst hg
  subst harr
  have hb : (n + 1) * bytes ≤ 1000000000 * 10000 := Nat.mul_le_mul h63 hbytes
  have hnews : ∀ j u, news[j]? = some u → (w.alloc (.cells news.toArray e)).cell? ((⟨w.heap.size, 0, none⟩ : Addr).add j) = some u := by
    intro j u hj
    rw [add_head, World.cell?_alloc_at _ _ _ _ rfl]
    simpa using hj
  obtain ⟨v', w', hr, h2, h3, h4, h5⟩ := run_append_own_at (P := P) (w.alloc (.cells news.toArray e)) base t o.type e i z size bytes ht hi hz hsize hby hzs hsz v n xs (hown.alloc _) ⟨w.heap.size, 0, none⟩ 1 1 news (by rw [hl]; omega) hnews h1 (by unfold maxLen; omega) (by omega) (by simp; omega)
  unfold Oper.wp execOp
  simp only [ho, resolve, invoke, builtin, Sem.run_bind, Sem.run_pure, Result.andThen_ok, List.map_toArray, List.map_cons, List.map_nil, hs, hx, hr]
  exact h _ _ h2 h3 (by simpa using h5)

/-- The same, where the region draws. -/
theorem step_pushR {P : Program} {w : World} {ops : Array Oper} {o : Oper} {a : Act} {K : Act → World → Prop} {Q : Exit → Act → World → Prop} {E : Prop} {news : List Value} {arr : Array Value} (hgd : o.guard = none) (s x : Operand) (t : TypeId)
    (ho : o.op = .call { callee := .builtin .append, args := #[s, x], argTypes := #[t, t] })
    (base : Nat) (e : TypeId) (i : TypeInfo) (z : Value) (size bytes : Nat) (ht : P.underlying t = some (.slice e)) (hi : P.info? e = some i) (hz : i.zero = some z)
    (hsize : i.size = size) (hby : i.bytes = bytes) (hzs : z.cells.size = size) (hsz : 0 < size)
    (v : Value) (n : Nat) (xs : List Value) (hs : a.eval s = v) (hown : w.ownsRow base e size v n xs)
    (harr : arr = news.toArray) (g : Nat) (hx : a.eval x = .slice (some ⟨g, 0, none⟩) 1 1) (hg : g = w.heap.size) (hl : news.length = size) (h1 : ∀ u ∈ news, u.oneCell' = true)
    (h63 : n + 1 ≤ 1000000000) (hbytes : bytes ≤ 10000) (hbase : base ≤ w.heap.size)
    (h : ∀ v' w', w'.ownsRow base e size v' (n + 1) (xs ++ news) → (w.alloc (.cells arr e)).grownBy w' v.ownBlock → (v'.ownBlock = v.ownBlock ∨ v'.ownBlock = some (w.heap.size + 1)) → K (a.put o.dst v') w') : if Region.wanted o (yielded ops a.tmps) = true then Oper.wp P o a (w.alloc (.cells arr e)) K Q else E := by
  have hw : Region.wanted o (yielded ops a.tmps) = true := by simp [Region.wanted, hgd]
  rw [if_pos hw]
  exact wp_pushR s x t ho base e i z size bytes ht hi hz hsize hby hzs hsz v n xs hs hown harr g hx hg hl h1 h63 hbytes hbase h

theorem Try.infoI : (Try.prog.info? 3).map (fun i => (i.zero, i.size, i.bytes)) = some (some (.int .i64 0), 1, 8) := by kernel_rfl
theorem own_but {w w' : World} {base : Nat} {e : TypeId} {size n : Nat} {v : Value} {xs : List Value} {g : Nat} (h : w.ownsRow base e size v n xs) (hb : w.grownBy w' (some g)) (hg : g < base) : w'.ownsRow base e size v n xs :=
  h.kept hb (.inr fun e' => by have := (h.lt g e').1; omega)
theorem own_farI {w : World} {base : Nat} {e : TypeId} {size n : Nat} {v : Value} {xs : List Value} (h : w.ownsRow base e size v n xs) (g : Nat) (hg : g < base) (j : Nat) (u : Value) : (w.setCell ⟨g, j, none⟩ u).ownsRow base e size v n xs := by
  refine h.kept (row := some g) ⟨rfl, rfl, rfl, by simp [World.setCell], fun k hk hkg => Below.heap_setCell w _ u k (fun e' => hkg (by rw [e'])) ⟩ (.inr fun e' => ?_)
  have := (h.lt g e').1
  omega
theorem blk_far_own {w w' : World} {base : Nat} {e : TypeId} {size n : Nat} {v : Value} {xs : List Value} {g : Nat} {t : TypeId} {cs : Array Value} (h : w.ownsRow base e size v n xs) (hb : Blk w g t cs) (hg : w.grownBy w' v.ownBlock) (hlt : g < base) : Blk w' g t cs :=
  hb.grown hg fun e' => by have := (h.lt g e'.symm).1; omega
/-- What a walk through own rows leaves of what was: all but one block. -/
theorem but_own {w a b : World} {base n size : Nat} {e : TypeId} {v : Value} {xs : List Value} {g : Nat} (h : w.grownBy a (some g)) (ho : a.ownsRow base e size v n xs) (hg : a.grownBy b v.ownBlock) (hb : w.heap.size ≤ base) : w.grownBy b (some g) :=
  ⟨hg.os.trans h.os, hg.tape.trans h.tape, hg.output.trans h.output, Nat.le_trans h.size hg.size, fun i hi hne => (hg.block i (Nat.lt_of_lt_of_le hi h.size) (fun e' => by have := (ho.lt i e'.symm).1; omega)).trans (h.block i hi hne)⟩
theorem Rd.own {w w' : World} {base n size : Nat} {e : TypeId} {v : Value} {xs : List Value} {g B : Nat} {r : List UInt8} {sh : Bool} (h : Rd w g B r sh) (ho : w.ownsRow base e size v n xs) (hg : w.grownBy w' v.ownBlock) (hb : g < base) : Rd w' g B r sh := by
  obtain ⟨A, m, c, h1, h2, h3, h4⟩ := h
  have hne : v.ownBlock ≠ some g := fun e' => by have := (ho.lt g e').1; omega
  refine ⟨A, m, c, h1.grown hg (fun e' => hne e'.symm), ⟨h2.1, fun hn => ?_⟩, h3, h4⟩
  obtain ⟨ad, e1, hb1, hc⟩ := h2.2 hn
  refine ⟨ad, e1, hb1, fun j u hj => ?_⟩
  have hcu := hc j u hj
  have hk := hg.block (ad.add j).block (cell_block hcu) (fun e' => by
    have h5 := (ho.lt _ e'.symm).1
    rw [block_of_add] at h5
    omega)
  unfold World.cell? at hcu ⊢
  rw [hk]
  exact hcu
end
end Go.Proofs.Ytflolnilagogpaa
