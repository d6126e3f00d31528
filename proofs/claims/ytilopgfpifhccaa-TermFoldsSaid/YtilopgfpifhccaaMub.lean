/-
  Folded terms (plain), and terms that lie in some blocks alone.
-/
import Derived.Test.YtilopgfpifhccaaMtl
import Derived.Test.YtilopgfpifhccaaMtv
set_option linter.unusedSimpArgs false
set_option linter.unusedVariables false
namespace Go.Proofs.Ytilopgfpifhccaa
open Go.RowKit

/-- A slice that lies in blocks of a kind. -/
def ReadsQ (w : World) (Q : Nat → Prop) (size : Nat) (A : Option Addr) (n : Nat) (xs : List Value) : Prop :=
  xs.length = n * size ∧ (0 < n → ∃ ad, A = some ad ∧ Q ad.block ∧ ∀ j u, xs[j]? = some u → w.cell? (ad.add j) = some u)
/-- A term whose arguments lie, all of them, in blocks of a kind. -/
inductive TmQ (w : World) (Q : Nat → Prop) : Tm → Prop
  | mk (h : TmH) (A : Option Addr) (n c : Nat) (args : List Tm) (hok : h.ok) (hn : n ≤ c) (hc : c ≤ maxLen) (hr : ReadsQ w Q 11 A n (vT args)) (ha : ∀ a ∈ args, TmQ w Q a) : TmQ w Q (.mk h A n c args)
theorem TmQ.keep {w w' : World} {Q Q' : Nat → Prop} {t : Tm} (h : TmQ w Q t) (hQ : ∀ b, Q b → Q' b) (hk : ∀ p : Addr, Q p.block → w'.cell? p = w.cell? p) : TmQ w' Q' t := by
  induction h with
  | mk h A n c args hok hn hc hr ha ih =>
    refine .mk h A n c args hok hn hc ⟨hr.1, fun h0 => ?_⟩ ih
    obtain ⟨ad, hA, hq, hcell⟩ := hr.2 h0
    exact ⟨ad, hA, hQ _ hq, fun j u hu => (hk _ (by rw [block_of_add]; exact hq)).trans (hcell j u hu)⟩
theorem TmQ.tin {w : World} {Q : Nat → Prop} {t : Tm} {B : Nat} (h : TmQ w Q t) (hQ : ∀ b, Q b → b < B) : TmIn w B t := by
  induction h with
  | mk h A n c args hok hn hc hr ha ih =>
    refine .mk h A n c args hok hn hc ⟨hr.1, fun h0 => ?_⟩ ih
    obtain ⟨ad, hA, hq, hcell⟩ := hr.2 h0
    exact ⟨ad, hA, hQ _ hq, hcell⟩

def All2 (R : Tm → Tm → Prop) (l l' : List Tm) : Prop := l.length = l'.length ∧ ∀ (k : Nat) (a b : Tm), l[k]? = some a → l'[k]? = some b → R a b
theorem All2.map {α : Type} {R : Tm → Tm → Prop} {l l' : List Tm} {g g' : Tm → α} (h : All2 R l l') (hg : ∀ a b, a ∈ l → R a b → g a = g' b) : l.map g = l'.map g' := by
  apply List.ext_getElem?
  intro k
  rw [List.getElem?_map, List.getElem?_map]
  by_cases hk : k < l.length
  · have hk' : k < l'.length := by rw [← h.1]; exact hk
    rw [List.getElem?_eq_getElem hk, List.getElem?_eq_getElem hk']
    exact congrArg some (hg _ _ (List.getElem_mem hk) (h.2 k _ _ (List.getElem?_eq_getElem hk) (List.getElem?_eq_getElem hk')))
  · rw [List.getElem?_eq_none (by omega), List.getElem?_eq_none (by rw [← h.1]; omega)]
    rfl
theorem All2.turn {R R' : Tm → Tm → Prop} {l l' : List Tm} (h : All2 R l l') (hg : ∀ a b, a ∈ l → b ∈ l' → R a b → R' b a) : All2 R' l' l :=
  ⟨h.1.symm, fun k a b ha hb => hg b a (List.mem_of_getElem? hb) (List.mem_of_getElem? ha) (h.2 k b a hb ha)⟩
theorem All2.mem {R : Tm → Tm → Prop} {l l' : List Tm} (h : All2 R l l') {b : Tm} (hb : b ∈ l') : ∃ a, a ∈ l ∧ R a b := by
  obtain ⟨k, hk, rfl⟩ := List.mem_iff_getElem.1 hb
  have hk' : k < l.length := by rw [h.1]; exact hk
  exact ⟨l[k], List.getElem_mem hk', h.2 k _ _ (List.getElem?_eq_getElem hk') (List.getElem?_eq_getElem hk)⟩
theorem All2.nil {R : Tm → Tm → Prop} : All2 R [] [] := ⟨rfl, fun k a b h => by simp at h⟩
theorem All2.snoc {R : Tm → Tm → Prop} {l l' : List Tm} {k : Nat} {a b : Tm} (h : All2 R (l.take k) l') (ha : l[k]? = some a) (hR : R a b) : All2 R (l.take (k + 1)) (l' ++ [b]) := by
  have hk := lt_of_at ha
  have hl : l'.length = k := by rw [← h.1, List.length_take]; omega
  refine ⟨by simp; omega, fun j x y hx hy => ?_⟩
  have hj := lt_of_at hx
  simp at hj
  by_cases hjk : j < k
  · rw [List.getElem?_append_left (by omega)] at hy
    refine h.2 j x y ?_ hy
    rw [List.getElem?_take] at hx ⊢
    rw [if_pos (by omega)] at hx
    rw [if_pos hjk]
    exact hx
  · obtain rfl : j = k := by omega
    rw [List.getElem?_append_right (by omega), hl] at hy
    simp at hy
    rw [List.getElem?_take, if_pos (by omega), ha] at hx
    injection hx with hx
    subst hx
    subst hy
    exact hR

def litT (v : Vl) : Tm := .mk ⟨1, ⟨#[]⟩, false, v, ⟨#[]⟩, ⟨#[]⟩, 0, 0⟩ none 0 0 []
/-- Is a term put in place of by its value? -/
def toV (f : Nat) (t : Tm) : Prop := t.h.k ≠ 1 ∧ coT f t = true ∧ (evT [] [] f t).isSome = true
/-- One term is another one, folded. -/
def Fo : Nat → Tm → Tm → Prop
  | 0, _, _ => False
  | f + 1, t, t' => (toV (f + 1) t ∧ ∃ v, evT [] [] (f + 1) t = some v ∧ t' = litT v) ∨ (¬ toV (f + 1) t ∧ t'.h = t.h ∧ All2 (Fo f) t.args t'.args)
theorem all_map {α : Type} (p : α → Bool) (l : List α) : l.all p = (l.map p).all id := by rw [List.all_map]; rfl
theorem co_ev (rows : List (List Vl)) (tot : List Vl) : ∀ (f : Nat) (t : Tm), coT f t = true → evT rows tot f t = evT [] [] f t
  | 0, _, _ => rfl
  | f + 1, .mk h A n c args, hc => by
    rw [coT_succ] at hc
    by_cases hk : h.k = 2 ∨ h.k = 7
    · rw [if_pos hk] at hc; cases hc
    · rw [if_neg hk, List.all_eq_true] at hc
      rw [evT_succ, evT_succ]
      have e : args.map (evT rows tot f) = args.map (evT [] [] f) := List.map_congr_left fun a ha => co_ev rows tot f a (hc a ha)
      rw [e]
      unfold evK
      rw [if_neg (fun h2 : h.k = 2 => hk (.inl h2)), if_neg (fun h7 : h.k = 7 => hk (.inr h7)), if_neg (fun h2 : h.k = 2 => hk (.inl h2)), if_neg (fun h7 : h.k = 7 => hk (.inr h7))]
theorem fo_co : ∀ (f : Nat) (t t' : Tm), Fo f t t' → coT f t' = coT f t
  | 0, _, _, h => absurd h id
  | f + 1, .mk h A n c args, t', hf => by
    rcases hf with ⟨hv, v, _, rfl⟩ | ⟨_, hh, ha⟩
    · rw [hv.2.1]; rfl
    · obtain ⟨h', A', n', c', args'⟩ := t'
      simp only [Tm.h, Tm.args] at hh ha
      subst hh
      rw [coT_succ, coT_succ, all_map, all_map (coT f) args, ha.map (g := coT f) (g' := coT f) fun a b _ hab => (fo_co f a b hab).symm]
theorem fo_ev (rows : List (List Vl)) (tot : List Vl) : ∀ (f : Nat) (t t' : Tm), Fo f t t' → evT rows tot f t' = evT rows tot f t
  | 0, _, _, h => absurd h id
  | f + 1, .mk h A n c args, t', hf => by
    rcases hf with ⟨hv, v, he, rfl⟩ | ⟨_, hh, ha⟩
    · rw [co_ev rows tot _ _ hv.2.1, he]; rfl
    · obtain ⟨h', A', n', c', args'⟩ := t'
      simp only [Tm.h, Tm.args] at hh ha
      subst hh
      rw [evT_succ, evT_succ, ha.map (g := evT rows tot f) (g' := evT rows tot f) fun a b _ hab => (fo_ev rows tot f a b hab).symm]
/-- No part is constant but literals, and what is wrong. -/
def fdP : Nat → Tm → Prop
  | 0, _ => True
  | f + 1, t => ¬ toV (f + 1) t ∧ ∀ a ∈ t.args, fdP f a
theorem fo_fd : ∀ (f : Nat) (t t' : Tm), Fo f t t' → fdP f t'
  | 0, _, _, h => absurd h id
  | f + 1, t, t', hf => by
    have hco := fo_co _ _ _ hf
    have hev := fo_ev [] [] _ _ _ hf
    rcases hf with ⟨hv, v, he, rfl⟩ | ⟨hn, hh, ha⟩
    · refine ⟨fun h => h.1 rfl, fun a h => ?_⟩
      simp [litT, Tm.args] at h
    · refine ⟨fun h => hn ⟨by rw [← hh]; exact h.1, by rw [← hco]; exact h.2.1, by rw [← hev]; exact h.2.2⟩, fun b hb => ?_⟩
      obtain ⟨a, _, hab⟩ := ha.mem hb
      exact fo_fd f a b hab
/-- Two terms say the same. -/
def Sm : Nat → Tm → Tm → Prop
  | 0, _, _ => False
  | f + 1, a, b => a.h = b.h ∧ All2 (Sm f) a.args b.args
theorem fo_sm : ∀ (f : Nat) (t t' : Tm), Fo f t t' → fdP f t → Sm f t' t
  | 0, _, _, h, _ => absurd h id
  | f + 1, t, t', hf, hd => by
    rcases hf with ⟨hv, _⟩ | ⟨_, hh, ha⟩
    · exact absurd hv hd.1
    · exact ⟨hh, ha.turn fun a b ham _ hab => fo_sm f a b hab (hd.2 a ham)⟩

def smO (o : Option Vl) : Prop := ∀ v, o = some v → v.s.size ≤ 3000
theorem none_sm : smO none := fun v h => by cases h
theorem valT_sm (t : Int) : smO (valT t) := by
  intro v hv
  unfold valT at hv
  split at hv
  · injection hv with hv
    subst hv
    unfold tv
    repeat (split; exact Nat.zero_le _)
    exact Nat.zero_le _
  · cases hv
theorem turnO_sm {v : Vl} (h : v.s.size ≤ 3000) : smO (turnO v) := by
  intro u hu
  unfold turnO at hu
  split at hu
  · injection hu with hu; exact hu ▸ h
  · split at hu
    · injection hu with hu
      subst hu
      exact Nat.zero_le _
    · cases hu
theorem oneK_sm (op : List UInt8) {a : Option Vl} (h : smO a) : smO (oneK op a) := by
  unfold oneK
  split
  · exact valT_sm _
  · split
    · intro v hv
      cases a with
      | none => cases hv
      | some x => exact turnO_sm (h x rfl) v hv
    · exact none_sm
theorem doO_sm (op : List UInt8) (a b : Vl) : smO (doO op a b) := by
  intro v hv
  unfold doO at hv
  split at hv
  · injection hv with hv
    subst hv
    unfold doV
    repeat (split; exact Nat.zero_le _)
    exact Nat.zero_le _
  · cases hv
theorem twoK_sm (op : ByteArray) (a b : Option Vl) : smO (twoK op a b) := by
  unfold twoK
  split
  · exact none_sm
  · split
    · cases a with
      | none => exact none_sm
      | some x =>
        cases b with
        | none => exact none_sm
        | some y => exact doO_sm _ _ _
    · exact valT_sm _
theorem nullK_sm (no : Bool) (a : Option Vl) : smO (nullK no a) := by
  cases a with
  | none => exact none_sm
  | some x => exact valT_sm _
theorem evc_sm : ∀ (f : Nat) (t : Tm), shV f t → smO (evT [] [] f t)
  | 0, _, h => absurd h id
  | f + 1, .mk h A n c args, hs => by
    obtain ⟨_, hsz, hsa⟩ := hs
    have ih : ∀ a ∈ args, smO (evT [] [] f a) := fun a ha => evc_sm f a (hsa a ha)
    rw [evT_succ]
    unfold evK
    split
    · intro v hv
      injection hv with hv
      subst hv
      exact hsz
    · split
      · intro v hv
        unfold atR at hv
        split at hv
        · cases hv
        · simp at hv
      · split
        · intro v hv
          unfold atO at hv
          split at hv
          · cases hv
          · simp at hv
        · split
          · match args, ih with
            | [], _ => exact none_sm
            | [a], ih => exact oneK_sm _ (ih a (by simp))
            | _ :: _ :: _, _ => exact none_sm
          · split
            · match args with
              | [] => exact none_sm
              | [_] => exact none_sm
              | [a, b] => exact twoK_sm _ _ _
              | _ :: _ :: _ :: _ => exact none_sm
            · split
              · match args with
                | [] => exact none_sm
                | [a] => exact nullK_sm _ _
                | _ :: _ :: _ => exact none_sm
              · split
                · match args with
                  | [] => exact none_sm
                  | a :: r => exact valT_sm _
                · exact none_sm
theorem fo_sh : ∀ (f : Nat) (t t' : Tm) (w w' : World) (B B' : Nat), Fo f t t' → TmIn w B t → TmIn w' B' t' → shV f t → shV f t'
  | 0, _, _, _, _, _, _, h, _, _, _ => absurd h id
  | f + 1, .mk h A n c args, t', w, w', B, B', hf, hi, hi', hs => by
    rcases hf with ⟨hv, v, he, rfl⟩ | ⟨_, hh, ha⟩
    · exact ⟨by decide, evc_sm _ _ hs v he, by simp⟩
    · have hl := hi.len
      have hl' := hi'.len
      have hargs := hi.args
      have hargs' := hi'.args
      obtain ⟨h', A', n', c', args'⟩ := t'
      simp only [Tm.h, Tm.args, Tm.n] at hh ha hl hl' hargs hargs'
      subst hh
      obtain ⟨hn, hsz, hsa⟩ := hs
      refine ⟨by have := ha.1; omega, hsz, fun b hb => ?_⟩
      obtain ⟨a, ham, hab⟩ := ha.mem hb
      exact fo_sh f a b w w' B B' hab (hargs a ham) (hargs' b hb) (hsa a ham)
theorem litT_in {v : Vl} (hv : v.ok) (w : World) (Q : Nat → Prop) : TmQ w Q (litT v) :=
  .mk _ none 0 0 [] ⟨by show (0 : Int) ≤ 1 ∧ (1 : Int) ≤ 255; decide, Nat.zero_le _, hv, Nat.zero_le _, Nat.zero_le _, by show (-9223372036854775808 : Int) ≤ 0 ∧ (0 : Int) ≤ 9223372036854775807; decide, by show (-9223372036854775808 : Int) ≤ 0 ∧ (0 : Int) ≤ 9223372036854775807; decide⟩ (Nat.le_refl _) (Nat.zero_le _) ⟨by simp [vT], fun h => absurd h (by omega)⟩ (by simp)
end Go.Proofs.Ytilopgfpifhccaa
