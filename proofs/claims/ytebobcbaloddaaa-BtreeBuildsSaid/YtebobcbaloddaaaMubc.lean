/-
  Several texts in one: Sa Sb Sc Sd.
-/
import Derived.Test.YtebobcbaloddaaaMubb
import Derived.Test.YtebobcbaloddaaaMuaq
import Derived.Test.YtebobcbaloddaaaMuab
import Derived.Test.YtebobcbaloddaaaMuak
import Derived.Deep.QuietTactic
import Derived.IntWalk
import Derived.WalkSpells
/-
  Slots of a heap page: numbers of two bytes, where a slot stands; the library's ContainsFunc, Clone.
-/
namespace Go.Proofs.Ytebobcbaloddaaa
section
set_option linter.unusedSimpArgs false
set_option linter.unusedVariables false
open Go.RowKit

/-- A number of two bytes that stands somewhere. -/
def two (l : List UInt8) (i : Nat) : Nat := 256 * (l.getD i 0).toNat + (l.getD (i + 1) 0).toNat
theorem two_lt (l : List UInt8) (i : Nat) : two l i < 65536 := by
  unfold two
  have := (l.getD i 0).toNat_lt
  have := (l.getD (i + 1) 0).toNat_lt
  omega
theorem or_i64 (x b : UInt8) : bits .or .i64 ((x.toNat : Int) * 256) (b.toNat : Int) = ((256 * x.toNat + b.toNat : Nat) : Int) := by
  have hb := b.toNat_lt
  have hx := x.toNat_lt
  have h1 : (x.toNat : Int) * 256 = ((256 * x.toNat : Nat) : Int) := by omega
  rw [h1]
  show IntKind.i64.wrap ((BitVec.ofInt 64 ((256 * x.toNat : Nat) : Int) ||| BitVec.ofInt 64 (b.toNat : Int)).toNat : Int) = _
  have e1 : (BitVec.ofInt 64 ((256 * x.toNat : Nat) : Int)).toNat = 256 * x.toNat := by rw [BitVec.toNat_ofInt]; omega
  have e2 : (BitVec.ofInt 64 (b.toNat : Int)).toNat = b.toNat := by rw [BitVec.toNat_ofInt]; omega
  rw [BitVec.toNat_or, e1, e2, or_nat]
  simp [IntKind.wrap, IntKind.bits, IntKind.signed]; omega
end
end Go.Proofs.Ytebobcbaloddaaa
/-
  Slots of a heap page: the library's ContainsFunc over bytes that are not 0.
-/
namespace Go.Proofs.Ytebobcbaloddaaa
section
set_option linter.unusedSimpArgs false
set_option linter.unusedVariables false
open Go.RowKit
end
end Go.Proofs.Ytebobcbaloddaaa
/-
  Slots of a heap page: where its records stand (places).
-/
namespace Go.Proofs.Ytebobcbaloddaaa
section
set_option linter.unusedSimpArgs false
set_option linter.unusedVariables false
open Go.RowKit

/-- Where the bytes of the first i records begin, if they stand as they must. -/
def endK (l : List UInt8) : Nat → Option Nat
  | 0 => some 512
  | i + 1 => (endK l i).bind fun e => if two l (8 + 4 * i + 2) ≠ 0 ∧ two l (8 + 4 * i) + two l (8 + 4 * i + 2) = e then some (two l (8 + 4 * i)) else none
theorem endK_le (l : List UInt8) : ∀ i e, endK l i = some e → e ≤ 512
  | 0, e, h => by injection h with h; omega
  | i + 1, e, h => by
    rw [endK] at h
    rcases hk : endK l i with _ | e'
    · rw [hk] at h; cases h
    · rw [hk, Option.bind_some] at h
      have := endK_le l i e' hk
      split at h
      · rename_i hc
        injection h with h
        omega
      · cases h
theorem endK_none (l : List UInt8) (i : Nat) (h : endK l i = none) : ∀ j, i ≤ j → endK l j = none := by
  intro j hj
  induction j with
  | zero => have : i = 0 := by omega
            subst this; exact h
  | succ j ih =>
    by_cases e : i = j + 1
    · subst e; exact h
    · rw [endK, ih (by omega)]; rfl
def pageEnd (l : List UInt8) : Bool := match endK l (hdC l) with
  | none => false
  | some e => decide (8 + 4 * hdC l ≤ e) && allZ ((l.drop (8 + 4 * hdC l)).take (e - (8 + 4 * hdC l)))
/-- Bytes that are a heap page. -/
def isPage (l : List UInt8) : Bool := hdOk l && (hdK l == 1 && (decide (8 + 4 * hdC l ≤ 512) && pageEnd l))
def plc (l : List UInt8) (i : Nat) : List Value := [.int .i64 (two l (8 + 4 * i) : Nat), .int .i64 (two l (8 + 4 * i + 2) : Nat)]
def plV (l : List UInt8) (m : Nat) : List Value := (List.range m).flatMap (plc l)
theorem plV_succ (l : List UInt8) (m : Nat) : plV l (m + 1) = plV l m ++ plc l m := by simp [plV, List.range_succ]
theorem plV_len (l : List UInt8) (m : Nat) : (plV l m).length = m * 2 := by
  induction m with
  | zero => rfl
  | succ m ih => rw [plV_succ, List.length_append, ih]; simp [plc]; omega
/-- The places while they are laid. -/
def plP (l : List UInt8) (c i : Nat) : Array Value := (plV l i ++ List.replicate ((c - i) * 2) (Value.int .i64 0)).toArray
theorem plP_zero (l : List UInt8) (c : Nat) : madeCells #[.int .i64 0, .int .i64 0] (c * 2) = plP l c 0 := by
  unfold plP
  apply Array.ext
  · simp [size_madeCells, plV]
  · intro j h1 h2
    have : j % 2 = 0 ∨ j % 2 = 1 := by omega
    rcases this with h | h <;> simp [madeCells, plV, h]
theorem plP_at (l : List UInt8) (c i j : Nat) (h : i < c) (hj : j < 2) : (plP l c i)[i * 2 + j]? = some (.int .i64 0) := by
  unfold plP
  rw [List.getElem?_toArray, List.getElem?_append_right (by rw [plV_len]; omega), plV_len, List.getElem?_replicate, if_pos (by omega)]
theorem plP_set (l : List UInt8) (c i : Nat) (h : i < c) : ((plP l c i).setIfInBounds (i * 2) (.int .i64 (two l (8 + 4 * i) : Nat))).setIfInBounds (i * 2 + 1) (.int .i64 (two l (8 + 4 * i + 2) : Nat)) = plP l c (i + 1) := by
  unfold plP
  have e : (c - i) * 2 = (c - (i + 1)) * 2 + 1 + 1 := by omega
  rw [e, List.replicate_succ, List.replicate_succ, List.setIfInBounds_toArray, List.setIfInBounds_toArray, List.set_append_right _ _ (by rw [plV_len]; omega), plV_len, Nat.sub_self, List.set_cons_zero,
    List.set_append_right _ _ (by rw [plV_len]; omega), plV_len, show i * 2 + 1 - i * 2 = 0 + 1 from by omega, List.set_cons_succ, List.set_cons_zero, plV_succ, List.append_assoc]
  rfl
theorem plP_get (l : List UInt8) (c i : Nat) : (plP l c (i + 1))[i * 2]? = some (.int .i64 (two l (8 + 4 * i) : Nat)) := by
  unfold plP
  rw [List.getElem?_toArray, plV_succ, List.append_assoc, List.getElem?_append_right (by rw [plV_len]; omega), plV_len, Nat.sub_self]
  rfl
theorem plP_end (l : List UInt8) (c : Nat) : (plP l c c).toList = plV l c := by simp [plP]

/-- What places leaves. -/
def RetPl (w : World) (l : List UInt8) (e : Ending) (w' : World) : Prop :=
  ∃ Ap m cp, e = .returned (.tuple #[.slice Ap m cp, .bool (isPage l)]) ∧ m = (if isPage l then hdC l else 0) ∧ Reads w' w'.heap.size 2 Ap m (plV l m) ∧ m ≤ cp ∧ Below w.heap.size w w'
theorem RetPl.no {w w' : World} {l : List UInt8} (h : isPage l = false) (hb : Below w.heap.size w w') : RetPl w l (.returned (.tuple #[.slice none 0 0, .bool false])) w' :=
  ⟨none, 0, 0, by rw [h], by rw [h]; rfl, Reads.none_, by omega, hb⟩
end
end Go.Proofs.Ytebobcbaloddaaa
/-
  Slots of a heap page: May, Count, free, room, Room; Clone, record.
-/
namespace Go.Proofs.Ytebobcbaloddaaa
section
set_option linter.unusedSimpArgs false
set_option linter.unusedVariables false
open Go.RowKit

def pE (l : List UInt8) : Nat := (endK l (hdC l)).getD 0
def pC (l : List UInt8) : Nat := if isPage l then hdC l else 0
def pRoom (l : List UInt8) : Nat := if isPage l then pE l - (12 + 4 * hdC l) else 0
theorem page_end {l : List UInt8} (h : isPage l = true) : endK l (hdC l) = some (pE l) ∧ hdC l ≤ 126 ∧ 8 + 4 * hdC l ≤ pE l ∧ pE l ≤ 512 ∧ l.length = 512 := by
  unfold isPage at h
  simp only [Bool.and_eq_true, decide_eq_true_eq] at h
  obtain ⟨h1, h2, h3, h4⟩ := h
  unfold pageEnd at h4
  unfold pE
  rcases he : endK l (hdC l) with _ | e
  · rw [he] at h4; cases h4
  · rw [he] at h4
    simp only [Bool.and_eq_true, decide_eq_true_eq] at h4
    have := endK_le l _ e he
    unfold hdOk at h1
    simp at h1
    exact ⟨rfl, by omega, h4.1, this, h1.1⟩
section
variable {w : World} {A : Option Addr} {n c B : Nat} {l : List UInt8}
theorem Reads.plc {Ap : Option Addr} {m k : Nat} (hr : Reads w B 2 Ap m (plV l m)) (hk : k < m) : ∃ ad, Ap = some ad ∧ ad.block < B ∧ w.cell? (ad.add (k * 2)) = some (.int .i64 (two l (8 + 4 * k) : Nat)) ∧ w.cell? ⟨(ad.add (k * 2)).block, (ad.add (k * 2)).off + 1, none⟩ = some (.int .i64 (two l (8 + 4 * k + 2) : Nat)) := by
  obtain ⟨ad, hA, hb, hc⟩ := hr.2 (by omega)
  have hv : ∀ j, j < 2 → (plV l m)[k * 2 + j]? = (Go.Proofs.Ytebobcbaloddaaa.plc l k)[j]? := by
    intro j hj
    refine flat_at (Go.Proofs.Ytebobcbaloddaaa.plc l) 2 (List.range m) k k j (fun _ _ => rfl) ?_ hj
    rw [List.getElem?_range hk]
  refine ⟨ad, hA, hb, ?_, ?_⟩
  · have := hc (k * 2 + 0) _ (by rw [hv 0 (by omega)]; rfl)
    simpa using this
  · rw [field_add _ _ _ (by omega)]
    exact hc (k * 2 + 1) _ (by rw [hv 1 (by omega)]; rfl)
/-- What Clone leaves. -/
def RetCl (w : World) (l : List UInt8) (e : Ending) (w' : World) : Prop := ∃ A c, e = .returned (.slice A l.length c) ∧ Own w' w.heap.size (.slice A l.length c) l ∧ l.length ≤ c ∧ Below w.heap.size w w'
theorem clone_any (hr : Reads w B 1 A n (bL l)) (hB : B ≤ w.heap.size) (hn : n ≤ 1000000) : Calls Try.prog 68 #[.slice A n c] w (RetCl w l) := by
  have hl := hr.bytes_len
  have nl := fun W => Lib.run_eql_slice_nil (P := Try.prog) W 50 5 A n c 0 0 Try.underlying50
  rcases A with _ | ad
  · have h0 : n = 0 := by
      rcases Nat.eq_zero_or_pos n with h0 | h0
      · exact h0
      · obtain ⟨ad, h, _⟩ := hr.2 h0; cases h
    subst h0
    have : l = [] := List.eq_nil_of_length_eq_zero hl
    subst this
    clear hr
    go_enter Try.func68, Try.ntmps68
    go_wp2
    go_ret
    exact ⟨none, 0, rfl, Own.nil _ _, Nat.le_refl _, Below.refl _ _⟩
  · have own0 := Own.empty w (g := w.heap.size) rfl
    have hr0 := hr.alloc hB (.cells #[] 5)
    have hz0 : w.heap.size ≤ (w.alloc (.cells #[] 5)).heap.size := by simp
    have Hl := Lib.hid hl; clear hl
    clear hr
    go_enter Try.func68, Try.ntmps68
    go_wp2_with (at_builtin; refine wpList_appR rfl _ _ rfl w.heap.size _ [] l (some ad) n c B rfl own0 rfl hr0 (by rw [Hl.out]; simp; omega) hz0 ?_; intro v1 w1 own1 kp1; rw [List.nil_append] at own1; obtain ⟨A1, c1, rfl, hc1⟩ := own1.form)
    have hb1 := kp1.below w.heap.size w (Nat.le_refl _) (ball (Below.refl _ _) _)
    clear own0 hr0 hz0 kp1
    go_ret
    exact ⟨A1, c1, rfl, own1, hc1, hb1⟩
end
end
end Go.Proofs.Ytebobcbaloddaaa
