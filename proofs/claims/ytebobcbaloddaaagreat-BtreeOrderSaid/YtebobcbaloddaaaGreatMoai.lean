/-
  Dq.
-/
import Derived.Test.YtebobcbaloddaaaGreatMoad
import Derived.Test.YtebobcbaloddaaaGreatProg
import Derived.Laws.MakeOwn
import Derived.WalkSpells
import Derived.WalkLawsBesides
namespace Go.Proofs.YtebobcbaloddaaaGreat
section
set_option linter.unusedSimpArgs false
set_option linter.unusedVariables false
open Go.RowKit
def tL (T : List Bool) : List Value := T.map Value.bool
def tV (T : List Bool) : Array Value := (tL T).toArray
theorem tL_len (T : List Bool) : (tL T).length = T.length := by simp [tL]
theorem tV_size (T : List Bool) : (tV T).size = T.length := by simp [tV, tL_len]
theorem tV_at {T : List Bool} {i : Nat} {x : Bool} (h : T[i]? = some x) : (tV T)[i]? = some (.bool x) := by simp [tV, tL, h]
theorem tV_set (T : List Bool) (i : Nat) (b : Bool) : (tV T).setIfInBounds i (.bool b) = tV (T.set i b) := by simp [tV, tL, List.map_set]
def Full (ps : List (List UInt8)) : Prop := ∀ p ∈ ps, p.length = 512
theorem pflat_len : ∀ ps : List (List UInt8), Full ps → ps.flatten.length = ps.length * 512
 | [], _ => rfl
 | p :: ps, h => by
   have h1 := h p (by simp)
   have h2 := pflat_len ps fun q hq => h q (by simp [hq])
   rw [List.flatten_cons, List.length_append, h1, h2, List.length_cons]; omega
theorem pflat_page : ∀ (ps : List (List UInt8)) (_ : Full ps) (i : Nat) (p : List UInt8), ps[i]? = some p → (ps.flatten.drop (i * 512)).take 512 = p
 | [], _, i, p, hi => by simp at hi
 | q :: ps, h, 0, p, hi => by
   simp only [List.getElem?_cons_zero, Option.some.injEq] at hi
   subst hi
   have h1 := h q (by simp)
   rw [Nat.zero_mul, List.drop_zero, List.flatten_cons, List.take_append_of_le_length (by omega), ← h1, List.take_length]
 | q :: ps, h, i + 1, p, hi => by
   have h1 := h q (by simp)
   rw [List.getElem?_cons_succ] at hi
   rw [List.flatten_cons, List.drop_append, List.drop_of_length_le (by omega), List.nil_append, h1, show (i + 1) * 512 - 512 = i * 512 from by omega]
   exact pflat_page ps (fun q hq => h q (by simp [hq])) i p hi
theorem pflat_set : ∀ (ps : List (List UInt8)) (_ : Full ps) (i : Nat) (r : List UInt8), i < ps.length → r.length = 512 → splice ps.flatten (i * 512) r = (ps.set i r).flatten
 | [], _, i, r, hi, _ => by simp at hi
 | q :: ps, h, 0, r, _, hr => by
   have h1 := h q (by simp)
   unfold splice
   rw [Nat.zero_mul, List.take_zero, List.nil_append, List.set_cons_zero, List.flatten_cons, List.flatten_cons, Nat.zero_add, hr, List.drop_append, List.drop_of_length_le (by omega), h1, Nat.sub_self, List.drop_zero, List.nil_append]
 | q :: ps, h, i + 1, r, hi, hr => by
   have h1 := h q (by simp)
   have ih := pflat_set ps (fun q hq => h q (by simp [hq])) i r (by simpa using hi) hr
   unfold splice at ih ⊢
   rw [List.set_cons_succ, List.flatten_cons, List.flatten_cons, ← ih, List.take_append, List.take_of_length_le (by omega), h1, show (i + 1) * 512 - 512 = i * 512 from by omega, List.append_assoc,
    List.drop_append, List.drop_of_length_le (by omega), List.nil_append, h1, show (i + 1) * 512 + r.length - 512 = i * 512 + r.length from by omega]
theorem full_set {ps : List (List UInt8)} (h : Full ps) (i : Nat) {r : List UInt8} (hr : r.length = 512) : Full (ps.set i r) := by
 intro p hp
 rcases List.mem_or_eq_of_mem_set hp with h1 | h1
 · exact h p h1
 · rw [h1, hr]
def pagesOf (L : List UInt8) (k : Nat) : List (List UInt8) := (List.range k).map fun i => (L.drop (i * 512)).take 512
def mark (L : List UInt8) (i : Nat) : Bool := decide (i = 0) || !decide (L[i * 512]? = some 0)
def marksOf (L : List UInt8) (k : Nat) : List Bool := (List.range k).map (mark L)
theorem pagesOf_succ (L : List UInt8) (k : Nat) : pagesOf L (k + 1) = pagesOf L k ++ [(L.drop (k * 512)).take 512] := by simp [pagesOf, List.range_succ]
theorem pagesOf_len (L : List UInt8) (k : Nat) : (pagesOf L k).length = k := by simp [pagesOf]
theorem marksOf_len (L : List UInt8) (k : Nat) : (marksOf L k).length = k := by simp [marksOf]
theorem pagesOf_full (L : List UInt8) (k : Nat) (h : k * 512 ≤ L.length) : Full (pagesOf L k) := by
 intro p hp
 simp only [pagesOf, List.mem_map, List.mem_range] at hp
 obtain ⟨i, hi, rfl⟩ := hp
 rw [List.length_take, List.length_drop]; omega
theorem flat_step {N : Nat} (L : List UInt8) (k : Nat) : L.take (k * N) ++ (L.drop (k * N)).take N = L.take ((k + 1) * N) := by rw [Nat.succ_mul, List.take_add]
theorem pagesOf_flat (L : List UInt8) (k : Nat) : (pagesOf L k).flatten = L.take (k * 512) := by
 induction k with
 | zero => simp [pagesOf]
 | succ k ih => rw [pagesOf_succ, List.flatten_append, ih, List.flatten_singleton]; exact flat_step L k
theorem pagesOf_all (L : List UInt8) (n : Nat) (h : L.length = n * 512) : (pagesOf L n).flatten = L := by rw [pagesOf_flat L n, List.take_of_length_le (by omega)]
def marksP (L : List UInt8) (n k : Nat) : List Bool := marksOf L k ++ (true :: List.replicate (n - 1) false).drop k
def freeN (T : List Bool) : Nat := (T.filter (! ·)).length
end
end Go.Proofs.YtebobcbaloddaaaGreat
