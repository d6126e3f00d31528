/-
  Yb Cy.
-/
import Derived.Test.YtebobcbaloddaaaGreatMoac
import Derived.Test.YtebobcbaloddaaaGreatShelf
import Derived.IntWalk
namespace Go.Proofs.YtebobcbaloddaaaGreat
section
set_option linter.unusedSimpArgs false
set_option linter.unusedVariables false
open Go.RowKit
def cmpI (x y : Int) : Int := if x < y then -1 else if y < x then 1 else 0
def bl : List UInt8 → List UInt8 → Bool
 | _, [] => false
 | [], _ :: _ => true
 | x :: xs, y :: ys => if x = y then bl xs ys else decide (x < y)
theorem bl_cmp : ∀ (a b : List UInt8), bl a b = decide (Lib.compareBytes a b < 0)
 | [], [] => rfl
 | [], _ :: _ => rfl
 | _ :: _, [] => rfl
 | x :: xs, y :: ys => by
   unfold bl Lib.compareBytes
   have ih := bl_cmp xs ys
   by_cases h : x = y
   · subst h
     rw [if_pos rfl, if_neg (UInt8.lt_irrefl x), if_neg (UInt8.lt_irrefl x)]
     exact ih
   · rw [if_neg h]
     by_cases h1 : x < y
     · rw [if_pos h1]; simp [h1]
     · have h2 : y < x := by
        rw [UInt8.lt_iff_toNat_lt] at h1 ⊢
        have : x.toNat ≠ y.toNat := fun e => h (UInt8.toNat_inj.1 e)
        omega
       rw [if_neg h1, if_pos h2]; simp [h1]
theorem cb_swap : ∀ (a b : List UInt8), Lib.compareBytes b a = - Lib.compareBytes a b
 | [], [] => rfl
 | [], _ :: _ => rfl
 | _ :: _, [] => rfl
 | x :: xs, y :: ys => by
   unfold Lib.compareBytes
   have ih := cb_swap xs ys
   by_cases h1 : x < y
   · have h2 : ¬ y < x := by rw [UInt8.lt_iff_toNat_lt] at h1 ⊢; omega
     rw [if_neg h2, if_pos h1, if_pos h1]; rfl
   · by_cases h2 : y < x
     · rw [if_pos h2, if_neg h1, if_pos h2]
     · rw [if_neg h2, if_neg h1, if_neg h1, if_neg h2]; exact ih
theorem cmpI_swap (x y : Int) : cmpI y x = - cmpI x y := by unfold cmpI; split <;> split <;> omega
theorem cmpI_lt (x y : Int) : decide (cmpI x y < 0) = decide (x < y) := by unfold cmpI; split <;> (try split) <;> simp <;> omega
theorem cb_trans : ∀ (a b c : List UInt8), Lib.compareBytes a b ≤ 0 → Lib.compareBytes b c ≤ 0 → Lib.compareBytes a c ≤ 0 ∧ (Lib.compareBytes a c = 0 → Lib.compareBytes a b = 0 ∧ Lib.compareBytes b c = 0)
 | [], [], [] => by decide
 | [], [], _ :: _ => by simp [Lib.compareBytes]
 | [], _ :: _, [] => by simp [Lib.compareBytes]
 | [], _ :: _, _ :: _ => by simp [Lib.compareBytes]
 | _ :: _, [], _ => by intro h; simp [Lib.compareBytes] at h
 | _ :: _, _ :: _, [] => by intro _ h; simp [Lib.compareBytes] at h
 | x :: xs, y :: ys, z :: zs => by
   have ih := cb_trans xs ys zs
   unfold Lib.compareBytes
   simp only [UInt8.lt_iff_toNat_lt]
   by_cases h1 : x.toNat < y.toNat <;> by_cases h2 : y.toNat < z.toNat <;> by_cases h3 : y.toNat < x.toNat <;> by_cases h4 : z.toNat < y.toNat <;> by_cases h5 : x.toNat < z.toNat <;> by_cases h6 : z.toNat < x.toNat <;> first | (exfalso; omega) | simp [h1, h2, h3, h4, h5, h6] <;> first | exact ih | omega
theorem cmpI_trans (x y z : Int) (h1 : cmpI x y ≤ 0) (h2 : cmpI y z ≤ 0) : cmpI x z ≤ 0 ∧ (cmpI x z = 0 → cmpI x y = 0 ∧ cmpI y z = 0) := by
 unfold cmpI at *
 repeat' split at *
 all_goals omega
theorem cmpI_zero (x y : Int) : cmpI x y = 0 ↔ x = y := by unfold cmpI; split <;> (try split) <;> omega
abbrev cb := Lib.compareBytes
theorem cb_cons (x y : UInt8) (a b : List UInt8) : cb (x :: a) (y :: b) = if x < y then -1 else if y < x then 1 else cb a b := rfl
theorem cb_same (x : UInt8) (a b : List UInt8) : cb (x :: a) (x :: b) = cb a b := by
 rw [cb_cons, if_neg (UInt8.lt_irrefl x), if_neg (UInt8.lt_irrefl x)]
theorem cb_self : ∀ a : List UInt8, cb a a = 0
 | [] => rfl
 | x :: a => by rw [cb_same]; exact cb_self a
theorem cb_zero : ∀ {a b : List UInt8}, cb a b = 0 → a = b
 | [], [], _ => rfl
 | [], _ :: _, h => by cases h
 | _ :: _, [], h => by cases h
 | x :: a, y :: b, h => by
   rw [cb_cons] at h
   split at h
   · cases h
   · split at h
     · cases h
     · rename_i h1 h2
       have : x = y := by
        rw [UInt8.lt_iff_toNat_lt] at h1 h2
        exact UInt8.toNat_inj.1 (by omega)
       rw [this, cb_zero h]
theorem less_bl : ∀ a b : List UInt8, Op.bytesLess a b = bl a b
 | [], [] => rfl
 | [], _ :: _ => rfl
 | _ :: _, [] => rfl
 | x :: a, y :: b => by
   have ih := less_bl a b
   rw [show bl (x :: a) (y :: b) = if x = y then bl a b else decide (x < y) from rfl]
   unfold Op.bytesLess
   rw [ih]
   by_cases h : x = y
   · subst h; simp [UInt8.lt_irrefl]
   · rw [if_neg h]; simp [h]
def orL : List Int → Int
 | [] => 0
 | x :: l => if x = 0 then orL l else x
def cmpE (a b : En) : Int := orL [cb a.s.data.toList b.s.data.toList, cmpI a.p b.p, cmpI a.q b.q]
def lessE (a b : En) : Bool := if a.s.toList == b.s.toList then (if a.p = b.p then decide (a.q < b.q) else decide (a.p < b.p)) else Op.bytesLess a.s.toList b.s.toList
theorem orL3 (x y z : Int) : orL [x, y, z] = if x = 0 then (if y = 0 then z else y) else x := by
 simp only [orL]
 split
 · split
   · split <;> simp_all
   · rfl
 · rfl
theorem cmpE_swap (a b : En) : cmpE b a = - cmpE a b := by
 unfold cmpE
 rw [orL3, orL3, show cb b.s.data.toList a.s.data.toList = -cb a.s.data.toList b.s.data.toList from cb_swap _ _, cmpI_swap a.p b.p, cmpI_swap a.q b.q]
 generalize cb a.s.data.toList b.s.data.toList = x
 generalize cmpI a.p b.p = y
 generalize cmpI a.q b.q = z
 by_cases hx : x = 0 <;> by_cases hy : y = 0 <;> simp [hx, hy]
theorem cmpE_trans (a b c : En) (h1 : cmpE a b ≤ 0) (h2 : cmpE b c ≤ 0) : cmpE a c ≤ 0 := by
 unfold cmpE at *
 rw [orL3] at *
 have t1 := cb_trans a.s.data.toList b.s.data.toList c.s.data.toList
 have t2 := cmpI_trans a.p b.p c.p
 have t3 := cmpI_trans a.q b.q c.q
 have z1 : cb a.s.data.toList b.s.data.toList = 0 → cb b.s.data.toList c.s.data.toList = 0 → cb a.s.data.toList c.s.data.toList = 0 := fun e f => by rw [cb_zero e, cb_zero f]; exact cb_self _
 have z2 := cmpI_zero a.p b.p
 have z3 := cmpI_zero b.p c.p
 have z4 := cmpI_zero a.p c.p
 simp only [cb] at *
 generalize Lib.compareBytes a.s.data.toList b.s.data.toList = x1 at *
 generalize Lib.compareBytes b.s.data.toList c.s.data.toList = x2 at *
 generalize Lib.compareBytes a.s.data.toList c.s.data.toList = x3 at *
 generalize cmpI a.p b.p = y1 at *
 generalize cmpI b.p c.p = y2 at *
 generalize cmpI a.p c.p = y3 at *
 by_cases e1 : x1 = 0 <;> by_cases e2 : x2 = 0 <;> by_cases e3 : x3 = 0 <;> by_cases f1 : y1 = 0 <;> by_cases f2 : y2 = 0 <;> by_cases f3 : y3 = 0 <;> simp only [e1, e2, e3, f1, f2, f3, if_true, if_false] at h1 h2 ⊢ <;> omega
theorem lessE_cmp (a b : En) : lessE a b = decide (cmpE a b < 0) := by
 unfold lessE cmpE
 rw [orL3, less_bl, bl_cmp]
 have e : (a.s.toList == b.s.toList) = decide (cb a.s.data.toList b.s.data.toList = 0) := by
  rw [ByteArray.toList_eq, ByteArray.toList_eq, Bool.eq_iff_iff, beq_iff_eq, decide_eq_true_iff]
  exact ⟨fun h => by rw [h]; exact cb_self _, cb_zero⟩
 rw [e, ByteArray.toList_eq, ByteArray.toList_eq]
 have z2 := cmpI_zero a.p b.p
 have l2 := cmpI_lt a.p b.p
 have l3 := cmpI_lt a.q b.q
 by_cases h : cb a.s.data.toList b.s.data.toList = 0
 · simp only [h, decide_true, if_true]
   by_cases hp : a.p = b.p
   · rw [if_pos hp, if_pos (z2.2 hp), l3]
   · rw [if_neg hp, if_neg (fun x => hp (z2.1 x)), l2]
 · simp only [h, decide_false, if_false]
   rfl
end
end Go.Proofs.YtebobcbaloddaaaGreat
namespace Go.Proofs.YtebobcbaloddaaaGreat
section
set_option linter.unusedSimpArgs false
set_option linter.unusedVariables false
open Go.RowKit
def chN (l : List En) (x : En) : Nat := l.countP fun s => decide (cmpE s x ≤ 0)
end
end Go.Proofs.YtebobcbaloddaaaGreat
