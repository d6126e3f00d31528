/-
  Be.
-/
import Derived.Test.YtebobcbaloddaaaGreatMoak
import Derived.Laws.BitsAllLaws
namespace Go.Proofs.YtebobcbaloddaaaGreat
section
set_option linter.unusedSimpArgs false
set_option linter.unusedVariables false
open Go.RowKit
def beVal (l : List UInt8) : Nat := l.foldl (fun u x => 256 * u + x.toNat) 0
theorem snoc_ind {α : Type} {P : List α → Prop} (h0 : P []) (h1 : ∀ r x, P r → P (r ++ [x])) (l : List α) : P l := by
 have key : ∀ (m : List α), P m.reverse := by
  intro m
  induction m with
  | nil => exact h0
  | cons x r ih => rw [List.reverse_cons]; exact h1 _ _ ih
 have := key l.reverse
 rwa [List.reverse_reverse] at this
theorem beVal_snoc (l : List UInt8) (x : UInt8) : beVal (l ++ [x]) = 256 * beVal l + x.toNat := by simp [beVal, List.foldl_append]
theorem beVal_be : ∀ n u, beVal (be n u) = u % 256 ^ n
 | 0, u => by simp [be, beVal, Nat.mod_one]
 | n + 1, u => by
   rw [be, beVal_snoc, beVal_be n (u / 256), Nat.pow_succ, Nat.mul_comm (256 ^ n) 256, Nat.mod_mul]
   simp
   omega
theorem beVal_lt : ∀ l : List UInt8, beVal l < 256 ^ l.length := by
 intro l
 refine snoc_ind (P := fun l => beVal l < 256 ^ l.length) (by simp [beVal]) (fun r x ih => ?_) l
 · rw [beVal_snoc, List.length_append, List.length_singleton, Nat.pow_succ]
   have := x.toNat_lt
   omega
theorem be_beVal (l : List UInt8) : be l.length (beVal l) = l := by
 refine snoc_ind (P := fun l => be l.length (beVal l) = l) rfl (fun r x ih => ?_) l
 · rw [List.length_append, List.length_singleton, be, beVal_snoc]
   have h1 : (256 * beVal r + x.toNat) / 256 = beVal r := by have := x.toNat_lt; omega
   rw [h1, ih]
   congr 2
   apply UInt8.toNat_inj.1
   have := x.toNat_lt
   simp
theorem beVal_take {l : List UInt8} {j : Nat} {b : UInt8} (h : l[j]? = some b) : beVal (l.take (j + 1)) = 256 * beVal (l.take j) + b.toNat := by
 rw [List.take_add_one, h]; exact beVal_snoc _ _
theorem beVal_lt_of {l : List UInt8} {n : Nat} (h : l.length ≤ n) : beVal l < 256 ^ n := Nat.lt_of_lt_of_le (beVal_lt l) (Nat.pow_le_pow_right (by omega) h)
theorem or_nat (U : Nat) (b : UInt8) : 256 * U ||| b.toNat = 256 * U + b.toNat := by
 have hb := b.toNat_lt
 rw [show (256 : Nat) = 2 ^ 8 from rfl]
 exact (Nat.two_pow_add_eq_or_of_lt (i := 8) (b := b.toNat) (by omega) U).symm
theorem or_u16 (x b : UInt8) : bits .or .u16 ((x.toNat : Int) * 256) (b.toNat : Int) = ((256 * x.toNat + b.toNat : Nat) : Int) := by
 have hb := b.toNat_lt
 have hx := x.toNat_lt
 have h1 : (x.toNat : Int) * 256 = ((256 * x.toNat : Nat) : Int) := by omega
 rw [h1]
 show IntKind.u16.wrap ((BitVec.ofInt 16 ((256 * x.toNat : Nat) : Int) ||| BitVec.ofInt 16 (b.toNat : Int)).toNat : Int) = _
 have e1 : (BitVec.ofInt 16 ((256 * x.toNat : Nat) : Int)).toNat = 256 * x.toNat := by rw [BitVec.toNat_ofInt]; omega
 have e2 : (BitVec.ofInt 16 (b.toNat : Int)).toNat = b.toNat := by rw [BitVec.toNat_ofInt]; omega
 rw [BitVec.toNat_or, e1, e2, or_nat]
 simp [IntKind.wrap, IntKind.bits, IntKind.signed]; omega
theorem or_u32 (U : Nat) (b : UInt8) (hU : U < 16777216) : bits .or .u32 (IntKind.u32.wrap ((U : Int) * 256)) (b.toNat : Int) = ((256 * U + b.toNat : Nat) : Int) := by
 have hb := b.toNat_lt
 have h1 : IntKind.u32.wrap ((U : Int) * 256) = ((256 * U : Nat) : Int) := by simp [IntKind.wrap, IntKind.bits, IntKind.signed]; omega
 rw [h1]
 show IntKind.u32.wrap ((BitVec.ofInt 32 ((256 * U : Nat) : Int) ||| BitVec.ofInt 32 (b.toNat : Int)).toNat : Int) = _
 have e1 : (BitVec.ofInt 32 ((256 * U : Nat) : Int)).toNat = 256 * U := by rw [BitVec.toNat_ofInt]; omega
 have e2 : (BitVec.ofInt 32 (b.toNat : Int)).toNat = b.toNat := by rw [BitVec.toNat_ofInt]; omega
 rw [BitVec.toNat_or, e1, e2, or_nat]
 simp [IntKind.wrap, IntKind.bits, IntKind.signed]; omega
end
end Go.Proofs.YtebobcbaloddaaaGreat
