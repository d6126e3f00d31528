
/-
  A step's line as the reference writes it (plain).
-/
import Derived.Test.YtblpflobpffjnaaDoorWm
set_option linter.unusedSimpArgs false
set_option linter.unusedVariables false
namespace Go.Proofs.YtblpflobpffjnaaDoor
open Go.RowKit

theorem joinTail_cons (y : List UInt8) (t : List (List UInt8)) : Lib.joinTail [32] (y :: t) = 32 :: y ++ Lib.joinTail [32] t := by simp [Lib.joinTail]
theorem joinTail_app (a b : List (List UInt8)) : Lib.joinTail [32] (a ++ b) = Lib.joinTail [32] a ++ Lib.joinTail [32] b := by simp [Lib.joinTail]
theorem joinTail_nil : Lib.joinTail [32] [] = [] := rfl
theorem join_tail {l : List (List UInt8)} (h : l ≠ []) : Lib.joinTail [32] l = 32 :: Lib.join l [32] := by
  cases l with
  | nil => exact absurd rfl h
  | cons x r => rw [Lib.join_cons, joinTail_cons]; simp
theorem pthL_ne (ixs : List Ix) (x : Sp) : pthL ixs x ≠ [] := by
  unfold pthL
  repeat (split; (simp))
  simp
/-- The words of a step's head, parted by blanks. -/
def headT (M T I : List UInt8) : List UInt8 := M ++ [32] ++ T ++ [35] ++ I ++ [32]
def tailT (m : Int) (Q X P J : List UInt8) : List UInt8 :=
  if m = 2 then Q ++ X ++ [32, 111, 110, 32] ++ J ++ [10] else if m = 3 then Q ++ P ++ ([32, 111, 110, 32]) ++ J ++ [10] else Q ++ P ++ [10]
theorem stepT_eq (tbs : List Tb) (ks : List Int) (ixs : List Ix) (x : Sp) :
    stepT tbs ks ixs x = tailT x.m (headT (mthL x.m) (tabL tbs ks x.tb) (Lib.itoa x.tb)) (idxL ixs x.ix) (Lib.join (pthL ixs x) [32]) (Lib.itoa x.jn) := by
  unfold stepT stepW tailT headT
  generalize mthL x.m = M
  generalize tabL tbs ks x.tb = T
  generalize Lib.itoa x.tb = I
  generalize Lib.itoa x.jn = J
  generalize idxL ixs x.ix = X
  have hp := join_tail (pthL_ne ixs x)
  generalize pthL ixs x = PW at *
  by_cases h2 : x.m = 2
  · rw [if_pos h2, if_pos (.inl h2), if_pos h2]
    simp [Lib.join_cons, joinTail_cons, joinTail_nil]
  · by_cases h3 : x.m = 3
    · rw [if_neg h2, if_pos (.inr h3), if_neg h2, if_pos h3]
      rw [List.append_assoc, List.cons_append, Lib.join_cons, List.cons_append, joinTail_cons, List.nil_append, joinTail_app, hp]
      simp [joinTail_cons, joinTail_nil]
    · rw [if_neg h2, if_neg (fun h => h.elim h2 h3), if_neg h2, if_neg h3]
      rw [List.append_nil, List.cons_append, Lib.join_cons, List.cons_append, joinTail_cons, List.nil_append, hp]
      simp
theorem joinP_len {ixs : List Ix} {x : Sp} (hi : ∀ t ∈ ixs, t.nm.size ≤ 1048576) (hx : x.ok) : (Lib.join (pthL ixs x) [32]).length ≤ 6000000 := by
  have a6 := idxL_len hi x.pi
  have a7 := idxL_len hi x.po
  have a8 := nat_len x.rn hx.rn
  have a9 := nat_len x.an hx.an
  have h1 := join_bound 1048700 (pthL ixs x) (by
    intro s hs
    unfold pthL at hs
    split at hs
    · rw [List.mem_singleton.1 hs]; decide
    · split at hs
      · simp only [List.mem_cons, List.not_mem_nil, or_false] at hs
        rcases hs with rfl | rfl | rfl
        · decide
        · omega
        · omega
      · split at hs
        · simp only [List.mem_cons, List.not_mem_nil, or_false] at hs
          rcases hs with rfl | rfl | rfl
          · decide
          · omega
          · omega
        · split at hs
          · simp only [List.mem_cons, List.not_mem_nil, or_false] at hs
            rcases hs with rfl | rfl | rfl | rfl | rfl
            · decide
            · omega
            · omega
            · omega
            · omega
          · rw [List.mem_singleton.1 hs]; decide)
  have h2 := pthL_len (ixs := ixs) x
  have h3 : (pthL ixs x).length * (1048700 + 1) ≤ 5 * (1048700 + 1) := Nat.mul_le_mul_right _ h2
  omega
end Go.Proofs.YtblpflobpffjnaaDoor
