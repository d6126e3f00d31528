/-
  Tokens of queries: the words, one by one; contract of Word.
-/
import Derived.RangeFuncNested
import Derived.RangeFuncBound
import Derived.RangeFuncCalls
import Derived.RangeFuncLeaves
import Derived.RangeFuncFrom
import Derived.Shelf.Abstract
import Derived.Shelf.RegionOpen
import Derived.WalkKit
import Derived.OwnWalkIn
import Derived.TacticsInMore
import Derived.LoopNIn
import Derived.LoopIn
import Derived.Test.YtbmfojeklhbocaaXa
import Derived.Test.YtbmfojeklhbocaaProg
set_option linter.unusedSimpArgs false
set_option linter.unusedVariables false
namespace Go.Proofs.Ytbmfojeklhbocaa
open Go.RowKit Go.Shelf
attribute [local go_sem] Oper.semAt_some

def wordsS : List ByteArray := [⟨#[65, 78, 68]⟩, ⟨#[65, 83]⟩, ⟨#[65, 83, 67]⟩, ⟨#[66, 69, 84, 87, 69, 69, 78]⟩, ⟨#[66, 89]⟩, ⟨#[67, 79, 85, 78, 84]⟩, ⟨#[68, 69, 83, 67]⟩, ⟨#[68, 73, 83, 84, 73, 78, 67, 84]⟩, ⟨#[70, 65, 76, 83, 69]⟩, ⟨#[70, 82, 79, 77]⟩, ⟨#[71, 82, 79, 85, 80]⟩, ⟨#[73, 78]⟩, ⟨#[73, 83]⟩, ⟨#[76, 73, 77, 73, 84]⟩, ⟨#[77, 65, 88]⟩, ⟨#[77, 73, 78]⟩, ⟨#[78, 79, 84]⟩, ⟨#[78, 85, 76, 76]⟩, ⟨#[79, 82]⟩, ⟨#[79, 82, 68, 69, 82]⟩, ⟨#[83, 69, 76, 69, 67, 84]⟩, ⟨#[83, 85, 77]⟩, ⟨#[84, 82, 85, 69]⟩, ⟨#[87, 72, 69, 82, 69]⟩]
set_option maxRecDepth 100000 in
set_option maxHeartbeats 8000000 in
theorem words_idx (k : Nat) (hk : k < 24) (x : ByteArray) (hx : wordsS[k]? = some x) (W : World) : (Instr.index 76 (.agg #[.string ⟨#[65, 78, 68]⟩, .string ⟨#[65, 83]⟩, .string ⟨#[65, 83, 67]⟩, .string ⟨#[66, 69, 84, 87, 69, 69, 78]⟩, .string ⟨#[66, 89]⟩, .string ⟨#[67, 79, 85, 78, 84]⟩, .string ⟨#[68, 69, 83, 67]⟩, .string ⟨#[68, 73, 83, 84, 73, 78, 67, 84]⟩, .string ⟨#[70, 65, 76, 83, 69]⟩, .string ⟨#[70, 82, 79, 77]⟩, .string ⟨#[71, 82, 79, 85, 80]⟩, .string ⟨#[73, 78]⟩, .string ⟨#[73, 83]⟩, .string ⟨#[76, 73, 77, 73, 84]⟩, .string ⟨#[77, 65, 88]⟩, .string ⟨#[77, 73, 78]⟩, .string ⟨#[78, 79, 84]⟩, .string ⟨#[78, 85, 76, 76]⟩, .string ⟨#[79, 82]⟩, .string ⟨#[79, 82, 68, 69, 82]⟩, .string ⟨#[83, 69, 76, 69, 67, 84]⟩, .string ⟨#[83, 85, 77]⟩, .string ⟨#[84, 82, 85, 69]⟩, .string ⟨#[87, 72, 69, 82, 69]⟩]) (.int .i64 (k : Int))).run Try.prog W = .ok (.string x) W := by
  have hcases : k = 0 ∨ k = 1 ∨ k = 2 ∨ k = 3 ∨ k = 4 ∨ k = 5 ∨ k = 6 ∨ k = 7 ∨ k = 8 ∨ k = 9 ∨ k = 10 ∨ k = 11 ∨ k = 12 ∨ k = 13 ∨ k = 14 ∨ k = 15 ∨ k = 16 ∨ k = 17 ∨ k = 18 ∨ k = 19 ∨ k = 20 ∨ k = 21 ∨ k = 22 ∨ k = 23 := by omega
  rcases hcases with rfl | rfl | rfl | rfl | rfl | rfl | rfl | rfl | rfl | rfl | rfl | rfl | rfl | rfl | rfl | rfl | rfl | rfl | rfl | rfl | rfl | rfl | rfl | rfl
  all_goals
    simp only [wordsS, List.getElem?_cons_zero, List.getElem?_cons_succ, Option.some.injEq] at hx
    subst hx
    simp [Instr.index, run_underlying Try.underlying76, asIntOf, part, sizeOf, go_sem, show Try.t9.size = 1 from rfl]
set_option maxRecDepth 100000 in
set_option maxHeartbeats 8000000 in
theorem words_stops (F : Fence) (n : Nat) (h28 : F.fn 28) (hro : F.round = none) (hn : 1 ≤ n) (n₀ : Nat) (w : World) :
    SeqStopsK F n Try.prog 28 #[] (fun x : ByteArray => #[Value.string x]) (Below n₀) (fun xs => xs = wordsS) (fun pre => pre <+: wordsS) 24 w := fun l J Jx W hW hJ hJx hY h0 => by
  refine callsIn_of_wp Try.func28 rfl h28 ?_ hro
  simp only [Try.ntmps28, List.size_toArray, List.length_cons, List.length_nil, Nat.reduceAdd, Nat.reduceSub, Array.replicate_succ, Array.replicate_zero, List.push_toArray, List.append_toArray, List.nil_append, List.cons_append]
  gi_wp2
  gi_loopw [5] (fun p wr => ∃ k : Nat, k ≤ 24 ∧ p = .int .i64 k ∧ J (wordsS.take k) wr) (fun p _ => 24 - (intOf p).toNat)
  case atStart => exact ⟨0, by omega, rfl, h0⟩
  case round =>
    obtain ⟨k, hk, rfl, hJs⟩ := hrel
    by_cases hlt : k < 24
    · obtain ⟨x, hx⟩ : ∃ x, wordsS[k]? = some x := ⟨_, List.getElem?_eq_getElem (show k < wordsS.length from hlt)⟩
      obtain ⟨fn, tmps, assign, body, hy, hR⟩ := hY (wordsS.take k) x wr hJs (by rw [List.length_take]; show min k 24 < 24; omega)
      have hnext : wordsS.take (k + 1) = wordsS.take k ++ [x] := by rw [List.take_add_one, hx]; rfl
      have Hn := Lib.hid hnext
      clear hnext hJs
      try dsimp only at hy
      have hix := fun W => words_idx k hlt x hx W
      have q0 : (0 : Int) ≤ (k : Int) := by omega
      have q1 : (k : Int) < 24 := by omega
      clear hx
      gi_wp2
      refine hR.mono ?_
      rintro e W3 (⟨rfl, hJ3, hk3⟩ | ⟨rfl, hJx3⟩)
      · gi_wp2
        go_roundw
        case rel => exact ⟨k + 1, by omega, by go_num, by rw [Hn.out]; exact hJ3⟩
        case measure => simp [intOf]; omega
      · gi_wp2
        refine bodyPost_ret (results_none rfl _ _ _) rfl ?_
        exact ⟨⟨_, rfl⟩, .inr ⟨_, by rw [← Hn.out]; exact List.take_prefix _ _, hJx3⟩⟩
    · obtain rfl : k = 24 := by omega
      gi_wp2
      go_end0
      exact ⟨⟨_, rfl⟩, .inl ⟨_, rfl, hJs⟩⟩
end Go.Proofs.Ytbmfojeklhbocaa
