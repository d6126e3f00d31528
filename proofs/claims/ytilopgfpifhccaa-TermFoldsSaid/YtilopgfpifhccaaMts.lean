/-
  Several texts in one: Nl.
-/
import Derived.Test.YtilopgfpifhccaaMtp
import Derived.Test.YtilopgfpifhccaaMtq
import Derived.Test.YtilopgfpifhccaaMtr
/-
  Contracts of an operation of two values: the reference's, all kinds.
-/
namespace Go.Proofs.Ytilopgfpifhccaa
section
set_option linter.unusedSimpArgs false
set_option linter.unusedVariables false
open Go.RowKit

theorem rdo_any (op : ByteArray) (a b : Vl) (ha : a.ok) (hb : b.ok) (w : World) :
    Calls Try.prog 44 #[.string op, a.agg, b.agg] w (RetB w (.tuple #[(doV op.toList a b).1.agg, .bool (doV op.toList a b).2])) := by
  obtain ⟨k, i, s⟩ := a
  obtain ⟨k', j, t⟩ := b
  obtain ⟨ak, ai, as'⟩ := ha
  obtain ⟨bk, bi, bs'⟩ := hb
  simp only at ak ai bk bi
  obtain ⟨ak0, ak1⟩ := ak
  obtain ⟨bk0, bk1⟩ := bk
  have hk : k = 0 ∨ k = 1 ∨ 1 < k := by omega
  have hk' : k' = 0 ∨ k' = 1 ∨ 1 < k' := by omega
  by_cases hb : 1 < k ∨ 1 < k'
  · have O1 := Lib.hid fun W => of_any i W ai.1 ai.2
    have O2 := Lib.hid fun W => of_any j W bi.1 bi.2
    unfold doV
    simp only [Vl.agg]
    rw [if_pos hb]
    clear ai bi as' bs'
    rcases hk with rfl | rfl | hk
    rotate_left 2
    · go_enter Try.func44, Try.ntmps44
      go_wp2
      refine bodyPost_ret (v := .tuple #[.agg #[.int .u8 0, .int .i64 0, .string ⟨#[]⟩], .bool false]) (by simp [results, Try.results44, go_sem, zV, Vl.agg, *]) rfl ⟨rfl, ?_⟩; (with_reducible (repeat (first | (refine bset ?_ (by dsimp only <;> omega) _)  | exact Below.refl _ _ | refine ball ?_ _ | refine Below.drew ?_ | refine bdr ?_ _)))
    all_goals
      have hk2 : 1 < k' := by omega
      clear hb hk'
      go_enter Try.func44, Try.ntmps44
      go_wp2
      refine bodyPost_ret (v := .tuple #[.agg #[.int .u8 0, .int .i64 0, .string ⟨#[]⟩], .bool false]) (by simp [results, Try.results44, go_sem, zV, Vl.agg, *]) rfl ⟨rfl, ?_⟩; (with_reducible (repeat (first | (refine bset ?_ (by dsimp only <;> omega) _)  | exact Below.refl _ _ | refine ball ?_ _ | refine Below.drew ?_ | refine bdr ?_ _)))
  · rcases hk with rfl | rfl | hk
    rotate_left 2
    · exact absurd (.inl hk) hb
    all_goals rcases hk' with rfl | rfl | hk'
    · rw [show doV op.toList ⟨0, i, s⟩ ⟨0, j, t⟩ = (zV, opIs op.toList) by simp [doV]]
      exact rdo_00 op i j s t ai bi w
    · rw [show doV op.toList ⟨0, i, s⟩ ⟨1, j, t⟩ = (zV, opIs op.toList) by simp [doV]]
      exact rdo_01 op i j s t ai bi w
    · exact absurd (.inr hk') hb
    · rw [show doV op.toList ⟨1, i, s⟩ ⟨0, j, t⟩ = (zV, opIs op.toList) by simp [doV]]
      exact rdo_10 op i j s t ai bi w
    · rw [show doV op.toList ⟨1, i, s⟩ ⟨1, j, t⟩ = ((if opQ op.toList i j = true then (⟨1, opN op.toList i j, ⟨#[]⟩⟩ : Vl) else zV), opQ op.toList i j) by cases h : opQ op.toList i j <;> simp [doV, h]]
      exact rdo_11 op i j s t ai bi w
    · exact absurd (.inr hk') hb
end
end Go.Proofs.Ytilopgfpifhccaa
