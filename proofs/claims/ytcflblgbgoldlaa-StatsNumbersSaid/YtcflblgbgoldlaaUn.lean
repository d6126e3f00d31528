/-
  The chapter's example of stats: columns.
-/
import Derived.Test.YtcflblgbgoldlaaUm
set_option linter.unusedSimpArgs false
set_option linter.unusedVariables false
namespace Go.Proofs.Ytcflblgbgoldlaa
open Go.RowKit

@[reducible] def colT : Value := .agg #[.string ⟨#[120]⟩, .int .u8 1, .int .i64 20, .int .i64 0]
@[reducible] def colZ : Value := .agg #[.string ⟨#[]⟩, .int .u8 0, .int .i64 0, .int .i64 0]
@[reducible] def tabZ : Value := .agg #[.string ⟨#[]⟩, .slice none 0 0, .int .u32 0, .int .i64 0, .int .i64 0]
theorem column_lit (gs : Nat) (w : World) : Calls Try.prog 37 #[.pointer (some ⟨gs, 0, none⟩), litT] w (RetB w (.tuple #[colZ, tabZ, .bool false])) := by
  go_enter Try.func37, Try.ntmps37
  go_wp2
  refine bodyPost_ret (v := .tuple #[colZ, tabZ, .bool false]) (by simp [results, Try.results37, go_sem]) rfl ⟨rfl, ?_⟩
  repeat (first | exact Below.refl _ _ | refine ball ?_ _ | refine bdr ?_ _ | refine Below.drew ?_ | refine bset ?_ (by dsimp only <;> (try simp) <;> omega) _)
end Go.Proofs.Ytcflblgbgoldlaa
