/-
  The chapter's example of stats: its book, where it lies; table, column.
-/
import Derived.Test.YtcflblgbgoldlaaUl
import Derived.Test.YtcflblgbgoldlaaUe
set_option linter.unusedSimpArgs false
set_option linter.unusedVariables false
namespace Go.Proofs.Ytcflblgbgoldlaa
open Go.RowKit

/-- The example's source: its table's block, the places' block, the column's block. -/
structure AtSrc (w : World) (gs gt gn gc : Nat) : Prop where
  hs : gs < w.heap.size
  ht : gt < w.heap.size
  hn : gn < w.heap.size
  hc : gc < w.heap.size
  s0 : w.cell? ⟨gs, 0, none⟩ = some (.slice (some ⟨gt, 0, none⟩) 1 1)
  s1 : w.cell? ⟨gs, 1, none⟩ = some (.slice none 0 0)
  s2 : w.cell? ⟨gs, 2, none⟩ = some (.slice (some ⟨gn, 0, none⟩) 1 1)
  t0 : w.cell? ⟨gt, 0, none⟩ = some (.string ⟨#[116]⟩)
  t1 : w.cell? ⟨gt, 1, none⟩ = some (.slice (some ⟨gc, 0, none⟩) 1 1)
  t2 : w.cell? ⟨gt, 2, none⟩ = some (.int .u32 0)
  t3 : w.cell? ⟨gt, 3, none⟩ = some (.int .i64 100)
  t4 : w.cell? ⟨gt, 4, none⟩ = some (.int .i64 0)
  n0 : w.cell? ⟨gn, 0, none⟩ = some (.int .i64 0)
  c0 : w.cell? ⟨gc, 0, none⟩ = some (.string ⟨#[120]⟩)
  c1 : w.cell? ⟨gc, 1, none⟩ = some (.int .u8 1)
  c2 : w.cell? ⟨gc, 2, none⟩ = some (.int .i64 20)
  c3 : w.cell? ⟨gc, 3, none⟩ = some (.int .i64 0)
theorem AtSrc.below {w w' : World} {gs gt gn gc : Nat} (h : AtSrc w gs gt gn gc) (hb : Below w.heap.size w w') : AtSrc w' gs gt gn gc := by
  obtain ⟨hs, ht, hn, hc, s0, s1, s2, t0, t1, t2, t3, t4, n0, c0, c1, c2, c3⟩ := h
  have k : ∀ g j, g < w.heap.size → w'.cell? ⟨g, j, none⟩ = w.cell? ⟨g, j, none⟩ := fun g j hg => hb.cell (p := ⟨g, j, none⟩) hg
  have hz := hb.size
  exact ⟨by omega, by omega, by omega, by omega, (k _ _ hs).trans s0, (k _ _ hs).trans s1, (k _ _ hs).trans s2, (k _ _ ht).trans t0, (k _ _ ht).trans t1, (k _ _ ht).trans t2, (k _ _ ht).trans t3, (k _ _ ht).trans t4, (k _ _ hn).trans n0, (k _ _ hc).trans c0, (k _ _ hc).trans c1, (k _ _ hc).trans c2, (k _ _ hc).trans c3⟩
@[reducible] def tabT (gc : Nat) : Value := .agg #[.string ⟨#[116]⟩, .slice (some ⟨gc, 0, none⟩) 1 1, .int .u32 0, .int .i64 100, .int .i64 0]
theorem table_any (gs gt gn gc : Nat) (w : World) (h : AtSrc w gs gt gn gc) : Calls Try.prog 16 #[.pointer (some ⟨gs, 0, none⟩), .int .i64 0] w (RetB w (.tuple #[tabT gc, .bool true])) := by
  obtain ⟨hs, ht, hn, hc, s0, s1, s2, t0, t1, t2, t3, t4, n0, c0, c1, c2, c3⟩ := h
  go_enter Try.func16, Try.ntmps16
  go_wp2
  refine bodyPost_ret (v := .tuple #[tabT gc, .bool true]) (by simp [results, Try.results16, go_sem]) rfl ⟨rfl, ?_⟩
  repeat (first | exact Below.refl _ _ | refine ball ?_ _ | refine bdr ?_ _ | refine Below.drew ?_ | refine bset ?_ (by dsimp only <;> omega) _)
end Go.Proofs.Ytcflblgbgoldlaa
