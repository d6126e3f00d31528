/-
  The chapter's example of stats: the share of the whole term.
-/
import Derived.Test.YtcflblgbgoldlaaUo
set_option linter.unusedSimpArgs false
set_option linter.unusedVariables false
namespace Go.Proofs.Ytcflblgbgoldlaa
open Go.RowKit

/-- The example's terms, where they lie: the field, then the literal. -/
def AtTwo (w : World) (g : Nat) : Prop := AtFld w g ∧ w.cell? ⟨g, 11, none⟩ = some (.int .u8 1) ∧ w.cell? ⟨g, 12, none⟩ = some (.string ⟨#[]⟩) ∧ w.cell? ⟨g, 13, none⟩ = some (.bool false) ∧ w.cell? ⟨g, 14, none⟩ = some (.int .u8 1) ∧ w.cell? ⟨g, 15, none⟩ = some (.int .i64 5) ∧ w.cell? ⟨g, 16, none⟩ = some (.string ⟨#[]⟩) ∧ w.cell? ⟨g, 17, none⟩ = some (.string ⟨#[]⟩) ∧ w.cell? ⟨g, 18, none⟩ = some (.string ⟨#[]⟩) ∧ w.cell? ⟨g, 19, none⟩ = some (.int .i64 0) ∧ w.cell? ⟨g, 20, none⟩ = some (.int .i64 0) ∧ w.cell? ⟨g, 21, none⟩ = some (.slice none 0 0)
theorem AtTwo.below {w w' : World} {g : Nat} (h : AtTwo w g) (hb : Below w.heap.size w w') : AtTwo w' g := by
  obtain ⟨hf, c0, c1, c2, c3, c4, c5, c6, c7, c8, c9, c10⟩ := h
  have k : ∀ j, w'.cell? ⟨g, j, none⟩ = w.cell? ⟨g, j, none⟩ := fun j => hb.cell (p := ⟨g, j, none⟩) hf.1
  exact ⟨hf.below hb, (k 11).trans c0, (k 12).trans c1, (k 13).trans c2, (k 14).trans c3, (k 15).trans c4, (k 16).trans c5, (k 17).trans c6, (k 18).trans c7, (k 19).trans c8, (k 20).trans c9, (k 21).trans c10⟩
set_option maxHeartbeats 2000000 in
theorem binary_any (gs gt gn gc g : Nat) (w : World) (h : AtSrc w gs gt gn gc) (h2 : AtTwo w g) : Calls Try.prog 30 #[.pointer (some ⟨gs, 0, none⟩), binT g] w (RetB w (.agg #[.int .u64 1, .int .u64 20])) := by
  have T := Lib.hid fun W (hb : Below w.heap.size w W) => compared_any gs gt gn gc W (h.below hb)
  obtain ⟨⟨hg, c0, c1, c2, c3, c4, c5, c6, c7, c8, c9, c10⟩, d0, d1, d2, d3, d4, d5, d6, d7, d8, d9, d10⟩ := h2
  clear h
  go_enter Try.func30, Try.ntmps30
  go_wp2_with fail
  have hg1 : g < w.heap.size + 1 := by omega
  have hg2 : g < w.heap.size + 1 + 1 := by omega
  have hg3 : g < w.heap.size + 1 + 1 + 1 := by omega
  go_region
  all_goals
    go_wp2_with fail
    refine (T.out _ (by with_reducible repeat (first | exact Below.refl _ _ | refine Below.drew ?_ | refine ball ?_ _))).mono ?_
    rintro e w1 ⟨rfl, hb1⟩
    have hz1 := hb1.size
    (try simp at hz1)
    have R : Blk w1 (w.heap.size + 1) 67 #[.int .u64 0, .int .u64 0] := blkOf hb1 (by (try simp) <;> omega) (by with_reducible repeat (first | exact Blk.newAt (by simp) | refine Blk.drew ?_ | refine Blk.alloc ?_ _))
    have R_0 : (w1).cell? ⟨w.heap.size + 1, 0, none⟩ = some (.int .u64 0) := R.cell 0
    have R_1 : (w1).cell? ⟨w.heap.size + 1, 1, none⟩ = some (.int .u64 0) := R.cell 1
    have Rf0 := R.frozen 0
    have Rf1 := R.frozen 1
    have lt1 : w.heap.size + 1 < w1.heap.size := by omega
    have BW := Lib.hid (bto0 (by with_reducible repeat (first | exact Below.refl _ _ | refine Below.drew ?_ | refine ball ?_ _)) hb1 : Below w.heap.size w w1)
    clear R hb1
    go_wp2
    exact bodyPost_ret (v := .agg #[.int .u64 1, .int .u64 20]) (by simp [results, Try.results30, go_sem, R_0, R_1]) rfl ⟨rfl, bset (bset BW.out (by dsimp only <;> omega) _) (by dsimp only <;> omega) _⟩
end Go.Proofs.Ytcflblgbgoldlaa
