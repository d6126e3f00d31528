/-
  The chapter's example of stats: columns.
-/
import Derived.Test.YtcflblgbgoldlaaUn
import Derived.BigRegion
set_option linter.unusedSimpArgs false
set_option linter.unusedVariables false
namespace Go.Proofs.Ytcflblgbgoldlaa
open Go.RowKit

theorem Blk.eq_ {w : World} {g : Nat} {t : TypeId} {cs cs' : Array Value} (h : Blk w g t cs) (e : cs = cs') : Blk w g t cs' := e ▸ h
theorem col_end {w W : World} {gc g1 g2 : Nat} {tm : Array Value} (hQ : Blk W g1 27 #[.string ⟨#[120]⟩, .int .u8 1, .int .i64 20, .int .i64 0])
    (hR : Blk W g2 31 #[.string ⟨#[116]⟩, .slice (some ⟨gc, 0, none⟩) 1 1, .int .u32 0, .int .i64 100, .int .i64 0])
    (h4 : tm[4]? = some (.pointer (some ⟨g1, 0, none⟩))) (h5 : tm[5]? = some (.pointer (some ⟨g2, 0, none⟩))) (h6 : tm[6]? = some (.bool true)) (hb : Below w.heap.size w W) :
    bodyPost Try.prog Try.f37 (RetB w (.tuple #[colT, tabT gc, .bool true])) Exit.ret { tmps := tm, defers := [] } W := by
  have q0 : W.cell? ⟨g1, 0, none⟩ = _ := hQ.cell 0
  have q1 : W.cell? ⟨g1, 1, none⟩ = _ := hQ.cell 1
  have q2 : W.cell? ⟨g1, 2, none⟩ = _ := hQ.cell 2
  have q3 : W.cell? ⟨g1, 3, none⟩ = _ := hQ.cell 3
  have r0 : W.cell? ⟨g2, 0, none⟩ = _ := hR.cell 0
  have r1 : W.cell? ⟨g2, 1, none⟩ = _ := hR.cell 1
  have r2 : W.cell? ⟨g2, 2, none⟩ = _ := hR.cell 2
  have r3 : W.cell? ⟨g2, 3, none⟩ = _ := hR.cell 3
  have r4 : W.cell? ⟨g2, 4, none⟩ = _ := hR.cell 4
  exact bodyPost_ret (v := .tuple #[colT, tabT gc, .bool true]) (by simp [results, Try.results37, go_sem, h4, h5, h6, q0, q1, q2, q3, r0, r1, r2, r3, r4]) rfl ⟨rfl, hb⟩
theorem column_fld (gs gt gn gc : Nat) (w : World) (h : AtSrc w gs gt gn gc) : Calls Try.prog 37 #[.pointer (some ⟨gs, 0, none⟩), fldT] w (RetB w (.tuple #[colT, tabT gc, .bool true])) := by
  have T := Lib.hid fun W (hb : Below w.heap.size w W) => table_any gs gt gn gc W (h.below hb)
  have H := Lib.hid h
  clear h
  go_enter Try.func37, Try.ntmps37
  go_wp2_with fail
  refine (T.out _ (by with_reducible repeat (first | exact Below.refl _ _ | refine ball ?_ _))).mono ?_
  rintro e w1 ⟨rfl, hb1⟩
  have hz1 := hb1.size
  (try simp at hz1)
  have lt0 : w.heap.size < w1.heap.size := by omega
  have lt1 : w.heap.size + 1 < w1.heap.size := by omega
  have lt2 : w.heap.size + 1 + 1 < w1.heap.size := by omega
  have P : Blk w1 w.heap.size 40 #[.int .u8 2, .string ⟨#[]⟩, .bool false, .int .u8 0, .int .i64 0, .string ⟨#[]⟩, .string ⟨#[]⟩, .string ⟨#[]⟩, .int .i64 0, .int .i64 0, .slice none 0 0] := blkOf hb1 (by (try simp) <;> omega) (by with_reducible repeat (first | exact Blk.newAt (by simp) | refine Blk.alloc ?_ _))
  have p7 : w1.cell? ⟨w.heap.size, 9, none⟩ = some (.int .i64 0) := P.cell 9
  have bw : Below w.heap.size w w1 := bto0 (by with_reducible repeat (first | exact Below.refl _ _ | refine ball ?_ _)) hb1
  obtain ⟨hs, ht, hn, hc, s0, s1, s2, t0, t1, t2, t3, t4, n0, c0, c1, c2, c3⟩ := H.out.below bw
  have Q : Blk w1 (w.heap.size + 1) 27 #[.string ⟨#[]⟩, .int .u8 0, .int .i64 0, .int .i64 0] := blkOf hb1 (by (try simp) <;> omega) (by with_reducible repeat (first | exact Blk.newAt (by simp) | refine Blk.alloc ?_ _))
  have q0 : w1.cell? ⟨w.heap.size + 1, 0, none⟩ = some (.string ⟨#[]⟩) := Q.cell 0
  have q1 : w1.cell? ⟨w.heap.size + 1, 1, none⟩ = some (.int .u8 0) := Q.cell 1
  have q2 : w1.cell? ⟨w.heap.size + 1, 2, none⟩ = some (.int .i64 0) := Q.cell 2
  have q3 : w1.cell? ⟨w.heap.size + 1, 3, none⟩ = some (.int .i64 0) := Q.cell 3
  have qf0 := Q.frozen 0
  have qf1 := Q.frozen 1
  have qf2 := Q.frozen 2
  have qf3 := Q.frozen 3
  have R : Blk w1 (w.heap.size + 1 + 1) 31 #[.string ⟨#[]⟩, .slice none 0 0, .int .u32 0, .int .i64 0, .int .i64 0] := blkOf hb1 (by (try simp) <;> omega) (by with_reducible repeat (first | exact Blk.newAt (by simp) | refine Blk.alloc ?_ _))
  have r0 : w1.cell? ⟨w.heap.size + 1 + 1, 0, none⟩ = some (.string ⟨#[]⟩) := R.cell 0
  have r1 : w1.cell? ⟨w.heap.size + 1 + 1, 1, none⟩ = some (.slice none 0 0) := R.cell 1
  have r2 : w1.cell? ⟨w.heap.size + 1 + 1, 2, none⟩ = some (.int .u32 0) := R.cell 2
  have r3 : w1.cell? ⟨w.heap.size + 1 + 1, 3, none⟩ = some (.int .i64 0) := R.cell 3
  have r4 : w1.cell? ⟨w.heap.size + 1 + 1, 4, none⟩ = some (.int .i64 0) := R.cell 4
  have rf0 := R.frozen 0
  have rf1 := R.frozen 1
  have rf2 := R.frozen 2
  have rf3 := R.frozen 3
  have rf4 := R.frozen 4
  have BW := Lib.hid bw
  have QH := Lib.hid Q
  have RH := Lib.hid R
  clear bw P Q R hb1
  go_wp2
  go_region
  go_wp2
  have Q := QH.out
  have R := RH.out
  have QF := ((((((((((Q.set_ 0 (.string ⟨#[120]⟩)).set_ 1 (.int .u8 1)).set_ 2 (.int .i64 20)).set_ 3 (.int .i64 0)).far (p := ⟨w.heap.size + 1 + 1, 0, none⟩) (by dsimp only <;> omega) (.string ⟨#[116]⟩)).far (p := ⟨w.heap.size + 1 + 1, 1, none⟩) (by dsimp only <;> omega) (.slice (some ⟨gc, 0, none⟩) 1 1)).far (p := ⟨w.heap.size + 1 + 1, 2, none⟩) (by dsimp only <;> omega) (.int .u32 0)).far (p := ⟨w.heap.size + 1 + 1, 3, none⟩) (by dsimp only <;> omega) (.int .i64 100)).far (p := ⟨w.heap.size + 1 + 1, 4, none⟩) (by dsimp only <;> omega) (.int .i64 0)).alloc (Obj.cells #[.string ⟨#[116]⟩, .slice (some ⟨gc, 0, none⟩) 1 1, .int .u32 0, .int .i64 100, .int .i64 0] 31)).drew
  have RF := ((((((((((R.far (p := ⟨w.heap.size + 1, 0, none⟩) (by dsimp only <;> omega) (.string ⟨#[120]⟩)).far (p := ⟨w.heap.size + 1, 1, none⟩) (by dsimp only <;> omega) (.int .u8 1)).far (p := ⟨w.heap.size + 1, 2, none⟩) (by dsimp only <;> omega) (.int .i64 20)).far (p := ⟨w.heap.size + 1, 3, none⟩) (by dsimp only <;> omega) (.int .i64 0)).set_ 0 (.string ⟨#[116]⟩)).set_ 1 (.slice (some ⟨gc, 0, none⟩) 1 1)).set_ 2 (.int .u32 0)).set_ 3 (.int .i64 100)).set_ 4 (.int .i64 0)).alloc (Obj.cells #[.string ⟨#[116]⟩, .slice (some ⟨gc, 0, none⟩) 1 1, .int .u32 0, .int .i64 100, .int .i64 0] 31)).drew
  refine col_end (g1 := w.heap.size + 1) (g2 := w.heap.size + 1 + 1) (Blk.eq_ QF rfl) (Blk.eq_ RF rfl) (by simp) (by simp) (by simp) ?b
  case b => with_reducible repeat (first | exact BW.out | refine Below.drew ?_ | refine bset ?_ (by dsimp only <;> omega) _ | refine Below.alloc ?_ (by simp [World.setCell] <;> omega) _)
end Go.Proofs.Ytcflblgbgoldlaa
