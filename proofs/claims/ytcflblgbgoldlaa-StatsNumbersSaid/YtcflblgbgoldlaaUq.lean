/-
  The chapter's example of stats: the part that is left.
-/
import Derived.Test.YtcflblgbgoldlaaUp
import Derived.Test.YtcflblgbgoldlaaUs
set_option linter.unusedSimpArgs false
set_option linter.unusedVariables false
namespace Go.Proofs.Ytcflblgbgoldlaa
open Go.RowKit

theorem AtSrc.again {w : World} {gs gt gn gc g' : Nat} {t : TypeId} (h : AtSrc w gs gt gn gc) (b : Blk w g' t #[.slice (some ⟨gt, 0, none⟩) 1 1, .slice none 0 0, .slice (some ⟨gn, 0, none⟩) 1 1]) : AtSrc w g' gt gn gc :=
  ⟨b.lt, h.ht, h.hn, h.hc, b.cell 0, b.cell 1, b.cell 2, h.t0, h.t1, h.t2, h.t3, h.t4, h.n0, h.c0, h.c1, h.c2, h.c3⟩
theorem of_any2 (gs gt gn gc g : Nat) (w : World) (h : AtSrc w gs gt gn gc) (h2 : AtTwo w g) : Calls Try.prog 22 #[.agg #[.slice (some ⟨gt, 0, none⟩) 1 1, .slice none 0 0], .slice (some ⟨gn, 0, none⟩) 1 1, binT g] w (RetB w (.agg #[.int .u64 1, .int .u64 20])) := by
  have T := Lib.hid fun (W : World) (hb : Below w.heap.size w W) => const_bin g W (h2.below hb).1
  have H := Lib.hid (And.intro h h2)
  clear h h2
  go_enter Try.func22, Try.ntmps22
  go_wp2_with fail
  refine (T.out _ (by with_reducible repeat (first | exact Below.refl _ _ | refine ball ?_ _))).mono ?_
  rintro e w1 ⟨rfl, hb1⟩
  have hz1 := hb1.size
  (try simp at hz1)
  have BW := (bto0 (by with_reducible repeat (first | exact Below.refl _ _ | refine ball ?_ _)) hb1 : Below w.heap.size w w1)
  have B : Blk w1 (w.heap.size) 35 #[.slice (some ⟨gt, 0, none⟩) 1 1, .slice none 0 0] := blkOf hb1 (by (try simp) <;> omega) (by with_reducible repeat (first | exact Blk.newAt (by simp) | refine Blk.drew ?_ | refine Blk.alloc ?_ _))
  have B_0 : (w1).cell? ⟨w.heap.size, 0, none⟩ = some (.slice (some ⟨gt, 0, none⟩) 1 1) := B.cell 0
  have B_1 : (w1).cell? ⟨w.heap.size, 1, none⟩ = some (.slice none 0 0) := B.cell 1
  have P : Blk w1 (w.heap.size + 1) 40 #[.int .u8 4, .string ⟨#[61]⟩, .bool false, .int .u8 0, .int .i64 0, .string ⟨#[]⟩, .string ⟨#[]⟩, .string ⟨#[]⟩, .int .i64 0, .int .i64 0, .slice (some ⟨g, 0, none⟩) 2 2] := blkOf hb1 (by (try simp) <;> omega) (by with_reducible repeat (first | exact Blk.newAt (by simp) | refine Blk.drew ?_ | refine Blk.alloc ?_ _))
  have P_0 : (w1).cell? ⟨w.heap.size + 1, 0, none⟩ = some (.int .u8 4) := P.cell 0
  have P_1 : (w1).cell? ⟨w.heap.size + 1, 1, none⟩ = some (.string ⟨#[61]⟩) := P.cell 1
  have P_2 : (w1).cell? ⟨w.heap.size + 1, 2, none⟩ = some (.bool false) := P.cell 2
  have P_3 : (w1).cell? ⟨w.heap.size + 1, 3, none⟩ = some (.int .u8 0) := P.cell 3
  have P_4 : (w1).cell? ⟨w.heap.size + 1, 4, none⟩ = some (.int .i64 0) := P.cell 4
  have P_5 : (w1).cell? ⟨w.heap.size + 1, 5, none⟩ = some (.string ⟨#[]⟩) := P.cell 5
  have P_6 : (w1).cell? ⟨w.heap.size + 1, 6, none⟩ = some (.string ⟨#[]⟩) := P.cell 6
  have P_7 : (w1).cell? ⟨w.heap.size + 1, 7, none⟩ = some (.string ⟨#[]⟩) := P.cell 7
  have P_8 : (w1).cell? ⟨w.heap.size + 1, 8, none⟩ = some (.int .i64 0) := P.cell 8
  have P_9 : (w1).cell? ⟨w.heap.size + 1, 9, none⟩ = some (.int .i64 0) := P.cell 9
  have P_10 : (w1).cell? ⟨w.heap.size + 1, 10, none⟩ = some (.slice (some ⟨g, 0, none⟩) 2 2) := P.cell 10
  have R : Blk w1 (w.heap.size + 1 + 1) 67 #[.int .u64 0, .int .u64 0] := blkOf hb1 (by (try simp) <;> omega) (by with_reducible repeat (first | exact Blk.newAt (by simp) | refine Blk.drew ?_ | refine Blk.alloc ?_ _))
  have R_0 : (w1).cell? ⟨w.heap.size + 1 + 1, 0, none⟩ = some (.int .u64 0) := R.cell 0
  have R_1 : (w1).cell? ⟨w.heap.size + 1 + 1, 1, none⟩ = some (.int .u64 0) := R.cell 1
  have RH := Lib.hid R
  have H1 := H.out.1.below BW
  have H2 := H.out.2.below BW
  have Y := Lib.hid fun (W : World) (g' : Nat) (b : Blk W g' 59 #[.slice (some ⟨gt, 0, none⟩) 1 1, .slice none 0 0, .slice (some ⟨gn, 0, none⟩) 1 1]) (hb : Below w1.heap.size w1 W) => binary_any g' gt gn gc g W ((H1.below hb).again b) (H2.below hb)
  have lt0 : w.heap.size < w1.heap.size := by omega
  have lt1 : w.heap.size + 1 < w1.heap.size := by omega
  have lt2 : w.heap.size + 1 + 1 < w1.heap.size := by omega
  have BH := Lib.hid BW
  clear R P B hb1 BW H1 H2
  go_wp2_with fail
  refine (Y.out _ _ (by with_reducible repeat (first | exact Blk.newAt (by simp) | refine Blk.drew ?_ | refine Blk.alloc ?_ _)) (by with_reducible repeat (first | exact Below.refl _ _ | refine Below.drew ?_ | refine ball ?_ _))).mono ?_
  rintro e w2 ⟨rfl, hb2⟩
  have hz2 := hb2.size
  (try simp at hz2)
  have R := blkOf hb2 (by (try simp) <;> omega) (RH.out.alloc _)
  have R_0 : (w2).cell? ⟨w.heap.size + 1 + 1, 0, none⟩ = some (.int .u64 0) := R.cell 0
  have R_1 : (w2).cell? ⟨w.heap.size + 1 + 1, 1, none⟩ = some (.int .u64 0) := R.cell 1
  have Rf0 := R.frozen 0
  have Rf1 := R.frozen 1
  have BW2 := Lib.hid (bto0 (by with_reducible repeat (first | exact BH.out | refine Below.drew ?_ | refine ball ?_ _)) hb2 : Below w.heap.size w w2)
  clear R hb2
  go_wp2
  exact bodyPost_ret (v := .agg #[.int .u64 1, .int .u64 20]) (by simp [results, Try.results22, go_sem, R_0, R_1]) rfl ⟨rfl, bset (bset BW2.out (by dsimp only <;> omega) _) (by dsimp only <;> omega) _⟩
end Go.Proofs.Ytcflblgbgoldlaa
