/-
  The chapter's example of stats: the share of the comparison.
-/
import Derived.Test.YtcflblgbgoldlaaUna
set_option linter.unusedSimpArgs false
set_option linter.unusedVariables false
namespace Go.Proofs.Ytcflblgbgoldlaa
open Go.RowKit

theorem compared_any (gs gt gn gc : Nat) (w : World) (h : AtSrc w gs gt gn gc) : Calls Try.prog 40 #[.pointer (some ⟨gs, 0, none⟩), .string ⟨#[61]⟩, fldT, litT] w (RetB w (.agg #[.int .u64 1, .int .u64 20])) := by
  have T := Lib.hid fun W (hb : Below w.heap.size w W) => column_fld gs gt gn gc W (h.below hb)
  have L := Lib.hid fun W => column_lit gs W
  have C := Lib.hid fun W => const_lit W
  have N := Lib.hid fun W => count_any 20 (by omega) W
  clear h
  go_enter Try.func40, Try.ntmps40
  go_wp2_with fail
  refine (T.out _ (by with_reducible repeat (first | exact Below.refl _ _ | refine ball ?_ _))).mono ?_
  rintro e w1 ⟨rfl, hb1⟩
  have hz1 := hb1.size
  (try simp at hz1)
  have P : Blk w1 (w.heap.size + 1) 40 #[.int .u8 1, .string ⟨#[]⟩, .bool false, .int .u8 1, .int .i64 5, .string ⟨#[]⟩, .string ⟨#[]⟩, .string ⟨#[]⟩, .int .i64 0, .int .i64 0, .slice none 0 0] := blkOf hb1 (by (try simp) <;> omega) (by with_reducible repeat (first | exact Blk.newAt (by simp) | refine Blk.alloc ?_ _))
  have P_0 : (w1).cell? ⟨w.heap.size + 1, 0, none⟩ = some (.int .u8 1) := P.cell 0
  have P_1 : (w1).cell? ⟨w.heap.size + 1, 1, none⟩ = some (.string ⟨#[]⟩) := P.cell 1
  have P_2 : (w1).cell? ⟨w.heap.size + 1, 2, none⟩ = some (.bool false) := P.cell 2
  have P_3 : (w1).cell? ⟨w.heap.size + 1, 3, none⟩ = some (.int .u8 1) := P.cell 3
  have P_4 : (w1).cell? ⟨w.heap.size + 1, 4, none⟩ = some (.int .i64 5) := P.cell 4
  have P_5 : (w1).cell? ⟨w.heap.size + 1, 5, none⟩ = some (.string ⟨#[]⟩) := P.cell 5
  have P_6 : (w1).cell? ⟨w.heap.size + 1, 6, none⟩ = some (.string ⟨#[]⟩) := P.cell 6
  have P_7 : (w1).cell? ⟨w.heap.size + 1, 7, none⟩ = some (.string ⟨#[]⟩) := P.cell 7
  have P_8 : (w1).cell? ⟨w.heap.size + 1, 8, none⟩ = some (.int .i64 0) := P.cell 8
  have P_9 : (w1).cell? ⟨w.heap.size + 1, 9, none⟩ = some (.int .i64 0) := P.cell 9
  have P_10 : (w1).cell? ⟨w.heap.size + 1, 10, none⟩ = some (.slice none 0 0) := P.cell 10
  have R : Blk w1 (w.heap.size + 1 + 1) 67 #[.int .u64 0, .int .u64 0] := blkOf hb1 (by (try simp) <;> omega) (by with_reducible repeat (first | exact Blk.newAt (by simp) | refine Blk.alloc ?_ _))
  have R_0 : (w1).cell? ⟨w.heap.size + 1 + 1, 0, none⟩ = some (.int .u64 0) := R.cell 0
  have R_1 : (w1).cell? ⟨w.heap.size + 1 + 1, 1, none⟩ = some (.int .u64 0) := R.cell 1
  have bw : Below w.heap.size w w1 := bto0 (by with_reducible repeat (first | exact Below.refl _ _ | refine ball ?_ _)) hb1
  have lt0 : w.heap.size < w1.heap.size := by omega
  have lt1 : w.heap.size + 1 < w1.heap.size := by omega
  have lt2 : w.heap.size + 1 + 1 < w1.heap.size := by omega
  have BW := Lib.hid bw
  have RH := Lib.hid R
  have PH := Lib.hid P
  clear hb1 bw R P
  go_wp2_with fail
  refine (L.out _).mono ?_
  rintro e w2 ⟨rfl, hb2⟩
  have hz2 := hb2.size
  (try simp at hz2)
  have Q : Blk w2 w1.heap.size 27 #[.string ⟨#[120]⟩, .int .u8 1, .int .i64 20, .int .i64 0] := blkOf hb2 (by (try simp) <;> omega) (by with_reducible repeat (first | exact Blk.newAt (by simp) | refine Blk.alloc ?_ _))
  have q2 : w2.cell? ⟨w1.heap.size, 2, none⟩ = some (.int .i64 20) := Q.cell 2
  have P2 := blkOf hb2 (by (try simp) <;> omega) ((PH.out.alloc _).alloc _)
  have P2_0 : (w2).cell? ⟨w.heap.size + 1, 0, none⟩ = some (.int .u8 1) := P2.cell 0
  have P2_1 : (w2).cell? ⟨w.heap.size + 1, 1, none⟩ = some (.string ⟨#[]⟩) := P2.cell 1
  have P2_2 : (w2).cell? ⟨w.heap.size + 1, 2, none⟩ = some (.bool false) := P2.cell 2
  have P2_3 : (w2).cell? ⟨w.heap.size + 1, 3, none⟩ = some (.int .u8 1) := P2.cell 3
  have P2_4 : (w2).cell? ⟨w.heap.size + 1, 4, none⟩ = some (.int .i64 5) := P2.cell 4
  have P2_5 : (w2).cell? ⟨w.heap.size + 1, 5, none⟩ = some (.string ⟨#[]⟩) := P2.cell 5
  have P2_6 : (w2).cell? ⟨w.heap.size + 1, 6, none⟩ = some (.string ⟨#[]⟩) := P2.cell 6
  have P2_7 : (w2).cell? ⟨w.heap.size + 1, 7, none⟩ = some (.string ⟨#[]⟩) := P2.cell 7
  have P2_8 : (w2).cell? ⟨w.heap.size + 1, 8, none⟩ = some (.int .i64 0) := P2.cell 8
  have P2_9 : (w2).cell? ⟨w.heap.size + 1, 9, none⟩ = some (.int .i64 0) := P2.cell 9
  have P2_10 : (w2).cell? ⟨w.heap.size + 1, 10, none⟩ = some (.slice none 0 0) := P2.cell 10
  have R2 := blkOf hb2 (by (try simp) <;> omega) ((RH.out.alloc _).alloc _)
  have R2_0 : (w2).cell? ⟨w.heap.size + 1 + 1, 0, none⟩ = some (.int .u64 0) := R2.cell 0
  have R2_1 : (w2).cell? ⟨w.heap.size + 1 + 1, 1, none⟩ = some (.int .u64 0) := R2.cell 1
  have R2_f0 := R2.frozen 0
  have R2_f1 := R2.frozen 1
  have lt3 : w.heap.size < w2.heap.size := by omega
  have lt4 : w.heap.size + 1 < w2.heap.size := by omega
  have lt5 : w.heap.size + 1 + 1 < w2.heap.size := by omega
  have lt6 : w1.heap.size < w2.heap.size := by omega
  have BW2 := Lib.hid (bto0 (by with_reducible repeat (first | exact BW.out | refine ball ?_ _)) hb2 : Below w.heap.size w w2)
  have RH2 := Lib.hid R2
  have QH2 := Lib.hid Q
  clear P_0 P_1 P_2 P_3 P_4 P_5 P_6 P_7 P_8 P_9 P_10 R_0 R_1 hb2 Q P2 R2 PH RH BW
  go_wp2_with fail
  refine (C.out _).mono ?_
  rintro e w3 ⟨rfl, hb3⟩
  have hz3 := hb3.size
  (try simp at hz3)
  have Q3 := blkOf hb3 (by (try simp) <;> omega) ((QH2.out.alloc _).alloc _)
  have Q3_2 : w3.cell? ⟨w1.heap.size, 2, none⟩ = some (.int .i64 20) := Q3.cell 2
  have R3 := blkOf hb3 (by (try simp) <;> omega) ((RH2.out.alloc _).alloc _)
  have R3_0 : (w3).cell? ⟨w.heap.size + 1 + 1, 0, none⟩ = some (.int .u64 0) := R3.cell 0
  have R3_1 : (w3).cell? ⟨w.heap.size + 1 + 1, 1, none⟩ = some (.int .u64 0) := R3.cell 1
  have R3_f0 := R3.frozen 0
  have R3_f1 := R3.frozen 1
  have lt13 : w.heap.size < w3.heap.size := by omega
  have lt14 : w.heap.size + 1 < w3.heap.size := by omega
  have lt15 : w.heap.size + 1 + 1 < w3.heap.size := by omega
  have lt16 : w1.heap.size < w3.heap.size := by omega
  have BW3 := Lib.hid (bto0 (by with_reducible repeat (first | exact BW2.out | refine ball ?_ _)) hb3 : Below w.heap.size w w3)
  have RH3 := Lib.hid R3
  clear P2_0 P2_1 P2_2 P2_3 P2_4 P2_5 P2_6 P2_7 P2_8 P2_9 P2_10 R2_0 R2_1 R2_f0 R2_f1 hb3 RH2 QH2 Q3 R3 BW2 q2
  go_wp2_with fail
  refine (N.out _).mono ?_
  rintro e w4 ⟨rfl, hb4⟩
  have hz4 := hb4.size
  (try simp at hz4)
  have R4 := blkOf hb4 (by (try simp) <;> omega) RH3.out
  have R4_0 : (w4).cell? ⟨w.heap.size + 1 + 1, 0, none⟩ = some (.int .u64 0) := R4.cell 0
  have R4_1 : (w4).cell? ⟨w.heap.size + 1 + 1, 1, none⟩ = some (.int .u64 0) := R4.cell 1
  have R4_f0 := R4.frozen 0
  have R4_f1 := R4.frozen 1
  have BW4 := Lib.hid (bto0 (by with_reducible repeat (first | exact BW3.out | refine ball ?_ _)) hb4 : Below w.heap.size w w4)
  clear Q3_2 R3_0 R3_1 R3_f0 R3_f1 RH3 BW3 hb4
  go_wp2
  exact bodyPost_ret (v := .agg #[.int .u64 1, .int .u64 20]) (by simp [results, Try.results40, go_sem, R4_0, R4_1]; try rfl) rfl ⟨rfl, bset (bset BW4.out (by dsimp only <;> omega) _) (by dsimp only <;> omega) _⟩
end Go.Proofs.Ytcflblgbgoldlaa
