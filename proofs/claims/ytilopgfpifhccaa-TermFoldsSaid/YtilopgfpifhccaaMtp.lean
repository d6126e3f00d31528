/-
  Several texts in one: Nlb.
-/
import Derived.Test.YtilopgfpifhccaaMto
/-
  Contracts of an operation of two values: the reference's, kinds 0 and 1.
-/
namespace Go.Proofs.Ytilopgfpifhccaa
section
set_option linter.unusedSimpArgs false
set_option linter.unusedVariables false
open Go.RowKit

set_option maxHeartbeats 16000000 in
theorem rdo_01 (op : ByteArray) (i j : Int) (s t : ByteArray) (ai : -9223372036854775808 ≤ i ∧ i ≤ 9223372036854775807) (bi : -9223372036854775808 ≤ j ∧ j ≤ 9223372036854775807) (w : World) :
    Calls Try.prog 44 #[.string op, .agg #[.int .u8 0, .int .i64 i, .string s], .agg #[.int .u8 1, .int .i64 j, .string t]] w (RetB w (.tuple #[zV.agg, .bool (opIs op.toList)])) := by
  have O1 := Lib.hid fun W => of_any i W ai.1 ai.2
  have O2 := Lib.hid fun W => of_any j W bi.1 bi.2
  have E1 : Hid ((op.toList == [43]) = true → numR (i + j) = .tuple #[.int .i64 (opN op.toList i j), .bool (opQ op.toList i j)]) := fun h1 => by simp only [numR, opN, opQ, h1, if_true]
  have E2 : Hid ((op.toList == [43]) = false ∧ (op.toList == [45]) = true → numR (i - j) = .tuple #[.int .i64 (opN op.toList i j), .bool (opQ op.toList i j)]) := fun h1 => by simp only [numR, opN, opQ, h1.1, h1.2, if_true, Bool.false_eq_true, if_false]
  have E3 : Hid ((op.toList == [43]) = false ∧ (op.toList == [45]) = false ∧ (op.toList == [42]) = true → numR (i * j) = .tuple #[.int .i64 (opN op.toList i j), .bool (opQ op.toList i j)]) := fun h1 => by simp only [numR, opN, opQ, h1.1, h1.2.1, h1.2.2, if_true, Bool.false_eq_true, if_false]
  clear ai bi
  skip
  rcases opCases op.toList with h1 | ⟨h1, h2⟩ | ⟨h1, h2, h3⟩ | ⟨h1, h2, h3⟩
  · have hI : opIs op.toList = true := by simp [opIs, h1]
    rw [hI]
    clear hI E1 E2 E3
    go_enter Try.func44, Try.ntmps44
    go_wp2_with fail
    refine (O1.out _).mono ?_
    rintro e w1 ⟨v1, sg1, x1, rfl, hsg1, hval1, ⟨A1, n1, c1, l1, rfl, hr1, hnc1, hnm1, hok1, hdv1, hl1⟩, hb1⟩
    rw [← hdv1] at hval1
    clear hdv1
    have Hval1 := Lib.hid hval1
    clear hval1
    have Hsg1 := Lib.hid hsg1
    clear hsg1
    have Hl1 := Lib.hid hl1
    clear hl1
    have hz1 := hb1.size
    (try simp at hz1)
    have lt1_0 : w.heap.size < w1.heap.size := (by omega)
    have lt1_1 : (w.heap.size + 1) < w1.heap.size := (by omega)
    have lt1_2 : (w.heap.size + 1 + 1) < w1.heap.size := (by omega)
    have lt1_3 : (w.heap.size + 1 + 1 + 1) < w1.heap.size := (by omega)
    have Ba1 : Blk w1 w.heap.size 23 #[.int .u8 0, .int .i64 i, .string s] := blkOf hb1 (by (try simp) <;> omega) (by with_reducible repeat (first |  (refine Blk.newAt ?_ <;> simp <;> done) | refine Blk.drew ?_ | refine Blk.drewN ?_ _ | refine Blk.alloc ?_ _ | refine Blk.far ?_ (by dsimp only <;> omega) _))
    have Ba1c0 : w1.cell? ⟨w.heap.size, 0, none⟩ = some (.int .u8 0) := Ba1.cell 0
    have Ba1f0 := Ba1.frozen 0
    have Ba1c1 : w1.cell? ⟨w.heap.size, 1, none⟩ = some (.int .i64 i) := Ba1.cell 1
    have Ba1f1 := Ba1.frozen 1
    have Ba1c2 : w1.cell? ⟨w.heap.size, 2, none⟩ = some (.string s) := Ba1.cell 2
    have Ba1f2 := Ba1.frozen 2
    have Bb1 : Blk w1 (w.heap.size + 1) 23 #[.int .u8 1, .int .i64 j, .string t] := blkOf hb1 (by (try simp) <;> omega) (by with_reducible repeat (first |  (refine Blk.newAt ?_ <;> simp <;> done) | refine Blk.drew ?_ | refine Blk.drewN ?_ _ | refine Blk.alloc ?_ _ | refine Blk.far ?_ (by dsimp only <;> omega) _))
    have Bb1c0 : w1.cell? ⟨(w.heap.size + 1), 0, none⟩ = some (.int .u8 1) := Bb1.cell 0
    have Bb1f0 := Bb1.frozen 0
    have Bb1c1 : w1.cell? ⟨(w.heap.size + 1), 1, none⟩ = some (.int .i64 j) := Bb1.cell 1
    have Bb1f1 := Bb1.frozen 1
    have Bb1c2 : w1.cell? ⟨(w.heap.size + 1), 2, none⟩ = some (.string t) := Bb1.cell 2
    have Bb1f2 := Bb1.frozen 2
    have Br1 : Blk w1 (w.heap.size + 1 + 1) 23 #[.int .u8 0, .int .i64 0, .string ⟨#[]⟩] := blkOf hb1 (by (try simp) <;> omega) (by with_reducible repeat (first |  (refine Blk.newAt ?_ <;> simp <;> done) | refine Blk.drew ?_ | refine Blk.drewN ?_ _ | refine Blk.alloc ?_ _ | refine Blk.far ?_ (by dsimp only <;> omega) _))
    have Br1c0 : w1.cell? ⟨(w.heap.size + 1 + 1), 0, none⟩ = some (.int .u8 0) := Br1.cell 0
    have Br1f0 := Br1.frozen 0
    have Br1c1 : w1.cell? ⟨(w.heap.size + 1 + 1), 1, none⟩ = some (.int .i64 0) := Br1.cell 1
    have Br1f1 := Br1.frozen 1
    have Br1c2 : w1.cell? ⟨(w.heap.size + 1 + 1), 2, none⟩ = some (.string ⟨#[]⟩) := Br1.cell 2
    have Br1f2 := Br1.frozen 2
    have Bn1 : Blk w1 (w.heap.size + 1 + 1 + 1) 23 #[.int .u8 0, .int .i64 0, .string ⟨#[]⟩] := blkOf hb1 (by (try simp) <;> omega) (by with_reducible repeat (first |  (refine Blk.newAt ?_ <;> simp <;> done) | refine Blk.drew ?_ | refine Blk.drewN ?_ _ | refine Blk.alloc ?_ _ | refine Blk.far ?_ (by dsimp only <;> omega) _))
    have Bn1c0 : w1.cell? ⟨(w.heap.size + 1 + 1 + 1), 0, none⟩ = some (.int .u8 0) := Bn1.cell 0
    have Bn1f0 := Bn1.frozen 0
    have Bn1c1 : w1.cell? ⟨(w.heap.size + 1 + 1 + 1), 1, none⟩ = some (.int .i64 0) := Bn1.cell 1
    have Bn1f1 := Bn1.frozen 1
    have Bn1c2 : w1.cell? ⟨(w.heap.size + 1 + 1 + 1), 2, none⟩ = some (.string ⟨#[]⟩) := Bn1.cell 2
    have Bn1f2 := Bn1.frozen 2
    go_wp2_with fail
    refine (O2.out _).mono ?_
    rintro e w2 ⟨v2, sg2, x2, rfl, hsg2, hval2, ⟨A2, n2, c2, l2, rfl, hr2, hnc2, hnm2, hok2, hdv2, hl2⟩, hb2⟩
    rw [← hdv2] at hval2
    clear hdv2
    have Hval2 := Lib.hid hval2
    clear hval2
    have Hsg2 := Lib.hid hsg2
    clear hsg2
    have Hl2 := Lib.hid hl2
    clear hl2
    have hz2 := hb2.size
    (try simp at hz2)
    have lt2_0 : w.heap.size < w2.heap.size := (by omega)
    have lt2_1 : (w.heap.size + 1) < w2.heap.size := (by omega)
    have lt2_2 : (w.heap.size + 1 + 1) < w2.heap.size := (by omega)
    have lt2_3 : (w.heap.size + 1 + 1 + 1) < w2.heap.size := (by omega)
    have lt2_4 : w1.heap.size < w2.heap.size := (by omega)
    have Ba2 : Blk w2 w.heap.size 23 #[.int .u8 0, .int .i64 i, .string s] := blkOf hb2 (by (try simp) <;> omega) (by with_reducible repeat (first | exact Ba1 |  (refine Blk.newAt ?_ <;> simp <;> done) | refine Blk.drew ?_ | refine Blk.drewN ?_ _ | refine Blk.alloc ?_ _ | refine Blk.far ?_ (by dsimp only <;> omega) _))
    have Ba2c0 : w2.cell? ⟨w.heap.size, 0, none⟩ = some (.int .u8 0) := Ba2.cell 0
    have Ba2f0 := Ba2.frozen 0
    have Ba2c1 : w2.cell? ⟨w.heap.size, 1, none⟩ = some (.int .i64 i) := Ba2.cell 1
    have Ba2f1 := Ba2.frozen 1
    have Ba2c2 : w2.cell? ⟨w.heap.size, 2, none⟩ = some (.string s) := Ba2.cell 2
    have Ba2f2 := Ba2.frozen 2
    have Bb2 : Blk w2 (w.heap.size + 1) 23 #[.int .u8 1, .int .i64 j, .string t] := blkOf hb2 (by (try simp) <;> omega) (by with_reducible repeat (first | exact Bb1 |  (refine Blk.newAt ?_ <;> simp <;> done) | refine Blk.drew ?_ | refine Blk.drewN ?_ _ | refine Blk.alloc ?_ _ | refine Blk.far ?_ (by dsimp only <;> omega) _))
    have Bb2c0 : w2.cell? ⟨(w.heap.size + 1), 0, none⟩ = some (.int .u8 1) := Bb2.cell 0
    have Bb2f0 := Bb2.frozen 0
    have Bb2c1 : w2.cell? ⟨(w.heap.size + 1), 1, none⟩ = some (.int .i64 j) := Bb2.cell 1
    have Bb2f1 := Bb2.frozen 1
    have Bb2c2 : w2.cell? ⟨(w.heap.size + 1), 2, none⟩ = some (.string t) := Bb2.cell 2
    have Bb2f2 := Bb2.frozen 2
    have Br2 : Blk w2 (w.heap.size + 1 + 1) 23 #[.int .u8 0, .int .i64 0, .string ⟨#[]⟩] := blkOf hb2 (by (try simp) <;> omega) (by with_reducible repeat (first | exact Br1 |  (refine Blk.newAt ?_ <;> simp <;> done) | refine Blk.drew ?_ | refine Blk.drewN ?_ _ | refine Blk.alloc ?_ _ | refine Blk.far ?_ (by dsimp only <;> omega) _))
    have Br2c0 : w2.cell? ⟨(w.heap.size + 1 + 1), 0, none⟩ = some (.int .u8 0) := Br2.cell 0
    have Br2f0 := Br2.frozen 0
    have Br2c1 : w2.cell? ⟨(w.heap.size + 1 + 1), 1, none⟩ = some (.int .i64 0) := Br2.cell 1
    have Br2f1 := Br2.frozen 1
    have Br2c2 : w2.cell? ⟨(w.heap.size + 1 + 1), 2, none⟩ = some (.string ⟨#[]⟩) := Br2.cell 2
    have Br2f2 := Br2.frozen 2
    have Bn2 : Blk w2 (w.heap.size + 1 + 1 + 1) 23 #[.int .u8 0, .int .i64 0, .string ⟨#[]⟩] := blkOf hb2 (by (try simp) <;> omega) (by with_reducible repeat (first | exact Bn1 |  (refine Blk.newAt ?_ <;> simp <;> done) | refine Blk.drew ?_ | refine Blk.drewN ?_ _ | refine Blk.alloc ?_ _ | refine Blk.far ?_ (by dsimp only <;> omega) _))
    have Bn2c0 : w2.cell? ⟨(w.heap.size + 1 + 1 + 1), 0, none⟩ = some (.int .u8 0) := Bn2.cell 0
    have Bn2f0 := Bn2.frozen 0
    have Bn2c1 : w2.cell? ⟨(w.heap.size + 1 + 1 + 1), 1, none⟩ = some (.int .i64 0) := Bn2.cell 1
    have Bn2f1 := Bn2.frozen 1
    have Bn2c2 : w2.cell? ⟨(w.heap.size + 1 + 1 + 1), 2, none⟩ = some (.string ⟨#[]⟩) := Bn2.cell 2
    have Bn2f2 := Bn2.frozen 2
    have Bx2 : Blk w2 w1.heap.size 73 #[.int .i64 sg1, .slice A1 n1 c1] := blkOf hb2 (by (try simp) <;> omega) (by with_reducible repeat (first |  (refine Blk.newAt ?_ <;> simp <;> done) | refine Blk.drew ?_ | refine Blk.drewN ?_ _ | refine Blk.alloc ?_ _ | refine Blk.far ?_ (by dsimp only <;> omega) _))
    have Bx2c0 : w2.cell? ⟨w1.heap.size, 0, none⟩ = some (.int .i64 sg1) := Bx2.cell 0
    have Bx2f0 := Bx2.frozen 0
    have Bx2c1 : w2.cell? ⟨w1.heap.size, 1, none⟩ = some (.slice A1 n1 c1) := Bx2.cell 1
    have Bx2f1 := Bx2.frozen 1
    have VAL : Hid (sg1 * ((dv l1 : Nat) : Int) + sg2 * ((dv l2 : Nat) : Int) = i + j) := Lib.hid (by rw [Hval1.out, Hval2.out])
    go_wp2_with (first | (go_at_call 58; refine (plus_any sg1 sg2 Hsg1.out Hsg2.out A1 n1 c1 l1 A2 n2 c2 l2 _ (hr1.up (by (with_reducible repeat (first | refine bset ?_ (by dsimp only <;> omega) _ | exact Below.refl _ _ | exact hb4 | exact hb2 | refine bto0 ?_ hb4 | refine bto0 ?_ hb2 | refine bdr ?_ _ | refine Below.drew ?_ | refine ball ?_ _)))) (hr2.up (by (with_reducible repeat (first | refine bset ?_ (by dsimp only <;> omega) _ | exact Below.refl _ _ | exact hb4 | exact hb2 | refine bto0 ?_ hb4 | refine bto0 ?_ hb2 | refine bdr ?_ _ | refine Below.drew ?_ | refine ball ?_ _)))) hok1 hok2 (Nat.le_trans hnm1 (by decide)) (Nat.le_trans hnm2 (by decide)) hnc1 hnc2).mono ?_; rintro e w3 ⟨v3, sg3, x3, rfl, hsg3, hval3, ⟨A3, n3, c3, l3, rfl, hr3, hnc3, hnm3, hok3, hdv3, hl3⟩, hb3⟩; rw [← hdv3] at hval3; clear hdv3; have Hval3 := Lib.hid hval3; clear hval3; have Hsg3 := Lib.hid hsg3; clear hsg3; have Hl3 := Lib.hid hl3; clear hl3; have hz3 := hb3.size; (try simp at hz3); have lt3_0 : w.heap.size < w3.heap.size := (by omega); have lt3_1 : (w.heap.size + 1) < w3.heap.size := (by omega); have lt3_2 : (w.heap.size + 1 + 1) < w3.heap.size := (by omega); have lt3_3 : (w.heap.size + 1 + 1 + 1) < w3.heap.size := (by omega); have lt3_4 : w1.heap.size < w3.heap.size := (by omega); have lt3_5 : w2.heap.size < w3.heap.size := (by omega); have lt3_6 : (w2.heap.size + 1) < w3.heap.size := (by omega); have Ba3 : Blk w3 w.heap.size 23 #[.int .u8 0, .int .i64 i, .string s] := blkOf hb3 (by (try simp) <;> omega) (by with_reducible repeat (first | exact Ba2 |  (refine Blk.newAt ?_ <;> simp <;> done) | refine Blk.drew ?_ | refine Blk.drewN ?_ _ | refine Blk.alloc ?_ _ | refine Blk.far ?_ (by dsimp only <;> omega) _)); have Ba3c0 : w3.cell? ⟨w.heap.size, 0, none⟩ = some (.int .u8 0) := Ba3.cell 0; have Ba3f0 := Ba3.frozen 0; have Ba3c1 : w3.cell? ⟨w.heap.size, 1, none⟩ = some (.int .i64 i) := Ba3.cell 1; have Ba3f1 := Ba3.frozen 1; have Ba3c2 : w3.cell? ⟨w.heap.size, 2, none⟩ = some (.string s) := Ba3.cell 2; have Ba3f2 := Ba3.frozen 2; have Bb3 : Blk w3 (w.heap.size + 1) 23 #[.int .u8 1, .int .i64 j, .string t] := blkOf hb3 (by (try simp) <;> omega) (by with_reducible repeat (first | exact Bb2 |  (refine Blk.newAt ?_ <;> simp <;> done) | refine Blk.drew ?_ | refine Blk.drewN ?_ _ | refine Blk.alloc ?_ _ | refine Blk.far ?_ (by dsimp only <;> omega) _)); have Bb3c0 : w3.cell? ⟨(w.heap.size + 1), 0, none⟩ = some (.int .u8 1) := Bb3.cell 0; have Bb3f0 := Bb3.frozen 0; have Bb3c1 : w3.cell? ⟨(w.heap.size + 1), 1, none⟩ = some (.int .i64 j) := Bb3.cell 1; have Bb3f1 := Bb3.frozen 1; have Bb3c2 : w3.cell? ⟨(w.heap.size + 1), 2, none⟩ = some (.string t) := Bb3.cell 2; have Bb3f2 := Bb3.frozen 2; have Br3 : Blk w3 (w.heap.size + 1 + 1) 23 #[.int .u8 0, .int .i64 0, .string ⟨#[]⟩] := blkOf hb3 (by (try simp) <;> omega) (by with_reducible repeat (first | exact Br2 |  (refine Blk.newAt ?_ <;> simp <;> done) | refine Blk.drew ?_ | refine Blk.drewN ?_ _ | refine Blk.alloc ?_ _ | refine Blk.far ?_ (by dsimp only <;> omega) _)); have Br3c0 : w3.cell? ⟨(w.heap.size + 1 + 1), 0, none⟩ = some (.int .u8 0) := Br3.cell 0; have Br3f0 := Br3.frozen 0; have Br3c1 : w3.cell? ⟨(w.heap.size + 1 + 1), 1, none⟩ = some (.int .i64 0) := Br3.cell 1; have Br3f1 := Br3.frozen 1; have Br3c2 : w3.cell? ⟨(w.heap.size + 1 + 1), 2, none⟩ = some (.string ⟨#[]⟩) := Br3.cell 2; have Br3f2 := Br3.frozen 2; have Bn3 : Blk w3 (w.heap.size + 1 + 1 + 1) 23 #[.int .u8 0, .int .i64 0, .string ⟨#[]⟩] := blkOf hb3 (by (try simp) <;> omega) (by with_reducible repeat (first | exact Bn2 |  (refine Blk.newAt ?_ <;> simp <;> done) | refine Blk.drew ?_ | refine Blk.drewN ?_ _ | refine Blk.alloc ?_ _ | refine Blk.far ?_ (by dsimp only <;> omega) _)); have Bn3c0 : w3.cell? ⟨(w.heap.size + 1 + 1 + 1), 0, none⟩ = some (.int .u8 0) := Bn3.cell 0; have Bn3f0 := Bn3.frozen 0; have Bn3c1 : w3.cell? ⟨(w.heap.size + 1 + 1 + 1), 1, none⟩ = some (.int .i64 0) := Bn3.cell 1; have Bn3f1 := Bn3.frozen 1; have Bn3c2 : w3.cell? ⟨(w.heap.size + 1 + 1 + 1), 2, none⟩ = some (.string ⟨#[]⟩) := Bn3.cell 2; have Bn3f2 := Bn3.frozen 2; have Bx3 : Blk w3 w1.heap.size 73 #[.int .i64 sg1, .slice A1 n1 c1] := blkOf hb3 (by (try simp) <;> omega) (by with_reducible repeat (first | exact Bx2 |  (refine Blk.newAt ?_ <;> simp <;> done) | refine Blk.drew ?_ | refine Blk.drewN ?_ _ | refine Blk.alloc ?_ _ | refine Blk.far ?_ (by dsimp only <;> omega) _)); have Bx3c0 : w3.cell? ⟨w1.heap.size, 0, none⟩ = some (.int .i64 sg1) := Bx3.cell 0; have Bx3f0 := Bx3.frozen 0; have Bx3c1 : w3.cell? ⟨w1.heap.size, 1, none⟩ = some (.slice A1 n1 c1) := Bx3.cell 1; have Bx3f1 := Bx3.frozen 1; have By3 : Blk w3 w2.heap.size 73 #[.int .i64 sg2, .slice A2 n2 c2] := blkOf hb3 (by (try simp) <;> omega) (by with_reducible repeat (first |  (refine Blk.newAt ?_ <;> simp <;> done) | refine Blk.drew ?_ | refine Blk.drewN ?_ _ | refine Blk.alloc ?_ _ | refine Blk.far ?_ (by dsimp only <;> omega) _)); have By3c0 : w3.cell? ⟨w2.heap.size, 0, none⟩ = some (.int .i64 sg2) := By3.cell 0; have By3f0 := By3.frozen 0; have By3c1 : w3.cell? ⟨w2.heap.size, 1, none⟩ = some (.slice A2 n2 c2) := By3.cell 1; have By3f1 := By3.frozen 1; have Bz3 : Blk w3 (w2.heap.size + 1) 73 #[.int .i64 0, .slice none 0 0] := blkOf hb3 (by (try simp) <;> omega) (by with_reducible repeat (first |  (refine Blk.newAt ?_ <;> simp <;> done) | refine Blk.drew ?_ | refine Blk.drewN ?_ _ | refine Blk.alloc ?_ _ | refine Blk.far ?_ (by dsimp only <;> omega) _)); have Bz3c0 : w3.cell? ⟨(w2.heap.size + 1), 0, none⟩ = some (.int .i64 0) := Bz3.cell 0; have Bz3f0 := Bz3.frozen 0; have Bz3c1 : w3.cell? ⟨(w2.heap.size + 1), 1, none⟩ = some (.slice none 0 0) := Bz3.cell 1; have Bz3f1 := Bz3.frozen 1; have f3 := hr3.offN Bz3) | (go_at_call 39; refine (right_z sg3 Hsg3.out A3 n3 c3 l3 (i + j) RX _ (by rw [Hval3.out]; exact VAL.out) HE.out _ ((hr3.sf f3 _).sf f3 _) hok3 (by first | exact bd3 hnm3 hnm1 hnm2 | exact bd4 hnm3 hnm1 hnm2) hnc3).mono ?_; rintro e w5 ⟨rfl, hb5⟩; have hz5 := hb5.size; (try simp [size_set] at hz5); have lt5_0 : w.heap.size < w5.heap.size := (by omega); have lt5_1 : (w.heap.size + 1) < w5.heap.size := (by omega); have lt5_2 : (w.heap.size + 1 + 1) < w5.heap.size := (by omega); have lt5_3 : (w.heap.size + 1 + 1 + 1) < w5.heap.size := (by omega); have Ba5 : Blk w5 w.heap.size 23 #[.int .u8 0, .int .i64 i, .string s] := blkOf hb5 (by (try simp) <;> omega) (by with_reducible repeat (first | exact Ba3 |  (refine Blk.newAt ?_ <;> simp <;> done) | refine Blk.drew ?_ | refine Blk.drewN ?_ _ | refine Blk.alloc ?_ _ | refine Blk.far ?_ (by dsimp only <;> omega) _)); have Ba5c0 : w5.cell? ⟨w.heap.size, 0, none⟩ = some (.int .u8 0) := Ba5.cell 0; have Ba5f0 := Ba5.frozen 0; have Ba5c1 : w5.cell? ⟨w.heap.size, 1, none⟩ = some (.int .i64 i) := Ba5.cell 1; have Ba5f1 := Ba5.frozen 1; have Ba5c2 : w5.cell? ⟨w.heap.size, 2, none⟩ = some (.string s) := Ba5.cell 2; have Ba5f2 := Ba5.frozen 2; have Bb5 : Blk w5 (w.heap.size + 1) 23 #[.int .u8 1, .int .i64 j, .string t] := blkOf hb5 (by (try simp) <;> omega) (by with_reducible repeat (first | exact Bb3 |  (refine Blk.newAt ?_ <;> simp <;> done) | refine Blk.drew ?_ | refine Blk.drewN ?_ _ | refine Blk.alloc ?_ _ | refine Blk.far ?_ (by dsimp only <;> omega) _)); have Bb5c0 : w5.cell? ⟨(w.heap.size + 1), 0, none⟩ = some (.int .u8 1) := Bb5.cell 0; have Bb5f0 := Bb5.frozen 0; have Bb5c1 : w5.cell? ⟨(w.heap.size + 1), 1, none⟩ = some (.int .i64 j) := Bb5.cell 1; have Bb5f1 := Bb5.frozen 1; have Bb5c2 : w5.cell? ⟨(w.heap.size + 1), 2, none⟩ = some (.string t) := Bb5.cell 2; have Bb5f2 := Bb5.frozen 2; have Br5 : Blk w5 (w.heap.size + 1 + 1) 23 #[.int .u8 0, .int .i64 0, .string ⟨#[]⟩] := blkOf hb5 (by (try simp) <;> omega) (by with_reducible repeat (first | exact Br3 |  (refine Blk.newAt ?_ <;> simp <;> done) | refine Blk.drew ?_ | refine Blk.drewN ?_ _ | refine Blk.alloc ?_ _ | refine Blk.far ?_ (by dsimp only <;> omega) _)); have Br5c0 : w5.cell? ⟨(w.heap.size + 1 + 1), 0, none⟩ = some (.int .u8 0) := Br5.cell 0; have Br5f0 := Br5.frozen 0; have Br5c1 : w5.cell? ⟨(w.heap.size + 1 + 1), 1, none⟩ = some (.int .i64 0) := Br5.cell 1; have Br5f1 := Br5.frozen 1; have Br5c2 : w5.cell? ⟨(w.heap.size + 1 + 1), 2, none⟩ = some (.string ⟨#[]⟩) := Br5.cell 2; have Br5f2 := Br5.frozen 2; have Bn5 : Blk w5 (w.heap.size + 1 + 1 + 1) 23 #[.int .u8 0, .int .i64 0, .string ⟨#[]⟩] := blkOf hb5 (by (try simp) <;> omega) (by with_reducible repeat (first | exact Bn3 |  (refine Blk.newAt ?_ <;> simp <;> done) | refine Blk.drew ?_ | refine Blk.drewN ?_ _ | refine Blk.alloc ?_ _ | refine Blk.far ?_ (by dsimp only <;> omega) _)); have Bn5c0 : w5.cell? ⟨(w.heap.size + 1 + 1 + 1), 0, none⟩ = some (.int .u8 0) := Bn5.cell 0; have Bn5f0 := Bn5.frozen 0; have Bn5c1 : w5.cell? ⟨(w.heap.size + 1 + 1 + 1), 1, none⟩ = some (.int .i64 0) := Bn5.cell 1; have Bn5f1 := Bn5.frozen 1; have Bn5c2 : w5.cell? ⟨(w.heap.size + 1 + 1 + 1), 2, none⟩ = some (.string ⟨#[]⟩) := Bn5.cell 2; have Bn5f2 := Bn5.frozen 2))
    all_goals (refine bodyPost_ret (v := .tuple #[.agg #[.int .u8 0, .int .i64 0, .string ⟨#[]⟩], .bool true]) (by simp [results, Try.results44, go_sem, zV, Vl.agg, *]) rfl ⟨rfl, ?_⟩; (with_reducible (repeat (first | (refine bset ?_ (by dsimp only <;> omega) _) | exact hb3 | exact hb4 | exact hb2 | exact hb1 | refine bto0 ?_ hb3 | refine bto0 ?_ hb4 | refine bto0 ?_ hb2 | refine bto0 ?_ hb1  | exact Below.refl _ _ | refine ball ?_ _ | refine Below.drew ?_ | refine bdr ?_ _))))
  · have hI : opIs op.toList = true := by simp [opIs, h1, h2]
    rw [hI]
    clear hI E1 E2 E3
    go_enter Try.func44, Try.ntmps44
    go_wp2_with fail
    refine (O1.out _).mono ?_
    rintro e w1 ⟨v1, sg1, x1, rfl, hsg1, hval1, ⟨A1, n1, c1, l1, rfl, hr1, hnc1, hnm1, hok1, hdv1, hl1⟩, hb1⟩
    rw [← hdv1] at hval1
    clear hdv1
    have Hval1 := Lib.hid hval1
    clear hval1
    have Hsg1 := Lib.hid hsg1
    clear hsg1
    have Hl1 := Lib.hid hl1
    clear hl1
    have hz1 := hb1.size
    (try simp at hz1)
    have lt1_0 : w.heap.size < w1.heap.size := (by omega)
    have lt1_1 : (w.heap.size + 1) < w1.heap.size := (by omega)
    have lt1_2 : (w.heap.size + 1 + 1) < w1.heap.size := (by omega)
    have lt1_3 : (w.heap.size + 1 + 1 + 1) < w1.heap.size := (by omega)
    have Ba1 : Blk w1 w.heap.size 23 #[.int .u8 0, .int .i64 i, .string s] := blkOf hb1 (by (try simp) <;> omega) (by with_reducible repeat (first |  (refine Blk.newAt ?_ <;> simp <;> done) | refine Blk.drew ?_ | refine Blk.drewN ?_ _ | refine Blk.alloc ?_ _ | refine Blk.far ?_ (by dsimp only <;> omega) _))
    have Ba1c0 : w1.cell? ⟨w.heap.size, 0, none⟩ = some (.int .u8 0) := Ba1.cell 0
    have Ba1f0 := Ba1.frozen 0
    have Ba1c1 : w1.cell? ⟨w.heap.size, 1, none⟩ = some (.int .i64 i) := Ba1.cell 1
    have Ba1f1 := Ba1.frozen 1
    have Ba1c2 : w1.cell? ⟨w.heap.size, 2, none⟩ = some (.string s) := Ba1.cell 2
    have Ba1f2 := Ba1.frozen 2
    have Bb1 : Blk w1 (w.heap.size + 1) 23 #[.int .u8 1, .int .i64 j, .string t] := blkOf hb1 (by (try simp) <;> omega) (by with_reducible repeat (first |  (refine Blk.newAt ?_ <;> simp <;> done) | refine Blk.drew ?_ | refine Blk.drewN ?_ _ | refine Blk.alloc ?_ _ | refine Blk.far ?_ (by dsimp only <;> omega) _))
    have Bb1c0 : w1.cell? ⟨(w.heap.size + 1), 0, none⟩ = some (.int .u8 1) := Bb1.cell 0
    have Bb1f0 := Bb1.frozen 0
    have Bb1c1 : w1.cell? ⟨(w.heap.size + 1), 1, none⟩ = some (.int .i64 j) := Bb1.cell 1
    have Bb1f1 := Bb1.frozen 1
    have Bb1c2 : w1.cell? ⟨(w.heap.size + 1), 2, none⟩ = some (.string t) := Bb1.cell 2
    have Bb1f2 := Bb1.frozen 2
    have Br1 : Blk w1 (w.heap.size + 1 + 1) 23 #[.int .u8 0, .int .i64 0, .string ⟨#[]⟩] := blkOf hb1 (by (try simp) <;> omega) (by with_reducible repeat (first |  (refine Blk.newAt ?_ <;> simp <;> done) | refine Blk.drew ?_ | refine Blk.drewN ?_ _ | refine Blk.alloc ?_ _ | refine Blk.far ?_ (by dsimp only <;> omega) _))
    have Br1c0 : w1.cell? ⟨(w.heap.size + 1 + 1), 0, none⟩ = some (.int .u8 0) := Br1.cell 0
    have Br1f0 := Br1.frozen 0
    have Br1c1 : w1.cell? ⟨(w.heap.size + 1 + 1), 1, none⟩ = some (.int .i64 0) := Br1.cell 1
    have Br1f1 := Br1.frozen 1
    have Br1c2 : w1.cell? ⟨(w.heap.size + 1 + 1), 2, none⟩ = some (.string ⟨#[]⟩) := Br1.cell 2
    have Br1f2 := Br1.frozen 2
    have Bn1 : Blk w1 (w.heap.size + 1 + 1 + 1) 23 #[.int .u8 0, .int .i64 0, .string ⟨#[]⟩] := blkOf hb1 (by (try simp) <;> omega) (by with_reducible repeat (first |  (refine Blk.newAt ?_ <;> simp <;> done) | refine Blk.drew ?_ | refine Blk.drewN ?_ _ | refine Blk.alloc ?_ _ | refine Blk.far ?_ (by dsimp only <;> omega) _))
    have Bn1c0 : w1.cell? ⟨(w.heap.size + 1 + 1 + 1), 0, none⟩ = some (.int .u8 0) := Bn1.cell 0
    have Bn1f0 := Bn1.frozen 0
    have Bn1c1 : w1.cell? ⟨(w.heap.size + 1 + 1 + 1), 1, none⟩ = some (.int .i64 0) := Bn1.cell 1
    have Bn1f1 := Bn1.frozen 1
    have Bn1c2 : w1.cell? ⟨(w.heap.size + 1 + 1 + 1), 2, none⟩ = some (.string ⟨#[]⟩) := Bn1.cell 2
    have Bn1f2 := Bn1.frozen 2
    go_wp2_with fail
    refine (O2.out _).mono ?_
    rintro e w2 ⟨v2, sg2, x2, rfl, hsg2, hval2, ⟨A2, n2, c2, l2, rfl, hr2, hnc2, hnm2, hok2, hdv2, hl2⟩, hb2⟩
    rw [← hdv2] at hval2
    clear hdv2
    have Hval2 := Lib.hid hval2
    clear hval2
    have Hsg2 := Lib.hid hsg2
    clear hsg2
    have Hl2 := Lib.hid hl2
    clear hl2
    have hz2 := hb2.size
    (try simp at hz2)
    have lt2_0 : w.heap.size < w2.heap.size := (by omega)
    have lt2_1 : (w.heap.size + 1) < w2.heap.size := (by omega)
    have lt2_2 : (w.heap.size + 1 + 1) < w2.heap.size := (by omega)
    have lt2_3 : (w.heap.size + 1 + 1 + 1) < w2.heap.size := (by omega)
    have lt2_4 : w1.heap.size < w2.heap.size := (by omega)
    have Ba2 : Blk w2 w.heap.size 23 #[.int .u8 0, .int .i64 i, .string s] := blkOf hb2 (by (try simp) <;> omega) (by with_reducible repeat (first | exact Ba1 |  (refine Blk.newAt ?_ <;> simp <;> done) | refine Blk.drew ?_ | refine Blk.drewN ?_ _ | refine Blk.alloc ?_ _ | refine Blk.far ?_ (by dsimp only <;> omega) _))
    have Ba2c0 : w2.cell? ⟨w.heap.size, 0, none⟩ = some (.int .u8 0) := Ba2.cell 0
    have Ba2f0 := Ba2.frozen 0
    have Ba2c1 : w2.cell? ⟨w.heap.size, 1, none⟩ = some (.int .i64 i) := Ba2.cell 1
    have Ba2f1 := Ba2.frozen 1
    have Ba2c2 : w2.cell? ⟨w.heap.size, 2, none⟩ = some (.string s) := Ba2.cell 2
    have Ba2f2 := Ba2.frozen 2
    have Bb2 : Blk w2 (w.heap.size + 1) 23 #[.int .u8 1, .int .i64 j, .string t] := blkOf hb2 (by (try simp) <;> omega) (by with_reducible repeat (first | exact Bb1 |  (refine Blk.newAt ?_ <;> simp <;> done) | refine Blk.drew ?_ | refine Blk.drewN ?_ _ | refine Blk.alloc ?_ _ | refine Blk.far ?_ (by dsimp only <;> omega) _))
    have Bb2c0 : w2.cell? ⟨(w.heap.size + 1), 0, none⟩ = some (.int .u8 1) := Bb2.cell 0
    have Bb2f0 := Bb2.frozen 0
    have Bb2c1 : w2.cell? ⟨(w.heap.size + 1), 1, none⟩ = some (.int .i64 j) := Bb2.cell 1
    have Bb2f1 := Bb2.frozen 1
    have Bb2c2 : w2.cell? ⟨(w.heap.size + 1), 2, none⟩ = some (.string t) := Bb2.cell 2
    have Bb2f2 := Bb2.frozen 2
    have Br2 : Blk w2 (w.heap.size + 1 + 1) 23 #[.int .u8 0, .int .i64 0, .string ⟨#[]⟩] := blkOf hb2 (by (try simp) <;> omega) (by with_reducible repeat (first | exact Br1 |  (refine Blk.newAt ?_ <;> simp <;> done) | refine Blk.drew ?_ | refine Blk.drewN ?_ _ | refine Blk.alloc ?_ _ | refine Blk.far ?_ (by dsimp only <;> omega) _))
    have Br2c0 : w2.cell? ⟨(w.heap.size + 1 + 1), 0, none⟩ = some (.int .u8 0) := Br2.cell 0
    have Br2f0 := Br2.frozen 0
    have Br2c1 : w2.cell? ⟨(w.heap.size + 1 + 1), 1, none⟩ = some (.int .i64 0) := Br2.cell 1
    have Br2f1 := Br2.frozen 1
    have Br2c2 : w2.cell? ⟨(w.heap.size + 1 + 1), 2, none⟩ = some (.string ⟨#[]⟩) := Br2.cell 2
    have Br2f2 := Br2.frozen 2
    have Bn2 : Blk w2 (w.heap.size + 1 + 1 + 1) 23 #[.int .u8 0, .int .i64 0, .string ⟨#[]⟩] := blkOf hb2 (by (try simp) <;> omega) (by with_reducible repeat (first | exact Bn1 |  (refine Blk.newAt ?_ <;> simp <;> done) | refine Blk.drew ?_ | refine Blk.drewN ?_ _ | refine Blk.alloc ?_ _ | refine Blk.far ?_ (by dsimp only <;> omega) _))
    have Bn2c0 : w2.cell? ⟨(w.heap.size + 1 + 1 + 1), 0, none⟩ = some (.int .u8 0) := Bn2.cell 0
    have Bn2f0 := Bn2.frozen 0
    have Bn2c1 : w2.cell? ⟨(w.heap.size + 1 + 1 + 1), 1, none⟩ = some (.int .i64 0) := Bn2.cell 1
    have Bn2f1 := Bn2.frozen 1
    have Bn2c2 : w2.cell? ⟨(w.heap.size + 1 + 1 + 1), 2, none⟩ = some (.string ⟨#[]⟩) := Bn2.cell 2
    have Bn2f2 := Bn2.frozen 2
    have Bx2 : Blk w2 w1.heap.size 73 #[.int .i64 sg1, .slice A1 n1 c1] := blkOf hb2 (by (try simp) <;> omega) (by with_reducible repeat (first |  (refine Blk.newAt ?_ <;> simp <;> done) | refine Blk.drew ?_ | refine Blk.drewN ?_ _ | refine Blk.alloc ?_ _ | refine Blk.far ?_ (by dsimp only <;> omega) _))
    have Bx2c0 : w2.cell? ⟨w1.heap.size, 0, none⟩ = some (.int .i64 sg1) := Bx2.cell 0
    have Bx2f0 := Bx2.frozen 0
    have Bx2c1 : w2.cell? ⟨w1.heap.size, 1, none⟩ = some (.slice A1 n1 c1) := Bx2.cell 1
    have Bx2f1 := Bx2.frozen 1
    have VAL : Hid (sg1 * ((dv l1 : Nat) : Int) + -sg2 * ((dv l2 : Nat) : Int) = i - j) := Lib.hid (by rw [Int.neg_mul, Hval1.out, Hval2.out]; exact Int.sub_eq_add_neg.symm)
    have n2' := Hsg2.out
    have N2n : Hid (-sg2 = 1 ∨ -sg2 = -1) := Lib.hid (by omega)
    have sb3 : -1 ≤ sg2 := by omega
    have sb4 : sg2 ≤ 1 := by omega
    clear n2'
    go_wp2_with fail
    go_region_with (first | (go_at_call 40; refine (turn_any sg2 sb3 sb4 A2 n2 c2 _).mono ?_; rintro e w4 ⟨rfl, hb4⟩; have hz4 := hb4.size; (try simp at hz4); have lt4_0 : w.heap.size < w4.heap.size := (by omega); have lt4_1 : (w.heap.size + 1) < w4.heap.size := (by omega); have lt4_2 : (w.heap.size + 1 + 1) < w4.heap.size := (by omega); have lt4_3 : (w.heap.size + 1 + 1 + 1) < w4.heap.size := (by omega); have lt4_4 : w1.heap.size < w4.heap.size := (by omega); have lt4_5 : w2.heap.size < w4.heap.size := (by omega); have lt4_6 : (w2.heap.size + 1) < w4.heap.size := (by omega); have Ba4 : Blk w4 w.heap.size 23 #[.int .u8 0, .int .i64 i, .string s] := blkOf hb4 (by (try simp) <;> omega) (by with_reducible repeat (first | exact Ba2 |  (refine Blk.newAt ?_ <;> simp <;> done) | refine Blk.drew ?_ | refine Blk.drewN ?_ _ | refine Blk.alloc ?_ _ | refine Blk.far ?_ (by dsimp only <;> omega) _)); have Ba4c0 : w4.cell? ⟨w.heap.size, 0, none⟩ = some (.int .u8 0) := Ba4.cell 0; have Ba4f0 := Ba4.frozen 0; have Ba4c1 : w4.cell? ⟨w.heap.size, 1, none⟩ = some (.int .i64 i) := Ba4.cell 1; have Ba4f1 := Ba4.frozen 1; have Ba4c2 : w4.cell? ⟨w.heap.size, 2, none⟩ = some (.string s) := Ba4.cell 2; have Ba4f2 := Ba4.frozen 2; have Bb4 : Blk w4 (w.heap.size + 1) 23 #[.int .u8 1, .int .i64 j, .string t] := blkOf hb4 (by (try simp) <;> omega) (by with_reducible repeat (first | exact Bb2 |  (refine Blk.newAt ?_ <;> simp <;> done) | refine Blk.drew ?_ | refine Blk.drewN ?_ _ | refine Blk.alloc ?_ _ | refine Blk.far ?_ (by dsimp only <;> omega) _)); have Bb4c0 : w4.cell? ⟨(w.heap.size + 1), 0, none⟩ = some (.int .u8 1) := Bb4.cell 0; have Bb4f0 := Bb4.frozen 0; have Bb4c1 : w4.cell? ⟨(w.heap.size + 1), 1, none⟩ = some (.int .i64 j) := Bb4.cell 1; have Bb4f1 := Bb4.frozen 1; have Bb4c2 : w4.cell? ⟨(w.heap.size + 1), 2, none⟩ = some (.string t) := Bb4.cell 2; have Bb4f2 := Bb4.frozen 2; have Br4 : Blk w4 (w.heap.size + 1 + 1) 23 #[.int .u8 0, .int .i64 0, .string ⟨#[]⟩] := blkOf hb4 (by (try simp) <;> omega) (by with_reducible repeat (first | exact Br2 |  (refine Blk.newAt ?_ <;> simp <;> done) | refine Blk.drew ?_ | refine Blk.drewN ?_ _ | refine Blk.alloc ?_ _ | refine Blk.far ?_ (by dsimp only <;> omega) _)); have Br4c0 : w4.cell? ⟨(w.heap.size + 1 + 1), 0, none⟩ = some (.int .u8 0) := Br4.cell 0; have Br4f0 := Br4.frozen 0; have Br4c1 : w4.cell? ⟨(w.heap.size + 1 + 1), 1, none⟩ = some (.int .i64 0) := Br4.cell 1; have Br4f1 := Br4.frozen 1; have Br4c2 : w4.cell? ⟨(w.heap.size + 1 + 1), 2, none⟩ = some (.string ⟨#[]⟩) := Br4.cell 2; have Br4f2 := Br4.frozen 2; have Bn4 : Blk w4 (w.heap.size + 1 + 1 + 1) 23 #[.int .u8 0, .int .i64 0, .string ⟨#[]⟩] := blkOf hb4 (by (try simp) <;> omega) (by with_reducible repeat (first | exact Bn2 |  (refine Blk.newAt ?_ <;> simp <;> done) | refine Blk.drew ?_ | refine Blk.drewN ?_ _ | refine Blk.alloc ?_ _ | refine Blk.far ?_ (by dsimp only <;> omega) _)); have Bn4c0 : w4.cell? ⟨(w.heap.size + 1 + 1 + 1), 0, none⟩ = some (.int .u8 0) := Bn4.cell 0; have Bn4f0 := Bn4.frozen 0; have Bn4c1 : w4.cell? ⟨(w.heap.size + 1 + 1 + 1), 1, none⟩ = some (.int .i64 0) := Bn4.cell 1; have Bn4f1 := Bn4.frozen 1; have Bn4c2 : w4.cell? ⟨(w.heap.size + 1 + 1 + 1), 2, none⟩ = some (.string ⟨#[]⟩) := Bn4.cell 2; have Bn4f2 := Bn4.frozen 2; have Bx4 : Blk w4 w1.heap.size 73 #[.int .i64 sg1, .slice A1 n1 c1] := blkOf hb4 (by (try simp) <;> omega) (by with_reducible repeat (first | exact Bx2 |  (refine Blk.newAt ?_ <;> simp <;> done) | refine Blk.drew ?_ | refine Blk.drewN ?_ _ | refine Blk.alloc ?_ _ | refine Blk.far ?_ (by dsimp only <;> omega) _)); have Bx4c0 : w4.cell? ⟨w1.heap.size, 0, none⟩ = some (.int .i64 sg1) := Bx4.cell 0; have Bx4f0 := Bx4.frozen 0; have Bx4c1 : w4.cell? ⟨w1.heap.size, 1, none⟩ = some (.slice A1 n1 c1) := Bx4.cell 1; have Bx4f1 := Bx4.frozen 1; have By4 : Blk w4 w2.heap.size 73 #[.int .i64 sg2, .slice A2 n2 c2] := blkOf hb4 (by (try simp) <;> omega) (by with_reducible repeat (first |  (refine Blk.newAt ?_ <;> simp <;> done) | refine Blk.drew ?_ | refine Blk.drewN ?_ _ | refine Blk.alloc ?_ _ | refine Blk.far ?_ (by dsimp only <;> omega) _)); have By4c0 : w4.cell? ⟨w2.heap.size, 0, none⟩ = some (.int .i64 sg2) := By4.cell 0; have By4f0 := By4.frozen 0; have By4c1 : w4.cell? ⟨w2.heap.size, 1, none⟩ = some (.slice A2 n2 c2) := By4.cell 1; have By4f1 := By4.frozen 1; have Bz4 : Blk w4 (w2.heap.size + 1) 73 #[.int .i64 0, .slice none 0 0] := blkOf hb4 (by (try simp) <;> omega) (by with_reducible repeat (first |  (refine Blk.newAt ?_ <;> simp <;> done) | refine Blk.drew ?_ | refine Blk.drewN ?_ _ | refine Blk.alloc ?_ _ | refine Blk.far ?_ (by dsimp only <;> omega) _)); have Bz4c0 : w4.cell? ⟨(w2.heap.size + 1), 0, none⟩ = some (.int .i64 0) := Bz4.cell 0; have Bz4f0 := Bz4.frozen 0; have Bz4c1 : w4.cell? ⟨(w2.heap.size + 1), 1, none⟩ = some (.slice none 0 0) := Bz4.cell 1; have Bz4f1 := Bz4.frozen 1) | (go_at_call 58; refine (plus_any sg1 (-sg2) Hsg1.out N2n.out A1 n1 c1 l1 A2 n2 c2 l2 _ (hr1.up (by (with_reducible repeat (first | refine bset ?_ (by dsimp only <;> omega) _ | exact Below.refl _ _ | exact hb4 | exact hb2 | refine bto0 ?_ hb4 | refine bto0 ?_ hb2 | refine bdr ?_ _ | refine Below.drew ?_ | refine ball ?_ _)))) (hr2.up (by (with_reducible repeat (first | refine bset ?_ (by dsimp only <;> omega) _ | exact Below.refl _ _ | exact hb4 | exact hb2 | refine bto0 ?_ hb4 | refine bto0 ?_ hb2 | refine bdr ?_ _ | refine Below.drew ?_ | refine ball ?_ _)))) hok1 hok2 (Nat.le_trans hnm1 (by decide)) (Nat.le_trans hnm2 (by decide)) hnc1 hnc2).mono ?_; rintro e w3 ⟨v3, sg3, x3, rfl, hsg3, hval3, ⟨A3, n3, c3, l3, rfl, hr3, hnc3, hnm3, hok3, hdv3, hl3⟩, hb3⟩; rw [← hdv3] at hval3; clear hdv3; have Hval3 := Lib.hid hval3; clear hval3; have Hsg3 := Lib.hid hsg3; clear hsg3; have Hl3 := Lib.hid hl3; clear hl3; have hz3 := hb3.size; (try simp at hz3); have lt3_0 : w.heap.size < w3.heap.size := (by omega); have lt3_1 : (w.heap.size + 1) < w3.heap.size := (by omega); have lt3_2 : (w.heap.size + 1 + 1) < w3.heap.size := (by omega); have lt3_3 : (w.heap.size + 1 + 1 + 1) < w3.heap.size := (by omega); have lt3_4 : w1.heap.size < w3.heap.size := (by omega); have lt3_5 : w2.heap.size < w3.heap.size := (by omega); have lt3_6 : (w2.heap.size + 1) < w3.heap.size := (by omega); have Ba3 : Blk w3 w.heap.size 23 #[.int .u8 0, .int .i64 i, .string s] := blkOf hb3 (by (try simp) <;> omega) (by with_reducible repeat (first | exact Ba4 |  (refine Blk.newAt ?_ <;> simp <;> done) | refine Blk.drew ?_ | refine Blk.drewN ?_ _ | refine Blk.alloc ?_ _ | refine Blk.far ?_ (by dsimp only <;> omega) _)); have Ba3c0 : w3.cell? ⟨w.heap.size, 0, none⟩ = some (.int .u8 0) := Ba3.cell 0; have Ba3f0 := Ba3.frozen 0; have Ba3c1 : w3.cell? ⟨w.heap.size, 1, none⟩ = some (.int .i64 i) := Ba3.cell 1; have Ba3f1 := Ba3.frozen 1; have Ba3c2 : w3.cell? ⟨w.heap.size, 2, none⟩ = some (.string s) := Ba3.cell 2; have Ba3f2 := Ba3.frozen 2; have Bb3 : Blk w3 (w.heap.size + 1) 23 #[.int .u8 1, .int .i64 j, .string t] := blkOf hb3 (by (try simp) <;> omega) (by with_reducible repeat (first | exact Bb4 |  (refine Blk.newAt ?_ <;> simp <;> done) | refine Blk.drew ?_ | refine Blk.drewN ?_ _ | refine Blk.alloc ?_ _ | refine Blk.far ?_ (by dsimp only <;> omega) _)); have Bb3c0 : w3.cell? ⟨(w.heap.size + 1), 0, none⟩ = some (.int .u8 1) := Bb3.cell 0; have Bb3f0 := Bb3.frozen 0; have Bb3c1 : w3.cell? ⟨(w.heap.size + 1), 1, none⟩ = some (.int .i64 j) := Bb3.cell 1; have Bb3f1 := Bb3.frozen 1; have Bb3c2 : w3.cell? ⟨(w.heap.size + 1), 2, none⟩ = some (.string t) := Bb3.cell 2; have Bb3f2 := Bb3.frozen 2; have Br3 : Blk w3 (w.heap.size + 1 + 1) 23 #[.int .u8 0, .int .i64 0, .string ⟨#[]⟩] := blkOf hb3 (by (try simp) <;> omega) (by with_reducible repeat (first | exact Br4 |  (refine Blk.newAt ?_ <;> simp <;> done) | refine Blk.drew ?_ | refine Blk.drewN ?_ _ | refine Blk.alloc ?_ _ | refine Blk.far ?_ (by dsimp only <;> omega) _)); have Br3c0 : w3.cell? ⟨(w.heap.size + 1 + 1), 0, none⟩ = some (.int .u8 0) := Br3.cell 0; have Br3f0 := Br3.frozen 0; have Br3c1 : w3.cell? ⟨(w.heap.size + 1 + 1), 1, none⟩ = some (.int .i64 0) := Br3.cell 1; have Br3f1 := Br3.frozen 1; have Br3c2 : w3.cell? ⟨(w.heap.size + 1 + 1), 2, none⟩ = some (.string ⟨#[]⟩) := Br3.cell 2; have Br3f2 := Br3.frozen 2; have Bn3 : Blk w3 (w.heap.size + 1 + 1 + 1) 23 #[.int .u8 0, .int .i64 0, .string ⟨#[]⟩] := blkOf hb3 (by (try simp) <;> omega) (by with_reducible repeat (first | exact Bn4 |  (refine Blk.newAt ?_ <;> simp <;> done) | refine Blk.drew ?_ | refine Blk.drewN ?_ _ | refine Blk.alloc ?_ _ | refine Blk.far ?_ (by dsimp only <;> omega) _)); have Bn3c0 : w3.cell? ⟨(w.heap.size + 1 + 1 + 1), 0, none⟩ = some (.int .u8 0) := Bn3.cell 0; have Bn3f0 := Bn3.frozen 0; have Bn3c1 : w3.cell? ⟨(w.heap.size + 1 + 1 + 1), 1, none⟩ = some (.int .i64 0) := Bn3.cell 1; have Bn3f1 := Bn3.frozen 1; have Bn3c2 : w3.cell? ⟨(w.heap.size + 1 + 1 + 1), 2, none⟩ = some (.string ⟨#[]⟩) := Bn3.cell 2; have Bn3f2 := Bn3.frozen 2; have Bx3 : Blk w3 w1.heap.size 73 #[.int .i64 sg1, .slice A1 n1 c1] := blkOf hb3 (by (try simp) <;> omega) (by with_reducible repeat (first | exact Bx4 |  (refine Blk.newAt ?_ <;> simp <;> done) | refine Blk.drew ?_ | refine Blk.drewN ?_ _ | refine Blk.alloc ?_ _ | refine Blk.far ?_ (by dsimp only <;> omega) _)); have Bx3c0 : w3.cell? ⟨w1.heap.size, 0, none⟩ = some (.int .i64 sg1) := Bx3.cell 0; have Bx3f0 := Bx3.frozen 0; have Bx3c1 : w3.cell? ⟨w1.heap.size, 1, none⟩ = some (.slice A1 n1 c1) := Bx3.cell 1; have Bx3f1 := Bx3.frozen 1; have By3 : Blk w3 w2.heap.size 73 #[.int .i64 sg2, .slice A2 n2 c2] := blkOf hb3 (by (try simp) <;> omega) (by with_reducible repeat (first | exact By4 |  (refine Blk.newAt ?_ <;> simp <;> done) | refine Blk.drew ?_ | refine Blk.drewN ?_ _ | refine Blk.alloc ?_ _ | refine Blk.far ?_ (by dsimp only <;> omega) _)); have By3c0 : w3.cell? ⟨w2.heap.size, 0, none⟩ = some (.int .i64 sg2) := By3.cell 0; have By3f0 := By3.frozen 0; have By3c1 : w3.cell? ⟨w2.heap.size, 1, none⟩ = some (.slice A2 n2 c2) := By3.cell 1; have By3f1 := By3.frozen 1; have Bz3 : Blk w3 (w2.heap.size + 1) 73 #[.int .i64 0, .slice none 0 0] := blkOf hb3 (by (try simp) <;> omega) (by with_reducible repeat (first | exact Bz4 |  (refine Blk.newAt ?_ <;> simp <;> done) | refine Blk.drew ?_ | refine Blk.drewN ?_ _ | refine Blk.alloc ?_ _ | refine Blk.far ?_ (by dsimp only <;> omega) _)); have Bz3c0 : w3.cell? ⟨(w2.heap.size + 1), 0, none⟩ = some (.int .i64 0) := Bz3.cell 0; have Bz3f0 := Bz3.frozen 0; have Bz3c1 : w3.cell? ⟨(w2.heap.size + 1), 1, none⟩ = some (.slice none 0 0) := Bz3.cell 1; have Bz3f1 := Bz3.frozen 1; have f3 := hr3.offN Bz3))
    all_goals go_wp2_with (go_at_call 39; refine (right_z sg3 Hsg3.out A3 n3 c3 l3 (i - j) RX _ (by rw [Hval3.out]; exact VAL.out) HE.out _ ((hr3.sf f3 _).sf f3 _) hok3 (by first | exact bd3 hnm3 hnm1 hnm2 | exact bd4 hnm3 hnm1 hnm2) hnc3).mono ?_; rintro e w5 ⟨rfl, hb5⟩; have hz5 := hb5.size; (try simp [size_set] at hz5); have lt5_0 : w.heap.size < w5.heap.size := (by omega); have lt5_1 : (w.heap.size + 1) < w5.heap.size := (by omega); have lt5_2 : (w.heap.size + 1 + 1) < w5.heap.size := (by omega); have lt5_3 : (w.heap.size + 1 + 1 + 1) < w5.heap.size := (by omega); have Ba5 : Blk w5 w.heap.size 23 #[.int .u8 0, .int .i64 i, .string s] := blkOf hb5 (by (try simp) <;> omega) (by with_reducible repeat (first | exact Ba3 |  (refine Blk.newAt ?_ <;> simp <;> done) | refine Blk.drew ?_ | refine Blk.drewN ?_ _ | refine Blk.alloc ?_ _ | refine Blk.far ?_ (by dsimp only <;> omega) _)); have Ba5c0 : w5.cell? ⟨w.heap.size, 0, none⟩ = some (.int .u8 0) := Ba5.cell 0; have Ba5f0 := Ba5.frozen 0; have Ba5c1 : w5.cell? ⟨w.heap.size, 1, none⟩ = some (.int .i64 i) := Ba5.cell 1; have Ba5f1 := Ba5.frozen 1; have Ba5c2 : w5.cell? ⟨w.heap.size, 2, none⟩ = some (.string s) := Ba5.cell 2; have Ba5f2 := Ba5.frozen 2; have Bb5 : Blk w5 (w.heap.size + 1) 23 #[.int .u8 1, .int .i64 j, .string t] := blkOf hb5 (by (try simp) <;> omega) (by with_reducible repeat (first | exact Bb3 |  (refine Blk.newAt ?_ <;> simp <;> done) | refine Blk.drew ?_ | refine Blk.drewN ?_ _ | refine Blk.alloc ?_ _ | refine Blk.far ?_ (by dsimp only <;> omega) _)); have Bb5c0 : w5.cell? ⟨(w.heap.size + 1), 0, none⟩ = some (.int .u8 1) := Bb5.cell 0; have Bb5f0 := Bb5.frozen 0; have Bb5c1 : w5.cell? ⟨(w.heap.size + 1), 1, none⟩ = some (.int .i64 j) := Bb5.cell 1; have Bb5f1 := Bb5.frozen 1; have Bb5c2 : w5.cell? ⟨(w.heap.size + 1), 2, none⟩ = some (.string t) := Bb5.cell 2; have Bb5f2 := Bb5.frozen 2; have Br5 : Blk w5 (w.heap.size + 1 + 1) 23 #[.int .u8 0, .int .i64 0, .string ⟨#[]⟩] := blkOf hb5 (by (try simp) <;> omega) (by with_reducible repeat (first | exact Br3 |  (refine Blk.newAt ?_ <;> simp <;> done) | refine Blk.drew ?_ | refine Blk.drewN ?_ _ | refine Blk.alloc ?_ _ | refine Blk.far ?_ (by dsimp only <;> omega) _)); have Br5c0 : w5.cell? ⟨(w.heap.size + 1 + 1), 0, none⟩ = some (.int .u8 0) := Br5.cell 0; have Br5f0 := Br5.frozen 0; have Br5c1 : w5.cell? ⟨(w.heap.size + 1 + 1), 1, none⟩ = some (.int .i64 0) := Br5.cell 1; have Br5f1 := Br5.frozen 1; have Br5c2 : w5.cell? ⟨(w.heap.size + 1 + 1), 2, none⟩ = some (.string ⟨#[]⟩) := Br5.cell 2; have Br5f2 := Br5.frozen 2; have Bn5 : Blk w5 (w.heap.size + 1 + 1 + 1) 23 #[.int .u8 0, .int .i64 0, .string ⟨#[]⟩] := blkOf hb5 (by (try simp) <;> omega) (by with_reducible repeat (first | exact Bn3 |  (refine Blk.newAt ?_ <;> simp <;> done) | refine Blk.drew ?_ | refine Blk.drewN ?_ _ | refine Blk.alloc ?_ _ | refine Blk.far ?_ (by dsimp only <;> omega) _)); have Bn5c0 : w5.cell? ⟨(w.heap.size + 1 + 1 + 1), 0, none⟩ = some (.int .u8 0) := Bn5.cell 0; have Bn5f0 := Bn5.frozen 0; have Bn5c1 : w5.cell? ⟨(w.heap.size + 1 + 1 + 1), 1, none⟩ = some (.int .i64 0) := Bn5.cell 1; have Bn5f1 := Bn5.frozen 1; have Bn5c2 : w5.cell? ⟨(w.heap.size + 1 + 1 + 1), 2, none⟩ = some (.string ⟨#[]⟩) := Bn5.cell 2; have Bn5f2 := Bn5.frozen 2)
    all_goals (refine bodyPost_ret (v := .tuple #[.agg #[.int .u8 0, .int .i64 0, .string ⟨#[]⟩], .bool true]) (by simp [results, Try.results44, go_sem, zV, Vl.agg, *]) rfl ⟨rfl, ?_⟩; (with_reducible (repeat (first | (refine bset ?_ (by dsimp only <;> omega) _) | exact hb3 | exact hb4 | exact hb2 | exact hb1 | refine bto0 ?_ hb3 | refine bto0 ?_ hb4 | refine bto0 ?_ hb2 | refine bto0 ?_ hb1  | exact Below.refl _ _ | refine ball ?_ _ | refine Below.drew ?_ | refine bdr ?_ _))))
  · have hI : opIs op.toList = true := by simp [opIs, h1, h2, h3]
    rw [hI]
    clear hI E1 E2 E3
    go_enter Try.func44, Try.ntmps44
    go_wp2_with fail
    refine (O1.out _).mono ?_
    rintro e w1 ⟨v1, sg1, x1, rfl, hsg1, hval1, ⟨A1, n1, c1, l1, rfl, hr1, hnc1, hnm1, hok1, hdv1, hl1⟩, hb1⟩
    rw [← hdv1] at hval1
    clear hdv1
    have Hval1 := Lib.hid hval1
    clear hval1
    have Hsg1 := Lib.hid hsg1
    clear hsg1
    have Hl1 := Lib.hid hl1
    clear hl1
    have hz1 := hb1.size
    (try simp at hz1)
    have lt1_0 : w.heap.size < w1.heap.size := (by omega)
    have lt1_1 : (w.heap.size + 1) < w1.heap.size := (by omega)
    have lt1_2 : (w.heap.size + 1 + 1) < w1.heap.size := (by omega)
    have lt1_3 : (w.heap.size + 1 + 1 + 1) < w1.heap.size := (by omega)
    have Ba1 : Blk w1 w.heap.size 23 #[.int .u8 0, .int .i64 i, .string s] := blkOf hb1 (by (try simp) <;> omega) (by with_reducible repeat (first |  (refine Blk.newAt ?_ <;> simp <;> done) | refine Blk.drew ?_ | refine Blk.drewN ?_ _ | refine Blk.alloc ?_ _ | refine Blk.far ?_ (by dsimp only <;> omega) _))
    have Ba1c0 : w1.cell? ⟨w.heap.size, 0, none⟩ = some (.int .u8 0) := Ba1.cell 0
    have Ba1f0 := Ba1.frozen 0
    have Ba1c1 : w1.cell? ⟨w.heap.size, 1, none⟩ = some (.int .i64 i) := Ba1.cell 1
    have Ba1f1 := Ba1.frozen 1
    have Ba1c2 : w1.cell? ⟨w.heap.size, 2, none⟩ = some (.string s) := Ba1.cell 2
    have Ba1f2 := Ba1.frozen 2
    have Bb1 : Blk w1 (w.heap.size + 1) 23 #[.int .u8 1, .int .i64 j, .string t] := blkOf hb1 (by (try simp) <;> omega) (by with_reducible repeat (first |  (refine Blk.newAt ?_ <;> simp <;> done) | refine Blk.drew ?_ | refine Blk.drewN ?_ _ | refine Blk.alloc ?_ _ | refine Blk.far ?_ (by dsimp only <;> omega) _))
    have Bb1c0 : w1.cell? ⟨(w.heap.size + 1), 0, none⟩ = some (.int .u8 1) := Bb1.cell 0
    have Bb1f0 := Bb1.frozen 0
    have Bb1c1 : w1.cell? ⟨(w.heap.size + 1), 1, none⟩ = some (.int .i64 j) := Bb1.cell 1
    have Bb1f1 := Bb1.frozen 1
    have Bb1c2 : w1.cell? ⟨(w.heap.size + 1), 2, none⟩ = some (.string t) := Bb1.cell 2
    have Bb1f2 := Bb1.frozen 2
    have Br1 : Blk w1 (w.heap.size + 1 + 1) 23 #[.int .u8 0, .int .i64 0, .string ⟨#[]⟩] := blkOf hb1 (by (try simp) <;> omega) (by with_reducible repeat (first |  (refine Blk.newAt ?_ <;> simp <;> done) | refine Blk.drew ?_ | refine Blk.drewN ?_ _ | refine Blk.alloc ?_ _ | refine Blk.far ?_ (by dsimp only <;> omega) _))
    have Br1c0 : w1.cell? ⟨(w.heap.size + 1 + 1), 0, none⟩ = some (.int .u8 0) := Br1.cell 0
    have Br1f0 := Br1.frozen 0
    have Br1c1 : w1.cell? ⟨(w.heap.size + 1 + 1), 1, none⟩ = some (.int .i64 0) := Br1.cell 1
    have Br1f1 := Br1.frozen 1
    have Br1c2 : w1.cell? ⟨(w.heap.size + 1 + 1), 2, none⟩ = some (.string ⟨#[]⟩) := Br1.cell 2
    have Br1f2 := Br1.frozen 2
    have Bn1 : Blk w1 (w.heap.size + 1 + 1 + 1) 23 #[.int .u8 0, .int .i64 0, .string ⟨#[]⟩] := blkOf hb1 (by (try simp) <;> omega) (by with_reducible repeat (first |  (refine Blk.newAt ?_ <;> simp <;> done) | refine Blk.drew ?_ | refine Blk.drewN ?_ _ | refine Blk.alloc ?_ _ | refine Blk.far ?_ (by dsimp only <;> omega) _))
    have Bn1c0 : w1.cell? ⟨(w.heap.size + 1 + 1 + 1), 0, none⟩ = some (.int .u8 0) := Bn1.cell 0
    have Bn1f0 := Bn1.frozen 0
    have Bn1c1 : w1.cell? ⟨(w.heap.size + 1 + 1 + 1), 1, none⟩ = some (.int .i64 0) := Bn1.cell 1
    have Bn1f1 := Bn1.frozen 1
    have Bn1c2 : w1.cell? ⟨(w.heap.size + 1 + 1 + 1), 2, none⟩ = some (.string ⟨#[]⟩) := Bn1.cell 2
    have Bn1f2 := Bn1.frozen 2
    go_wp2_with fail
    refine (O2.out _).mono ?_
    rintro e w2 ⟨v2, sg2, x2, rfl, hsg2, hval2, ⟨A2, n2, c2, l2, rfl, hr2, hnc2, hnm2, hok2, hdv2, hl2⟩, hb2⟩
    rw [← hdv2] at hval2
    clear hdv2
    have Hval2 := Lib.hid hval2
    clear hval2
    have Hsg2 := Lib.hid hsg2
    clear hsg2
    have Hl2 := Lib.hid hl2
    clear hl2
    have hz2 := hb2.size
    (try simp at hz2)
    have lt2_0 : w.heap.size < w2.heap.size := (by omega)
    have lt2_1 : (w.heap.size + 1) < w2.heap.size := (by omega)
    have lt2_2 : (w.heap.size + 1 + 1) < w2.heap.size := (by omega)
    have lt2_3 : (w.heap.size + 1 + 1 + 1) < w2.heap.size := (by omega)
    have lt2_4 : w1.heap.size < w2.heap.size := (by omega)
    have Ba2 : Blk w2 w.heap.size 23 #[.int .u8 0, .int .i64 i, .string s] := blkOf hb2 (by (try simp) <;> omega) (by with_reducible repeat (first | exact Ba1 |  (refine Blk.newAt ?_ <;> simp <;> done) | refine Blk.drew ?_ | refine Blk.drewN ?_ _ | refine Blk.alloc ?_ _ | refine Blk.far ?_ (by dsimp only <;> omega) _))
    have Ba2c0 : w2.cell? ⟨w.heap.size, 0, none⟩ = some (.int .u8 0) := Ba2.cell 0
    have Ba2f0 := Ba2.frozen 0
    have Ba2c1 : w2.cell? ⟨w.heap.size, 1, none⟩ = some (.int .i64 i) := Ba2.cell 1
    have Ba2f1 := Ba2.frozen 1
    have Ba2c2 : w2.cell? ⟨w.heap.size, 2, none⟩ = some (.string s) := Ba2.cell 2
    have Ba2f2 := Ba2.frozen 2
    have Bb2 : Blk w2 (w.heap.size + 1) 23 #[.int .u8 1, .int .i64 j, .string t] := blkOf hb2 (by (try simp) <;> omega) (by with_reducible repeat (first | exact Bb1 |  (refine Blk.newAt ?_ <;> simp <;> done) | refine Blk.drew ?_ | refine Blk.drewN ?_ _ | refine Blk.alloc ?_ _ | refine Blk.far ?_ (by dsimp only <;> omega) _))
    have Bb2c0 : w2.cell? ⟨(w.heap.size + 1), 0, none⟩ = some (.int .u8 1) := Bb2.cell 0
    have Bb2f0 := Bb2.frozen 0
    have Bb2c1 : w2.cell? ⟨(w.heap.size + 1), 1, none⟩ = some (.int .i64 j) := Bb2.cell 1
    have Bb2f1 := Bb2.frozen 1
    have Bb2c2 : w2.cell? ⟨(w.heap.size + 1), 2, none⟩ = some (.string t) := Bb2.cell 2
    have Bb2f2 := Bb2.frozen 2
    have Br2 : Blk w2 (w.heap.size + 1 + 1) 23 #[.int .u8 0, .int .i64 0, .string ⟨#[]⟩] := blkOf hb2 (by (try simp) <;> omega) (by with_reducible repeat (first | exact Br1 |  (refine Blk.newAt ?_ <;> simp <;> done) | refine Blk.drew ?_ | refine Blk.drewN ?_ _ | refine Blk.alloc ?_ _ | refine Blk.far ?_ (by dsimp only <;> omega) _))
    have Br2c0 : w2.cell? ⟨(w.heap.size + 1 + 1), 0, none⟩ = some (.int .u8 0) := Br2.cell 0
    have Br2f0 := Br2.frozen 0
    have Br2c1 : w2.cell? ⟨(w.heap.size + 1 + 1), 1, none⟩ = some (.int .i64 0) := Br2.cell 1
    have Br2f1 := Br2.frozen 1
    have Br2c2 : w2.cell? ⟨(w.heap.size + 1 + 1), 2, none⟩ = some (.string ⟨#[]⟩) := Br2.cell 2
    have Br2f2 := Br2.frozen 2
    have Bn2 : Blk w2 (w.heap.size + 1 + 1 + 1) 23 #[.int .u8 0, .int .i64 0, .string ⟨#[]⟩] := blkOf hb2 (by (try simp) <;> omega) (by with_reducible repeat (first | exact Bn1 |  (refine Blk.newAt ?_ <;> simp <;> done) | refine Blk.drew ?_ | refine Blk.drewN ?_ _ | refine Blk.alloc ?_ _ | refine Blk.far ?_ (by dsimp only <;> omega) _))
    have Bn2c0 : w2.cell? ⟨(w.heap.size + 1 + 1 + 1), 0, none⟩ = some (.int .u8 0) := Bn2.cell 0
    have Bn2f0 := Bn2.frozen 0
    have Bn2c1 : w2.cell? ⟨(w.heap.size + 1 + 1 + 1), 1, none⟩ = some (.int .i64 0) := Bn2.cell 1
    have Bn2f1 := Bn2.frozen 1
    have Bn2c2 : w2.cell? ⟨(w.heap.size + 1 + 1 + 1), 2, none⟩ = some (.string ⟨#[]⟩) := Bn2.cell 2
    have Bn2f2 := Bn2.frozen 2
    have Bx2 : Blk w2 w1.heap.size 73 #[.int .i64 sg1, .slice A1 n1 c1] := blkOf hb2 (by (try simp) <;> omega) (by with_reducible repeat (first |  (refine Blk.newAt ?_ <;> simp <;> done) | refine Blk.drew ?_ | refine Blk.drewN ?_ _ | refine Blk.alloc ?_ _ | refine Blk.far ?_ (by dsimp only <;> omega) _))
    have Bx2c0 : w2.cell? ⟨w1.heap.size, 0, none⟩ = some (.int .i64 sg1) := Bx2.cell 0
    have Bx2f0 := Bx2.frozen 0
    have Bx2c1 : w2.cell? ⟨w1.heap.size, 1, none⟩ = some (.slice A1 n1 c1) := Bx2.cell 1
    have Bx2f1 := Bx2.frozen 1
    have VAL : Hid (sg1 * ((dv l1 : Nat) : Int) * (sg2 * ((dv l2 : Nat) : Int)) = i * j) := Lib.hid (by rw [Hval1.out, Hval2.out])
    go_wp2_with (first | (go_at_call 59; refine (times_any sg1 sg2 Hsg1.out Hsg2.out A1 n1 c1 l1 A2 n2 c2 l2 _ (hr1.up (by (with_reducible repeat (first | refine bset ?_ (by dsimp only <;> omega) _ | exact Below.refl _ _ | exact hb4 | exact hb2 | refine bto0 ?_ hb4 | refine bto0 ?_ hb2 | refine bdr ?_ _ | refine Below.drew ?_ | refine ball ?_ _)))) (hr2.up (by (with_reducible repeat (first | refine bset ?_ (by dsimp only <;> omega) _ | exact Below.refl _ _ | exact hb4 | exact hb2 | refine bto0 ?_ hb4 | refine bto0 ?_ hb2 | refine bdr ?_ _ | refine Below.drew ?_ | refine ball ?_ _)))) hok1 hok2 (Nat.le_trans hnm1 (by decide)) (Nat.le_trans hnm2 (by decide))).mono ?_; rintro e w3 ⟨v3, sg3, x3, rfl, hsg3, hval3, ⟨A3, n3, c3, l3, rfl, hr3, hnc3, hnm3, hok3, hdv3, hl3⟩, hb3⟩; rw [← hdv3] at hval3; clear hdv3; have Hval3 := Lib.hid hval3; clear hval3; have Hsg3 := Lib.hid hsg3; clear hsg3; have Hl3 := Lib.hid hl3; clear hl3; have hz3 := hb3.size; (try simp at hz3); have lt3_0 : w.heap.size < w3.heap.size := (by omega); have lt3_1 : (w.heap.size + 1) < w3.heap.size := (by omega); have lt3_2 : (w.heap.size + 1 + 1) < w3.heap.size := (by omega); have lt3_3 : (w.heap.size + 1 + 1 + 1) < w3.heap.size := (by omega); have lt3_4 : w1.heap.size < w3.heap.size := (by omega); have lt3_5 : w2.heap.size < w3.heap.size := (by omega); have lt3_6 : (w2.heap.size + 1) < w3.heap.size := (by omega); have Ba3 : Blk w3 w.heap.size 23 #[.int .u8 0, .int .i64 i, .string s] := blkOf hb3 (by (try simp) <;> omega) (by with_reducible repeat (first | exact Ba2 |  (refine Blk.newAt ?_ <;> simp <;> done) | refine Blk.drew ?_ | refine Blk.drewN ?_ _ | refine Blk.alloc ?_ _ | refine Blk.far ?_ (by dsimp only <;> omega) _)); have Ba3c0 : w3.cell? ⟨w.heap.size, 0, none⟩ = some (.int .u8 0) := Ba3.cell 0; have Ba3f0 := Ba3.frozen 0; have Ba3c1 : w3.cell? ⟨w.heap.size, 1, none⟩ = some (.int .i64 i) := Ba3.cell 1; have Ba3f1 := Ba3.frozen 1; have Ba3c2 : w3.cell? ⟨w.heap.size, 2, none⟩ = some (.string s) := Ba3.cell 2; have Ba3f2 := Ba3.frozen 2; have Bb3 : Blk w3 (w.heap.size + 1) 23 #[.int .u8 1, .int .i64 j, .string t] := blkOf hb3 (by (try simp) <;> omega) (by with_reducible repeat (first | exact Bb2 |  (refine Blk.newAt ?_ <;> simp <;> done) | refine Blk.drew ?_ | refine Blk.drewN ?_ _ | refine Blk.alloc ?_ _ | refine Blk.far ?_ (by dsimp only <;> omega) _)); have Bb3c0 : w3.cell? ⟨(w.heap.size + 1), 0, none⟩ = some (.int .u8 1) := Bb3.cell 0; have Bb3f0 := Bb3.frozen 0; have Bb3c1 : w3.cell? ⟨(w.heap.size + 1), 1, none⟩ = some (.int .i64 j) := Bb3.cell 1; have Bb3f1 := Bb3.frozen 1; have Bb3c2 : w3.cell? ⟨(w.heap.size + 1), 2, none⟩ = some (.string t) := Bb3.cell 2; have Bb3f2 := Bb3.frozen 2; have Br3 : Blk w3 (w.heap.size + 1 + 1) 23 #[.int .u8 0, .int .i64 0, .string ⟨#[]⟩] := blkOf hb3 (by (try simp) <;> omega) (by with_reducible repeat (first | exact Br2 |  (refine Blk.newAt ?_ <;> simp <;> done) | refine Blk.drew ?_ | refine Blk.drewN ?_ _ | refine Blk.alloc ?_ _ | refine Blk.far ?_ (by dsimp only <;> omega) _)); have Br3c0 : w3.cell? ⟨(w.heap.size + 1 + 1), 0, none⟩ = some (.int .u8 0) := Br3.cell 0; have Br3f0 := Br3.frozen 0; have Br3c1 : w3.cell? ⟨(w.heap.size + 1 + 1), 1, none⟩ = some (.int .i64 0) := Br3.cell 1; have Br3f1 := Br3.frozen 1; have Br3c2 : w3.cell? ⟨(w.heap.size + 1 + 1), 2, none⟩ = some (.string ⟨#[]⟩) := Br3.cell 2; have Br3f2 := Br3.frozen 2; have Bn3 : Blk w3 (w.heap.size + 1 + 1 + 1) 23 #[.int .u8 0, .int .i64 0, .string ⟨#[]⟩] := blkOf hb3 (by (try simp) <;> omega) (by with_reducible repeat (first | exact Bn2 |  (refine Blk.newAt ?_ <;> simp <;> done) | refine Blk.drew ?_ | refine Blk.drewN ?_ _ | refine Blk.alloc ?_ _ | refine Blk.far ?_ (by dsimp only <;> omega) _)); have Bn3c0 : w3.cell? ⟨(w.heap.size + 1 + 1 + 1), 0, none⟩ = some (.int .u8 0) := Bn3.cell 0; have Bn3f0 := Bn3.frozen 0; have Bn3c1 : w3.cell? ⟨(w.heap.size + 1 + 1 + 1), 1, none⟩ = some (.int .i64 0) := Bn3.cell 1; have Bn3f1 := Bn3.frozen 1; have Bn3c2 : w3.cell? ⟨(w.heap.size + 1 + 1 + 1), 2, none⟩ = some (.string ⟨#[]⟩) := Bn3.cell 2; have Bn3f2 := Bn3.frozen 2; have Bx3 : Blk w3 w1.heap.size 73 #[.int .i64 sg1, .slice A1 n1 c1] := blkOf hb3 (by (try simp) <;> omega) (by with_reducible repeat (first | exact Bx2 |  (refine Blk.newAt ?_ <;> simp <;> done) | refine Blk.drew ?_ | refine Blk.drewN ?_ _ | refine Blk.alloc ?_ _ | refine Blk.far ?_ (by dsimp only <;> omega) _)); have Bx3c0 : w3.cell? ⟨w1.heap.size, 0, none⟩ = some (.int .i64 sg1) := Bx3.cell 0; have Bx3f0 := Bx3.frozen 0; have Bx3c1 : w3.cell? ⟨w1.heap.size, 1, none⟩ = some (.slice A1 n1 c1) := Bx3.cell 1; have Bx3f1 := Bx3.frozen 1; have By3 : Blk w3 w2.heap.size 73 #[.int .i64 sg2, .slice A2 n2 c2] := blkOf hb3 (by (try simp) <;> omega) (by with_reducible repeat (first |  (refine Blk.newAt ?_ <;> simp <;> done) | refine Blk.drew ?_ | refine Blk.drewN ?_ _ | refine Blk.alloc ?_ _ | refine Blk.far ?_ (by dsimp only <;> omega) _)); have By3c0 : w3.cell? ⟨w2.heap.size, 0, none⟩ = some (.int .i64 sg2) := By3.cell 0; have By3f0 := By3.frozen 0; have By3c1 : w3.cell? ⟨w2.heap.size, 1, none⟩ = some (.slice A2 n2 c2) := By3.cell 1; have By3f1 := By3.frozen 1; have Bz3 : Blk w3 (w2.heap.size + 1) 73 #[.int .i64 0, .slice none 0 0] := blkOf hb3 (by (try simp) <;> omega) (by with_reducible repeat (first |  (refine Blk.newAt ?_ <;> simp <;> done) | refine Blk.drew ?_ | refine Blk.drewN ?_ _ | refine Blk.alloc ?_ _ | refine Blk.far ?_ (by dsimp only <;> omega) _)); have Bz3c0 : w3.cell? ⟨(w2.heap.size + 1), 0, none⟩ = some (.int .i64 0) := Bz3.cell 0; have Bz3f0 := Bz3.frozen 0; have Bz3c1 : w3.cell? ⟨(w2.heap.size + 1), 1, none⟩ = some (.slice none 0 0) := Bz3.cell 1; have Bz3f1 := Bz3.frozen 1; have f3 := hr3.offN Bz3) | (go_at_call 39; refine (right_z sg3 Hsg3.out A3 n3 c3 l3 (i * j) RX _ (by rw [Hval3.out]; exact VAL.out) HE.out _ ((hr3.sf f3 _).sf f3 _) hok3 (by first | exact bd3 hnm3 hnm1 hnm2 | exact bd4 hnm3 hnm1 hnm2) hnc3).mono ?_; rintro e w5 ⟨rfl, hb5⟩; have hz5 := hb5.size; (try simp [size_set] at hz5); have lt5_0 : w.heap.size < w5.heap.size := (by omega); have lt5_1 : (w.heap.size + 1) < w5.heap.size := (by omega); have lt5_2 : (w.heap.size + 1 + 1) < w5.heap.size := (by omega); have lt5_3 : (w.heap.size + 1 + 1 + 1) < w5.heap.size := (by omega); have Ba5 : Blk w5 w.heap.size 23 #[.int .u8 0, .int .i64 i, .string s] := blkOf hb5 (by (try simp) <;> omega) (by with_reducible repeat (first | exact Ba3 |  (refine Blk.newAt ?_ <;> simp <;> done) | refine Blk.drew ?_ | refine Blk.drewN ?_ _ | refine Blk.alloc ?_ _ | refine Blk.far ?_ (by dsimp only <;> omega) _)); have Ba5c0 : w5.cell? ⟨w.heap.size, 0, none⟩ = some (.int .u8 0) := Ba5.cell 0; have Ba5f0 := Ba5.frozen 0; have Ba5c1 : w5.cell? ⟨w.heap.size, 1, none⟩ = some (.int .i64 i) := Ba5.cell 1; have Ba5f1 := Ba5.frozen 1; have Ba5c2 : w5.cell? ⟨w.heap.size, 2, none⟩ = some (.string s) := Ba5.cell 2; have Ba5f2 := Ba5.frozen 2; have Bb5 : Blk w5 (w.heap.size + 1) 23 #[.int .u8 1, .int .i64 j, .string t] := blkOf hb5 (by (try simp) <;> omega) (by with_reducible repeat (first | exact Bb3 |  (refine Blk.newAt ?_ <;> simp <;> done) | refine Blk.drew ?_ | refine Blk.drewN ?_ _ | refine Blk.alloc ?_ _ | refine Blk.far ?_ (by dsimp only <;> omega) _)); have Bb5c0 : w5.cell? ⟨(w.heap.size + 1), 0, none⟩ = some (.int .u8 1) := Bb5.cell 0; have Bb5f0 := Bb5.frozen 0; have Bb5c1 : w5.cell? ⟨(w.heap.size + 1), 1, none⟩ = some (.int .i64 j) := Bb5.cell 1; have Bb5f1 := Bb5.frozen 1; have Bb5c2 : w5.cell? ⟨(w.heap.size + 1), 2, none⟩ = some (.string t) := Bb5.cell 2; have Bb5f2 := Bb5.frozen 2; have Br5 : Blk w5 (w.heap.size + 1 + 1) 23 #[.int .u8 0, .int .i64 0, .string ⟨#[]⟩] := blkOf hb5 (by (try simp) <;> omega) (by with_reducible repeat (first | exact Br3 |  (refine Blk.newAt ?_ <;> simp <;> done) | refine Blk.drew ?_ | refine Blk.drewN ?_ _ | refine Blk.alloc ?_ _ | refine Blk.far ?_ (by dsimp only <;> omega) _)); have Br5c0 : w5.cell? ⟨(w.heap.size + 1 + 1), 0, none⟩ = some (.int .u8 0) := Br5.cell 0; have Br5f0 := Br5.frozen 0; have Br5c1 : w5.cell? ⟨(w.heap.size + 1 + 1), 1, none⟩ = some (.int .i64 0) := Br5.cell 1; have Br5f1 := Br5.frozen 1; have Br5c2 : w5.cell? ⟨(w.heap.size + 1 + 1), 2, none⟩ = some (.string ⟨#[]⟩) := Br5.cell 2; have Br5f2 := Br5.frozen 2; have Bn5 : Blk w5 (w.heap.size + 1 + 1 + 1) 23 #[.int .u8 0, .int .i64 0, .string ⟨#[]⟩] := blkOf hb5 (by (try simp) <;> omega) (by with_reducible repeat (first | exact Bn3 |  (refine Blk.newAt ?_ <;> simp <;> done) | refine Blk.drew ?_ | refine Blk.drewN ?_ _ | refine Blk.alloc ?_ _ | refine Blk.far ?_ (by dsimp only <;> omega) _)); have Bn5c0 : w5.cell? ⟨(w.heap.size + 1 + 1 + 1), 0, none⟩ = some (.int .u8 0) := Bn5.cell 0; have Bn5f0 := Bn5.frozen 0; have Bn5c1 : w5.cell? ⟨(w.heap.size + 1 + 1 + 1), 1, none⟩ = some (.int .i64 0) := Bn5.cell 1; have Bn5f1 := Bn5.frozen 1; have Bn5c2 : w5.cell? ⟨(w.heap.size + 1 + 1 + 1), 2, none⟩ = some (.string ⟨#[]⟩) := Bn5.cell 2; have Bn5f2 := Bn5.frozen 2))
    all_goals (refine bodyPost_ret (v := .tuple #[.agg #[.int .u8 0, .int .i64 0, .string ⟨#[]⟩], .bool true]) (by simp [results, Try.results44, go_sem, zV, Vl.agg, *]) rfl ⟨rfl, ?_⟩; (with_reducible (repeat (first | (refine bset ?_ (by dsimp only <;> omega) _) | exact hb3 | exact hb4 | exact hb2 | exact hb1 | refine bto0 ?_ hb3 | refine bto0 ?_ hb4 | refine bto0 ?_ hb2 | refine bto0 ?_ hb1  | exact Below.refl _ _ | refine ball ?_ _ | refine Below.drew ?_ | refine bdr ?_ _))))
  · have hI : opIs op.toList = false := by simp [opIs, h1, h2, h3]
    rw [hI]
    clear hI E1 E2 E3
    go_enter Try.func44, Try.ntmps44
    go_wp2_with fail
    refine (O1.out _).mono ?_
    rintro e w1 ⟨v1, sg1, x1, rfl, hsg1, hval1, ⟨A1, n1, c1, l1, rfl, hr1, hnc1, hnm1, hok1, hdv1, hl1⟩, hb1⟩
    rw [← hdv1] at hval1
    clear hdv1
    have Hval1 := Lib.hid hval1
    clear hval1
    have Hsg1 := Lib.hid hsg1
    clear hsg1
    have Hl1 := Lib.hid hl1
    clear hl1
    have hz1 := hb1.size
    (try simp at hz1)
    have lt1_0 : w.heap.size < w1.heap.size := (by omega)
    have lt1_1 : (w.heap.size + 1) < w1.heap.size := (by omega)
    have lt1_2 : (w.heap.size + 1 + 1) < w1.heap.size := (by omega)
    have lt1_3 : (w.heap.size + 1 + 1 + 1) < w1.heap.size := (by omega)
    have Ba1 : Blk w1 w.heap.size 23 #[.int .u8 0, .int .i64 i, .string s] := blkOf hb1 (by (try simp) <;> omega) (by with_reducible repeat (first |  (refine Blk.newAt ?_ <;> simp <;> done) | refine Blk.drew ?_ | refine Blk.drewN ?_ _ | refine Blk.alloc ?_ _ | refine Blk.far ?_ (by dsimp only <;> omega) _))
    have Ba1c0 : w1.cell? ⟨w.heap.size, 0, none⟩ = some (.int .u8 0) := Ba1.cell 0
    have Ba1f0 := Ba1.frozen 0
    have Ba1c1 : w1.cell? ⟨w.heap.size, 1, none⟩ = some (.int .i64 i) := Ba1.cell 1
    have Ba1f1 := Ba1.frozen 1
    have Ba1c2 : w1.cell? ⟨w.heap.size, 2, none⟩ = some (.string s) := Ba1.cell 2
    have Ba1f2 := Ba1.frozen 2
    have Bb1 : Blk w1 (w.heap.size + 1) 23 #[.int .u8 1, .int .i64 j, .string t] := blkOf hb1 (by (try simp) <;> omega) (by with_reducible repeat (first |  (refine Blk.newAt ?_ <;> simp <;> done) | refine Blk.drew ?_ | refine Blk.drewN ?_ _ | refine Blk.alloc ?_ _ | refine Blk.far ?_ (by dsimp only <;> omega) _))
    have Bb1c0 : w1.cell? ⟨(w.heap.size + 1), 0, none⟩ = some (.int .u8 1) := Bb1.cell 0
    have Bb1f0 := Bb1.frozen 0
    have Bb1c1 : w1.cell? ⟨(w.heap.size + 1), 1, none⟩ = some (.int .i64 j) := Bb1.cell 1
    have Bb1f1 := Bb1.frozen 1
    have Bb1c2 : w1.cell? ⟨(w.heap.size + 1), 2, none⟩ = some (.string t) := Bb1.cell 2
    have Bb1f2 := Bb1.frozen 2
    have Br1 : Blk w1 (w.heap.size + 1 + 1) 23 #[.int .u8 0, .int .i64 0, .string ⟨#[]⟩] := blkOf hb1 (by (try simp) <;> omega) (by with_reducible repeat (first |  (refine Blk.newAt ?_ <;> simp <;> done) | refine Blk.drew ?_ | refine Blk.drewN ?_ _ | refine Blk.alloc ?_ _ | refine Blk.far ?_ (by dsimp only <;> omega) _))
    have Br1c0 : w1.cell? ⟨(w.heap.size + 1 + 1), 0, none⟩ = some (.int .u8 0) := Br1.cell 0
    have Br1f0 := Br1.frozen 0
    have Br1c1 : w1.cell? ⟨(w.heap.size + 1 + 1), 1, none⟩ = some (.int .i64 0) := Br1.cell 1
    have Br1f1 := Br1.frozen 1
    have Br1c2 : w1.cell? ⟨(w.heap.size + 1 + 1), 2, none⟩ = some (.string ⟨#[]⟩) := Br1.cell 2
    have Br1f2 := Br1.frozen 2
    have Bn1 : Blk w1 (w.heap.size + 1 + 1 + 1) 23 #[.int .u8 0, .int .i64 0, .string ⟨#[]⟩] := blkOf hb1 (by (try simp) <;> omega) (by with_reducible repeat (first |  (refine Blk.newAt ?_ <;> simp <;> done) | refine Blk.drew ?_ | refine Blk.drewN ?_ _ | refine Blk.alloc ?_ _ | refine Blk.far ?_ (by dsimp only <;> omega) _))
    have Bn1c0 : w1.cell? ⟨(w.heap.size + 1 + 1 + 1), 0, none⟩ = some (.int .u8 0) := Bn1.cell 0
    have Bn1f0 := Bn1.frozen 0
    have Bn1c1 : w1.cell? ⟨(w.heap.size + 1 + 1 + 1), 1, none⟩ = some (.int .i64 0) := Bn1.cell 1
    have Bn1f1 := Bn1.frozen 1
    have Bn1c2 : w1.cell? ⟨(w.heap.size + 1 + 1 + 1), 2, none⟩ = some (.string ⟨#[]⟩) := Bn1.cell 2
    have Bn1f2 := Bn1.frozen 2
    go_wp2_with fail
    refine (O2.out _).mono ?_
    rintro e w2 ⟨v2, sg2, x2, rfl, hsg2, hval2, ⟨A2, n2, c2, l2, rfl, hr2, hnc2, hnm2, hok2, hdv2, hl2⟩, hb2⟩
    rw [← hdv2] at hval2
    clear hdv2
    have Hval2 := Lib.hid hval2
    clear hval2
    have Hsg2 := Lib.hid hsg2
    clear hsg2
    have Hl2 := Lib.hid hl2
    clear hl2
    have hz2 := hb2.size
    (try simp at hz2)
    have lt2_0 : w.heap.size < w2.heap.size := (by omega)
    have lt2_1 : (w.heap.size + 1) < w2.heap.size := (by omega)
    have lt2_2 : (w.heap.size + 1 + 1) < w2.heap.size := (by omega)
    have lt2_3 : (w.heap.size + 1 + 1 + 1) < w2.heap.size := (by omega)
    have lt2_4 : w1.heap.size < w2.heap.size := (by omega)
    have Ba2 : Blk w2 w.heap.size 23 #[.int .u8 0, .int .i64 i, .string s] := blkOf hb2 (by (try simp) <;> omega) (by with_reducible repeat (first | exact Ba1 |  (refine Blk.newAt ?_ <;> simp <;> done) | refine Blk.drew ?_ | refine Blk.drewN ?_ _ | refine Blk.alloc ?_ _ | refine Blk.far ?_ (by dsimp only <;> omega) _))
    have Ba2c0 : w2.cell? ⟨w.heap.size, 0, none⟩ = some (.int .u8 0) := Ba2.cell 0
    have Ba2f0 := Ba2.frozen 0
    have Ba2c1 : w2.cell? ⟨w.heap.size, 1, none⟩ = some (.int .i64 i) := Ba2.cell 1
    have Ba2f1 := Ba2.frozen 1
    have Ba2c2 : w2.cell? ⟨w.heap.size, 2, none⟩ = some (.string s) := Ba2.cell 2
    have Ba2f2 := Ba2.frozen 2
    have Bb2 : Blk w2 (w.heap.size + 1) 23 #[.int .u8 1, .int .i64 j, .string t] := blkOf hb2 (by (try simp) <;> omega) (by with_reducible repeat (first | exact Bb1 |  (refine Blk.newAt ?_ <;> simp <;> done) | refine Blk.drew ?_ | refine Blk.drewN ?_ _ | refine Blk.alloc ?_ _ | refine Blk.far ?_ (by dsimp only <;> omega) _))
    have Bb2c0 : w2.cell? ⟨(w.heap.size + 1), 0, none⟩ = some (.int .u8 1) := Bb2.cell 0
    have Bb2f0 := Bb2.frozen 0
    have Bb2c1 : w2.cell? ⟨(w.heap.size + 1), 1, none⟩ = some (.int .i64 j) := Bb2.cell 1
    have Bb2f1 := Bb2.frozen 1
    have Bb2c2 : w2.cell? ⟨(w.heap.size + 1), 2, none⟩ = some (.string t) := Bb2.cell 2
    have Bb2f2 := Bb2.frozen 2
    have Br2 : Blk w2 (w.heap.size + 1 + 1) 23 #[.int .u8 0, .int .i64 0, .string ⟨#[]⟩] := blkOf hb2 (by (try simp) <;> omega) (by with_reducible repeat (first | exact Br1 |  (refine Blk.newAt ?_ <;> simp <;> done) | refine Blk.drew ?_ | refine Blk.drewN ?_ _ | refine Blk.alloc ?_ _ | refine Blk.far ?_ (by dsimp only <;> omega) _))
    have Br2c0 : w2.cell? ⟨(w.heap.size + 1 + 1), 0, none⟩ = some (.int .u8 0) := Br2.cell 0
    have Br2f0 := Br2.frozen 0
    have Br2c1 : w2.cell? ⟨(w.heap.size + 1 + 1), 1, none⟩ = some (.int .i64 0) := Br2.cell 1
    have Br2f1 := Br2.frozen 1
    have Br2c2 : w2.cell? ⟨(w.heap.size + 1 + 1), 2, none⟩ = some (.string ⟨#[]⟩) := Br2.cell 2
    have Br2f2 := Br2.frozen 2
    have Bn2 : Blk w2 (w.heap.size + 1 + 1 + 1) 23 #[.int .u8 0, .int .i64 0, .string ⟨#[]⟩] := blkOf hb2 (by (try simp) <;> omega) (by with_reducible repeat (first | exact Bn1 |  (refine Blk.newAt ?_ <;> simp <;> done) | refine Blk.drew ?_ | refine Blk.drewN ?_ _ | refine Blk.alloc ?_ _ | refine Blk.far ?_ (by dsimp only <;> omega) _))
    have Bn2c0 : w2.cell? ⟨(w.heap.size + 1 + 1 + 1), 0, none⟩ = some (.int .u8 0) := Bn2.cell 0
    have Bn2f0 := Bn2.frozen 0
    have Bn2c1 : w2.cell? ⟨(w.heap.size + 1 + 1 + 1), 1, none⟩ = some (.int .i64 0) := Bn2.cell 1
    have Bn2f1 := Bn2.frozen 1
    have Bn2c2 : w2.cell? ⟨(w.heap.size + 1 + 1 + 1), 2, none⟩ = some (.string ⟨#[]⟩) := Bn2.cell 2
    have Bn2f2 := Bn2.frozen 2
    have Bx2 : Blk w2 w1.heap.size 73 #[.int .i64 sg1, .slice A1 n1 c1] := blkOf hb2 (by (try simp) <;> omega) (by with_reducible repeat (first |  (refine Blk.newAt ?_ <;> simp <;> done) | refine Blk.drew ?_ | refine Blk.drewN ?_ _ | refine Blk.alloc ?_ _ | refine Blk.far ?_ (by dsimp only <;> omega) _))
    have Bx2c0 : w2.cell? ⟨w1.heap.size, 0, none⟩ = some (.int .i64 sg1) := Bx2.cell 0
    have Bx2f0 := Bx2.frozen 0
    have Bx2c1 : w2.cell? ⟨w1.heap.size, 1, none⟩ = some (.slice A1 n1 c1) := Bx2.cell 1
    have Bx2f1 := Bx2.frozen 1
    go_wp2_with fail
    all_goals (refine bodyPost_ret (v := .tuple #[.agg #[.int .u8 0, .int .i64 0, .string ⟨#[]⟩], .bool false]) (by simp [results, Try.results44, go_sem, zV, Vl.agg, *]) rfl ⟨rfl, ?_⟩; (with_reducible (repeat (first | (refine bset ?_ (by dsimp only <;> omega) _) | exact hb3 | exact hb4 | exact hb2 | exact hb1 | refine bto0 ?_ hb3 | refine bto0 ?_ hb4 | refine bto0 ?_ hb2 | refine bto0 ?_ hb1  | exact Below.refl _ _ | refine ball ?_ _ | refine Below.drew ?_ | refine bdr ?_ _))))
end
end Go.Proofs.Ytilopgfpifhccaa
