/-
  The law CalcDo's walk.
-/
import Derived.Test.YtegnoheaglnhhaaNl
namespace Go.Proofs.Ytegnoheaglnhhaa
open Go.RowKit

set_option maxHeartbeats 4000000 in
theorem calcDo_any (op : ByteArray) (a b : Vl) (ha : a.ok) (hb : b.ok) (w : World) :
    Calls Try.prog 9 #[.string op, a.agg, b.agg] w (RetB w (.bool true)) := by
  have c1 := fun W => cdo_any op a b ha hb W
  have c2 := fun W => rdo_any op a b ha hb W
  generalize doV op.toList a b = R at c1 c2
  obtain ⟨⟨vk, vi, vs⟩, q⟩ := R
  obtain ⟨k, i, s⟩ := a
  obtain ⟨k', j, t⟩ := b
  simp only [Vl.agg] at c1 c2 ⊢
  have C1 := Lib.hid c1
  clear c1
  have C2 := Lib.hid c2
  clear c2
  clear ha hb
  go_enter Try.func9, Try.ntmps9
  go_wp2_with fail
  refine (C1.out _).mono ?_
  rintro e w1 ⟨rfl, hb1⟩
  have hz1 := hb1.size
  (try simp at hz1)
  have lt1 : w.heap.size < w1.heap.size := by omega
  have lt2 : w.heap.size + 1 < w1.heap.size := by omega
  have Ba1 : Blk w1 w.heap.size 36 #[.int .u8 k, .int .i64 i, .string s] := blkOf hb1 (by (try simp) <;> omega) (by with_reducible repeat (first |  (refine Blk.newAt ?_ <;> simp <;> done) | refine Blk.drew ?_ | refine Blk.drewN ?_ _ | refine Blk.alloc ?_ _ | refine Blk.far ?_ (by dsimp only <;> omega) _))
  have Ba1c0 : w1.cell? ⟨w.heap.size, 0, none⟩ = some (.int .u8 k) := Ba1.cell 0
  have Ba1f0 := Ba1.frozen 0
  have Ba1c1 : w1.cell? ⟨w.heap.size, 1, none⟩ = some (.int .i64 i) := Ba1.cell 1
  have Ba1f1 := Ba1.frozen 1
  have Ba1c2 : w1.cell? ⟨w.heap.size, 2, none⟩ = some (.string s) := Ba1.cell 2
  have Ba1f2 := Ba1.frozen 2
  have Bb1 : Blk w1 (w.heap.size + 1) 36 #[.int .u8 k', .int .i64 j, .string t] := blkOf hb1 (by (try simp) <;> omega) (by with_reducible repeat (first |  (refine Blk.newAt ?_ <;> simp <;> done) | refine Blk.drew ?_ | refine Blk.drewN ?_ _ | refine Blk.alloc ?_ _ | refine Blk.far ?_ (by dsimp only <;> omega) _))
  have Bb1c0 : w1.cell? ⟨(w.heap.size + 1), 0, none⟩ = some (.int .u8 k') := Bb1.cell 0
  have Bb1f0 := Bb1.frozen 0
  have Bb1c1 : w1.cell? ⟨(w.heap.size + 1), 1, none⟩ = some (.int .i64 j) := Bb1.cell 1
  have Bb1f1 := Bb1.frozen 1
  have Bb1c2 : w1.cell? ⟨(w.heap.size + 1), 2, none⟩ = some (.string t) := Bb1.cell 2
  have Bb1f2 := Bb1.frozen 2
  go_wp2_with fail
  refine (C2.out _).mono ?_
  rintro e w2 ⟨rfl, hb2⟩
  have hz2 := hb2.size
  (try simp at hz2)
  have lt3 : w1.heap.size < w2.heap.size := by omega
  have Bv2 : Blk w2 w1.heap.size 36 #[.int .u8 vk, .int .i64 vi, .string vs] := blkOf hb2 (by (try simp) <;> omega) (by with_reducible repeat (first |  (refine Blk.newAt ?_ <;> simp <;> done) | refine Blk.drew ?_ | refine Blk.drewN ?_ _ | refine Blk.alloc ?_ _ | refine Blk.far ?_ (by dsimp only <;> omega) _))
  have Bv2c0 : w2.cell? ⟨w1.heap.size, 0, none⟩ = some (.int .u8 vk) := Bv2.cell 0
  have Bv2f0 := Bv2.frozen 0
  have Bv2c1 : w2.cell? ⟨w1.heap.size, 1, none⟩ = some (.int .i64 vi) := Bv2.cell 1
  have Bv2f1 := Bv2.frozen 1
  have Bv2c2 : w2.cell? ⟨w1.heap.size, 2, none⟩ = some (.string vs) := Bv2.cell 2
  have Bv2f2 := Bv2.frozen 2
  go_wp2_with fail
  refine (cfixed_any _).mono ?_
  rintro e w3 ⟨rfl, hb3⟩
  have hz3 := hb3.size
  (try simp at hz3)
  have Bv3 : Blk w3 w1.heap.size 36 #[.int .u8 vk, .int .i64 vi, .string vs] := blkOf hb3 (by (try simp) <;> omega) (by with_reducible repeat (first | exact Bv2 |  (refine Blk.newAt ?_ <;> simp <;> done) | refine Blk.drew ?_ | refine Blk.drewN ?_ _ | refine Blk.alloc ?_ _ | refine Blk.far ?_ (by dsimp only <;> omega) _))
  have Bv3c0 : w3.cell? ⟨w1.heap.size, 0, none⟩ = some (.int .u8 vk) := Bv3.cell 0
  have Bv3f0 := Bv3.frozen 0
  have Bv3c1 : w3.cell? ⟨w1.heap.size, 1, none⟩ = some (.int .i64 vi) := Bv3.cell 1
  have Bv3f1 := Bv3.frozen 1
  have Bv3c2 : w3.cell? ⟨w1.heap.size, 2, none⟩ = some (.string vs) := Bv3.cell 2
  have Bv3f2 := Bv3.frozen 2
  have Bw3 : Blk w3 w2.heap.size 36 #[.int .u8 vk, .int .i64 vi, .string vs] := blkOf hb3 (by (try simp) <;> omega) (by with_reducible repeat (first |  (refine Blk.newAt ?_ <;> simp <;> done) | refine Blk.drew ?_ | refine Blk.drewN ?_ _ | refine Blk.alloc ?_ _ | refine Blk.far ?_ (by dsimp only <;> omega) _))
  have Bw3c0 : w3.cell? ⟨w2.heap.size, 0, none⟩ = some (.int .u8 vk) := Bw3.cell 0
  have Bw3f0 := Bw3.frozen 0
  have Bw3c1 : w3.cell? ⟨w2.heap.size, 1, none⟩ = some (.int .i64 vi) := Bw3.cell 1
  have Bw3f1 := Bw3.frozen 1
  have Bw3c2 : w3.cell? ⟨w2.heap.size, 2, none⟩ = some (.string vs) := Bw3.cell 2
  have Bw3f2 := Bw3.frozen 2
  go_wp2_with fail
  go_ret
  exact ⟨ret_bool (by simp), by (with_reducible repeat (first | refine bset ?_ (by dsimp only <;> omega) _ | exact Below.refl _ _ | exact hb3 | exact hb2 | exact hb1 | refine bto0 ?_ hb3 | refine bto0 ?_ hb2 | refine bto0 ?_ hb1 | refine bdr ?_ _ | refine Below.drew ?_ | refine ball ?_ _))⟩
end Go.Proofs.Ytegnoheaglnhhaa
