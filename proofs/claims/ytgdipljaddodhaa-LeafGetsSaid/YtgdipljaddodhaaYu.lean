/-
  A reader of a page's bytes: contract of open, of a page that has the head.
-/
import Derived.Test.YtgdipljaddodhaaYt
import Derived.Test.YtgdipljaddodhaaYk
import Derived.RegionTactic
set_option linter.unusedSimpArgs false
namespace Go.Proofs.Ytgdipljaddodhaa
open Go.RowKit

def RetOp (w : World) (B : Nat) (l : List UInt8) (e : Ending) (w' : World) : Prop :=
  ∃ g, e = .returned (.tuple #[.agg #[.int .u8 (hdK l : Int), .int .u16 (hdC l : Int), .int .u32 (hdN l : Int)], .pointer (some ⟨g, 0, none⟩), .bool true]) ∧ w.heap.size ≤ g ∧ Rd w' g B (l.drop 8) false ∧ Below w.heap.size w w'
set_option maxRecDepth 100000 in
set_option maxHeartbeats 2000000 in
theorem open_ok (A : Option Addr) (n c B : Nat) (l : List UInt8) (k : Nat) (w : World) (hr : Reads w B 1 A n (bL l)) (hB : B ≤ w.heap.size) (hn : n ≤ 1000000) (hc : n ≤ c) (ho : hdOk l = true) (hk : hdK l = k) :
    Calls Try.prog 38 #[.slice A n c, .int .u8 (k : Int)] w (RetOp w B l) := by
  have hl := hr.bytes_len
  have h5 : n = 512 := by unfold hdOk at ho; rw [hl] at ho; simp at ho; exact ho.1
  subst h5
  have D := Lib.hid fun (W : World) (hb : Below w.heap.size w W) => dget_any A 512 c B l W (hr.below (hb.mono hB)) (Nat.le_trans hB hb.size) (by omega)
  have hv : hdV l = .agg #[.int .u8 (hdK l : Int), .int .u16 (hdC l : Int), .int .u32 (hdN l : Int)] := by unfold hdV; rw [ho]; rfl
  unfold RetHd at D
  rw [hv, ho] at D
  unfold RetOp
  rw [hk] at D ⊢
  generalize hdC l = C at *
  generalize hdN l = N at *
  obtain ⟨A2, hc2, hr2⟩ := cutb_lo (A := A) (n := 512) (c := c) .i64 8 8 rfl (by omega) hc
  have HR := Lib.hid (fun (W : World) (hb : Below w.heap.size w W) => hr2 W B l (hr.below (hb.mono hB)))
  clear hr2 hv ho hk hr hl
  have X0 := Blk.new w 70 #[.int .u8 0, .int .u16 0, .int .u32 0]
  go_enter Try.func38, Try.ntmps38
  go_wp2_with fail
  refine (D.out _ (by (with_reducible repeat (first | exact Below.refl _ _ | exact hb1 | exact hb1 | refine bto0 ?_ hb1 | refine bto0 ?_ hb1 | refine bdr ?_ _ | refine Below.drew ?_ | refine ball ?_ _)))).mono ?_
  rintro e w1 ⟨rfl, hb1⟩
  have X1 := X0.below hb1 X0.lt
  have c0 : w1.cell? ⟨w.heap.size, 0, none⟩ = some (.int .u8 0) := X1.cell 0
  have c1 : w1.cell? ⟨w.heap.size, 1, none⟩ = some (.int .u16 0) := X1.cell 1
  have c2 : w1.cell? ⟨w.heap.size, 2, none⟩ = some (.int .u32 0) := X1.cell 2
  have f0 := X1.frozen 0
  have f1 := X1.frozen 1
  have f2 := X1.frozen 2
  have hz1 := X1.lt
  go_wp2
  go_region
  all_goals go_wp2
  have hbel : ∀ u v x : Value, ∀ o o2 : Obj, Below w.heap.size w (((((w1.setCell ⟨w.heap.size, 0, none⟩ u).setCell ⟨w.heap.size, 1, none⟩ v).setCell ⟨w.heap.size, 2, none⟩ x).alloc o).alloc o2) := fun u v x o o2 => ball (ball (((bto0 (ball (Below.refl _ _) _) hb1).setCell (Nat.le_refl _) _ |>.setCell (Nat.le_refl _) _).setCell (Nat.le_refl _) _) _) _
  have hHB := Lib.hid hbel
  have X5 := ((((X1.set_ 0 (.int .u8 (k : Int))).set_ 1 (.int .u16 (C : Int))).set_ 2 (.int .u32 (N : Int))).alloc (.cells #[.int .u8 (k : Int), .int .u16 (C : Int), .int .u32 (N : Int)] 70)).alloc (.cells #[.slice A2 504 (c - 8), .bool false] 91)
  have y0 : _ = some (Value.int .u8 (k : Int)) := X5.cell 0
  have y1 : _ = some (Value.int .u16 (C : Int)) := X5.cell 1
  have y2 : _ = some (Value.int .u32 (N : Int)) := X5.cell 2
  refine bodyPost_ret (v := .tuple #[.agg #[.int .u8 (k : Int), .int .u16 (C : Int), .int .u32 (N : Int)], .pointer (some ⟨w1.heap.size + 1, 0, none⟩), .bool true]) (by simp [results, Try.results38, go_sem, y0, y1, y2]) rfl ⟨w1.heap.size + 1, rfl, by omega, ⟨A2, 504, c - 8, ?_, HR.out _ ?_, by omega, by omega⟩, ?_⟩
  all_goals first
    | exact hHB.out _ _ _ _ _
    | exact (hHB.out _ _ _ _ _).drew
    | exact Blk.newAt (by simp [World.setCell])
    | exact (Blk.newAt (by simp [World.setCell])).drew
end Go.Proofs.Ytgdipljaddodhaa
