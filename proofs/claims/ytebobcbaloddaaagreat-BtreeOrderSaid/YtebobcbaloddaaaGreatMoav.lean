/-
  Dj.
-/
import Derived.Test.YtebobcbaloddaaaGreatMoap
import Derived.Test.YtebobcbaloddaaaGreatMoak
import Derived.Laws.Bits64
namespace Go.Proofs.YtebobcbaloddaaaGreat
section
set_option linter.unusedSimpArgs false
set_option linter.unusedVariables false
open Go.RowKit
theorem bV_set (l : List UInt8) (i : Nat) (b : UInt8) : (bV l).setIfInBounds i (.int .u8 (b.toNat : Int)) = bV (l.set i b) := by
 simp [bV, bL, List.map_set]
def headP (k : UInt8) (c n j : Nat) : List UInt8 := [k, 0] ++ be 2 c ++ (be 4 n).take j ++ List.replicate (508 - j) 0
def headL (k : UInt8) (c n : Nat) : List UInt8 := headP k c n 4
theorem headP_len (k : UInt8) (c n j : Nat) (h : j ≤ 4) : (headP k c n j).length = 512 := by
 unfold headP
 simp only [List.length_append, List.length_cons, List.length_nil, be_len, List.length_take, List.length_replicate]
 omega
theorem headP_set (k : UInt8) (c n j : Nat) (h : j < 4) : (headP k c n j).set (4 + j) (UInt8.ofNat (n / 256 ^ (3 - j))) = headP k c n (j + 1) := by
 unfold headP
 rw [be_take 4 n j h, show 508 - j = (508 - (j + 1)) + 1 from by omega, List.replicate_succ]
 have hl : ([k, 0] ++ be 2 c ++ (be 4 n).take j).length = 4 + j := by
  simp only [List.length_append, List.length_cons, List.length_nil, be_len, List.length_take]; omega
 rw [List.set_append_right _ _ (by omega), hl, Nat.sub_self, List.set_cons_zero, List.append_assoc, List.append_assoc, List.append_assoc, List.append_assoc, List.append_assoc]
 rfl
def z512 : List UInt8 := List.replicate 512 0
theorem rep512 : z512 = [0, 0, 0, 0] ++ List.replicate 508 0 := by
 unfold z512
 rw [show (512 : Nat) = 4 + 508 from rfl, ← List.replicate_append_replicate]
 rfl
theorem headP_zero (k : UInt8) (c n : Nat) : ((z512.set 0 k).set 2 (UInt8.ofNat (c / 256))).set 3 (UInt8.ofNat c) = headP k c n 0 := by
 rw [rep512]
 rfl
theorem rep_at (i : Nat) (h : i < 512) : (bV z512)[i]? = some (.int .u8 0) := bV_at (x := 0) (by unfold z512; rw [List.getElem?_replicate, if_pos h])
theorem headP_at (k : UInt8) (c n j : Nat) (h : j < 4) : (bV (headP k c n j))[4 + j]? = some (.int .u8 0) := by
 refine bV_at (x := 0) ?_
 unfold headP
 have hl : ([k, 0] ++ be 2 c ++ (be 4 n).take j).length = 4 + j := by
  simp only [List.length_append, List.length_cons, List.length_nil, be_len, List.length_take]; omega
 rw [List.getElem?_append_right (by omega), hl, Nat.sub_self, show 508 - j = (508 - (j + 1)) + 1 from by omega, List.replicate_succ]
 rfl
theorem shr_byte4 (n j : Nat) (hj : j < 4) : (n : Int) / 2 ^ (24 - 8 * j) % 256 = ((UInt8.ofNat (n / 256 ^ (3 - j))).toNat : Int) := by
 have h2 : (2 : Int) ^ (24 - 8 * j) = ((256 ^ (3 - j) : Nat) : Int) := by
  rw [show 24 - 8 * j = 8 * (3 - j) from by omega, Int.pow_mul, Int.natCast_pow]
  rfl
 rw [h2, u8_nat, Int.natCast_ediv]
def RetHead (w : World) (k : UInt8) (c n : Nat) (e : Ending) (w' : World) : Prop := ∃ g, e = .returned (.slice (some ⟨g, 0, none⟩) 512 512) ∧ Blk w' g 5 (bV (headL k c n)) ∧ w.heap.size ≤ g ∧ Below w.heap.size w w'
set_option maxHeartbeats 1000000 in
theorem dput_any (k : UInt8) (c n : Nat) (hc : c < 65536) (hn : n < 4294967296) (w : World) : Calls Tryz.prog 108 #[.agg #[.int .u8 (k.toNat : Int), .int .u16 c, .int .u32 n]] w (RetHead w k c n) := by
 obtain ⟨i0, hi0, hz0, hs0, hy0⟩ := int_info8 Tryz.infoB
 have mk0 : ∀ W, (Instr.makeSlice 58 (.int .i64 512) (.int .i64 512)).run Tryz.prog W = .ok (.slice (some ⟨W.heap.size, 0, none⟩) 512 512) (W.alloc (.cells (bV z512) 5)) := by
  intro W
  have h := run_make (P := Tryz.prog) W 58 5 i0 (.int .u8 0) Tryz.underlying58 hi0 hz0 .i64 .i64 512 512 (by omega) (by omega) (by rw [hy0]; omega) (by omega)
  rw [hs0] at h
  have e : bV z512 = madeCells #[.int .u8 0] 512 := (zero_rep 1).symm
  rw [e]
  exact h
 clear hi0 hz0 hs0 hy0
 obtain ⟨arr, harr⟩ : ∃ arr, bV z512 = arr := ⟨_, rfl⟩
 have a0 : arr[0]? = some (.int .u8 0) := by rw [← harr]; exact rep_at 0 (by omega)
 have HA := Lib.hid harr
 rw [harr] at mk0
 clear harr
 have e1 : arr.setIfInBounds 0 (.int .u8 (k.toNat : Int)) = bV (z512.set 0 k) := by rw [← HA.out, bV_set]
 have X0 := (Blk.new w 184 #[.int .u8 (k.toNat : Int), .int .u16 c, .int .u32 n]).alloc (.cells (arr.setIfInBounds 0 (.int .u8 (k.toNat : Int))) 5)
 have hb0 : Below w.heap.size w ((w.alloc (.cells #[.int .u8 (k.toNat : Int), .int .u16 c, .int .u32 n] 184)).alloc (.cells (arr.setIfInBounds 0 (.int .u8 (k.toNat : Int))) 5)) := ball (ball (Below.refl _ _) _) _
 have B0 : Blk ((w.alloc (.cells #[.int .u8 (k.toNat : Int), .int .u16 c, .int .u32 n] 184)).alloc (.cells (arr.setIfInBounds 0 (.int .u8 (k.toNat : Int))) 5)) (w.heap.size + 1) 5 (arr.setIfInBounds 0 (.int .u8 (k.toNat : Int))) := Blk.newAt (by simp)
 have HB := Lib.hid (And.intro X0 (And.intro hb0 (And.intro B0 e1)))
 clear X0 B0 hb0 e1
 have hcI : (c : Int) < 65536 := by omega
 have hnI : (n : Int) < 4294967296 := by omega
 go_enter Tryz.func108, Tryz.ntmps108
 go_wp2
 obtain ⟨X0, hb0, B0, e1⟩ := HB.out
 obtain ⟨W0, hW0⟩ : ∃ W0, (w.alloc (.cells #[.int .u8 (k.toNat : Int), .int .u16 c, .int .u32 n] 184)).alloc (.cells (arr.setIfInBounds 0 (.int .u8 (k.toNat : Int))) 5) = W0 := ⟨_, rfl⟩
 rw [hW0] at X0 hb0 B0 ⊢
 rw [e1] at B0
 clear hW0 e1 mk0 a0
 have c1 := X0.cell 1
 have b2 : W0.cell? ⟨w.heap.size + 1, 2, none⟩ = some (.int .u8 0) := (B0.cell 2).trans (bV_at (x := 0) rfl)
 have b3 : W0.cell? ⟨w.heap.size + 1, 3, none⟩ = some (.int .u8 0) := (B0.cell 3).trans (bV_at (x := 0) rfl)
 have f2 := B0.frozen 2
 have f3 := B0.frozen 3
 have HB2 := Lib.hid (And.intro X0 (And.intro hb0 B0))
 clear X0 hb0 B0
 obtain ⟨X0, hb0, B0⟩ := HB2.out
 have B1 : Blk ((W0.setCell ⟨w.heap.size + 1, 2, none⟩ (.int .u8 ((c : Int) / 256))).setCell ⟨w.heap.size + 1, 3, none⟩ (.int .u8 ((c : Int) % 256))).drew (w.heap.size + 1) 5 (bV (headP k c n 0)) := by
  have v2 : (Value.int .u8 ((c : Int) / 256)) = .int .u8 ((UInt8.ofNat (c / 256)).toNat : Int) := val_int (by rw [u8_nat]; omega)
  have v3 : (Value.int .u8 ((c : Int) % 256)) = .int .u8 ((UInt8.ofNat c).toNat : Int) := val_int (by rw [u8_nat])
  rw [v2, v3, ← headP_zero, ← bV_set, ← bV_set]
  exact ((B0.set_ 2 _).set_ 3 _).drew
 have X1 := ((X0.far (p := ⟨w.heap.size + 1, 2, none⟩) (by simp) (.int .u8 ((c : Int) / 256))).far (p := ⟨w.heap.size + 1, 3, none⟩) (by simp) (.int .u8 ((c : Int) % 256))).drew
 have hb1 := (((hb0.setCell (show w.heap.size ≤ (⟨w.heap.size + 1, 2, none⟩ : Addr).block by simp) (.int .u8 ((c : Int) / 256))).setCell (show w.heap.size ≤ (⟨w.heap.size + 1, 3, none⟩ : Addr).block by simp) (.int .u8 ((c : Int) % 256)))).drew
 have HB3 := Lib.hid (And.intro X1 (And.intro hb1 B1))
 clear X0 hb0 B0 X1 hb1 B1
 go_region
 go_wp2
 obtain ⟨X1, hb1, B1⟩ := HB3.out
 obtain ⟨W1, hW1⟩ : ∃ W1, ((W0.setCell ⟨w.heap.size + 1, 2, none⟩ (.int .u8 ((c : Int) / 256))).setCell ⟨w.heap.size + 1, 3, none⟩ (.int .u8 ((c : Int) % 256))).drew = W1 := ⟨_, rfl⟩
 rw [hW1] at X1 hb1 B1 ⊢
 clear hW1 c1 b2 b3 f2 f3
 go_loopw [21] (fun iv wr => ∃ j : Nat, j ≤ 4 ∧ iv = .int .i64 j ∧ Blk wr (w.heap.size + 1) 5 (bV (headP k c n j)) ∧ Blk wr w.heap.size 184 #[.int .u8 (k.toNat : Int), .int .u16 c, .int .u32 n] ∧ Below w.heap.size w wr) (fun iv _ => 4 - (intOf iv).toNat)
 case atStart => exact ⟨0, by omega, rfl, B1, X1, hb1⟩
 case round =>
  clear X1 hb1 B1
  obtain ⟨j, hj, rfl, hB, hX, hb⟩ := hrel
  have q0 : (0 : Int) ≤ (j : Int) := by omega
  by_cases hlt : j < 4
  · have q1 : (j : Int) < 4 := by omega
    have c2 := hX.cell 2
    have b4 : wr.cell? ⟨w.heap.size + 1, 4 + j, none⟩ = some (.int .u8 0) := (hB.cell (4 + j)).trans (headP_at k c n j hlt)
    have f4 := hB.frozen (4 + j)
    have hv : Hid ((n : Int) / 2 ^ (24 - 8 * j) % 256 = ((UInt8.ofNat (n / 256 ^ (3 - j))).toNat : Int)) := shr_byte4 n j hlt
    go_wp2
    go_roundw
    case rel => exact ⟨j + 1, by omega, by go_num, by rw [← headP_set k c n j hlt, ← bV_set, ← hv.out]; exact hB.set_ _ _, hX.far (by simp) _, hb.setCell (by simp) _⟩
    case measure => simp [intOf]; omega
  · obtain rfl : j = 4 := by omega
    go_wp2
    go_ret
    exact ⟨_, rfl, hB, by omega, hb⟩
end
end Go.Proofs.YtebobcbaloddaaaGreat
