/-
  Da Db Dc Dd De.
-/
import Derived.Test.YtebobcbaloddaaaGreatMoab
import Derived.Test.YtebobcbaloddaaaGreatRows
import Derived.Laws.MakeOwn
import Derived.Deep.RegionWith
import Derived.WalkSpells
import Derived.WalkLawsBesides
namespace Go.Proofs.YtebobcbaloddaaaGreat
section
set_option linter.unusedSimpArgs false
set_option linter.unusedVariables false
open Go.RowKit
theorem Tryz.infoU8 : (Tryz.prog.info? 5).map (fun i => (i.zero, i.size, i.bytes)) = some (some (.int .u8 0), 1, 1) := by kernel_rfl
theorem Tryz.infoBool : (Tryz.prog.info? 4).map (fun i => (i.zero, i.size, i.bytes)) = some (some (.bool false), 1, 1) := by kernel_rfl
structure Dk (w : World) (g gb gt n : Nat) (bs : Array Value) (ts : Array Value) : Prop where
 d : Blk w g 61 #[.slice (some ⟨gb, 0, none⟩) (n * 512) (n * 512), .slice (some ⟨gt, 0, none⟩) n n]
 b : Blk w gb 5 bs
 t : Blk w gt 4 ts
 hb : bs.size = n * 512
 ht : ts.size = n
theorem len_any {w : World} {g gb gt n : Nat} {bs ts : Array Value} (h : Dk w g gb gt n bs ts) : Calls Tryz.prog 76 #[.pointer (some ⟨g, 0, none⟩)] w fun e w' => e = .returned (.int .i64 n) ∧ w = w' := by
 have c1 : w.cell? ⟨g, 1, none⟩ = some (.slice (some ⟨gt, 0, none⟩) n n) := h.d.cell 1
 go_enter Tryz.func76, Tryz.ntmps76
 go_wp2
 go_ret
 exact ⟨rfl, rfl⟩
theorem has_any {w : World} {g gb gt n : Nat} {bs ts : Array Value} (h : Dk w g gb gt n bs ts) (p : Int) (h0 : 0 ≤ p) (h1 : p ≤ 4294967295) (hn : n ≤ 1000000) :
 Calls Tryz.prog 84 #[.pointer (some ⟨g, 0, none⟩), .int .u32 p] w fun e w' => e = .returned (.bool (decide (p < n))) ∧ w = w' := by
 have L := Lib.hid (len_any h)
 go_enter Tryz.func84, Tryz.ntmps84
 go_wp2_with (go_at_call 76; refine L.out.mono ?_; rintro e w' ⟨rfl, rfl⟩)
 go_ret
 exact ⟨rfl, rfl⟩
end
end Go.Proofs.YtebobcbaloddaaaGreat
namespace Go.Proofs.YtebobcbaloddaaaGreat
section
set_option linter.unusedSimpArgs false
set_option linter.unusedVariables false
open Go.RowKit
theorem Blk.newAt {w : World} {t : TypeId} {cs : Array Value} {g : Nat} (h : g = w.heap.size) : Blk (w.alloc (.cells cs t)) g t cs := by subst h; exact Blk.new _ _ _
def zeroBytes (n : Nat) : Array Value := madeCells #[.int .u8 0] (n * 512)
def newMarks (n : Nat) : Array Value := (madeCells #[.bool false] n).setIfInBounds 0 (.bool true)
def RetDisk (w : World) (n : Nat) (bs ts : Array Value) (e : Ending) (w' : World) : Prop :=
 ∃ g gb gt, e = .returned (.tuple #[.pointer (some ⟨g, 0, none⟩), .int .i64 0]) ∧ Dk w' g gb gt n bs ts ∧ w.heap.size ≤ g ∧ w.heap.size ≤ gb ∧ w.heap.size ≤ gt ∧ Below w.heap.size w w'
set_option maxHeartbeats 1000000 in
theorem new_any (n : Nat) (h1 : 1 ≤ n) (h2 : n ≤ 4096) (w : World) : Calls Tryz.prog 10 #[.int .i64 n] w (RetDisk w n (zeroBytes n) (newMarks n)) := by
 obtain ⟨i0, hi0, hz0, hs0, hy0⟩ := int_info8 Tryz.infoU8
 obtain ⟨i1, hi1, hz1, hs1, hy1⟩ := int_info8 Tryz.infoBool
 have mk0 : ∀ W, (Instr.makeSlice 58 (.int .i64 ((n : Int) * 512)) (.int .i64 ((n : Int) * 512))).run Tryz.prog W = .ok (.slice (some ⟨W.heap.size, 0, none⟩) (n * 512) (n * 512)) (W.alloc (.cells (zeroBytes n) 5)) := by
  intro W
  have h := run_make (P := Tryz.prog) W 58 5 i0 (.int .u8 0) Tryz.underlying58 hi0 hz0 .i64 .i64 ((n : Int) * 512) ((n : Int) * 512) (by omega) (by omega) (by rw [hy0]; omega) (by omega)
  have e : ((n : Int) * 512).toNat = n * 512 := by omega
  rw [e, hs0, Nat.mul_one] at h
  exact h
 have mk1 : ∀ W, (Instr.makeSlice 59 (.int .i64 (n : Int)) (.int .i64 (n : Int))).run Tryz.prog W = .ok (.slice (some ⟨W.heap.size, 0, none⟩) n n) (W.alloc (.cells (madeCells #[.bool false] n) 4)) := by
  intro W
  have h := run_make (P := Tryz.prog) W 59 4 i1 (.bool false) Tryz.underlying59 hi1 hz1 .i64 .i64 (n : Int) (n : Int) (by omega) (by omega) (by rw [hy1]; omega) (by omega)
  rw [Int.toNat_natCast, hs1, Nat.mul_one] at h
  exact h
 have hc0 : (madeCells #[.bool false] n)[0]? = some (.bool false) := by
  rw [Array.getElem?_eq_getElem (by rw [size_madeCells]; omega)]
  simp [madeCells]
 have hpos : 0 < n := by omega
 have hpI : (0 : Int) < (n : Int) := by omega
 clear hi0 hz0 hs0 hy0 hi1 hz1 hs1 hy1
 go_enter Tryz.func10, Tryz.ntmps10
 go_wp2
 go_region
 all_goals go_wp2
 all_goals go_ret2
 · exact ⟨w.heap.size + 1 + 1, w.heap.size, w.heap.size + 1, rfl, ⟨(Blk.newAt (by simp)).drew, (((Blk.new _ _ _).alloc _).alloc _).drew, ((Blk.newAt (by simp)).alloc _).drew, by simp [zeroBytes, size_madeCells], by simp [newMarks, size_madeCells]⟩, by omega, by omega, by omega, (ball (ball (ball (Below.refl _ _) _) _) _).drew⟩
 · exact ⟨w.heap.size + 1 + 1, w.heap.size + 1, w.heap.size, rfl, ⟨(Blk.newAt (by simp)).drew, ((Blk.newAt (by simp)).alloc _).drew, (((Blk.new _ _ _).alloc _).alloc _).drew, by simp [zeroBytes, size_madeCells], by simp [newMarks, size_madeCells]⟩, by omega, by omega, by omega, (ball (ball (ball (Below.refl _ _) _) _) _).drew⟩
end
end Go.Proofs.YtebobcbaloddaaaGreat
namespace Go.Proofs.YtebobcbaloddaaaGreat
section
set_option linter.unusedSimpArgs false
set_option linter.unusedVariables false
open Go.RowKit
theorem take_at {w : World} {g gb gt n : Nat} {bs ts : Array Value} (h : Dk w g gb gt n bs ts) (hn : n ≤ 1000000) (i : Nat) (hi : ts[i]? = some (.bool false)) (hj : ∀ j, j < i → ts[j]? = some (.bool true)) :
 Calls Tryz.prog 67 #[.pointer (some ⟨g, 0, none⟩)] w fun e w' => e = .returned (.tuple #[.int .u32 i, .int .i64 0]) ∧ w.setCell ⟨gt, i, none⟩ (.bool true) = w' := by
 have L := Lib.hid (len_any h)
 have hin : i < n := by
  have := (Array.getElem?_eq_some_iff.1 hi).1
  rw [h.ht] at this; exact this
 have c1 : w.cell? ⟨g, 1, none⟩ = some (.slice (some ⟨gt, 0, none⟩) n n) := h.d.cell 1
 have ct := fun j => h.t.cell j
 have fz := fun j => h.t.frozen j
 have HJ := Lib.hid hj; clear hj
 have CT := Lib.hid ct; clear ct
 have FZ := Lib.hid fz; clear fz
 go_enter Tryz.func67, Tryz.ntmps67
 go_wp2_with (go_at_call 76; refine L.out.mono ?_; rintro e w' ⟨rfl, rfl⟩)
 go_loop [7] (fun v => ∃ k : Nat, v = .int .i64 k ∧ k ≤ i) (fun v => i - (intOf v).toNat)
 case atStart => exact ⟨0, rfl, by omega⟩
 case round =>
  obtain ⟨k, rfl, hk⟩ := hrel
  have g1 : (0 : Int) ≤ (k : Int) := by omega
  have g2 : (k : Int) < (n : Int) := by omega
  have g3 : k < n := by omega
  by_cases hki : k < i
  · have c2 : w.cell? ⟨gt, k, none⟩ = some (.bool true) := (CT.out k).trans (HJ.out k hki)
    go_wp2
    go_round
    case rel => exact ⟨k + 1, by go_num, by omega⟩
    case measure => simp [intOf]; omega
  · obtain rfl : i = k := by omega
    have c2 : w.cell? ⟨gt, i, none⟩ = some (.bool false) := (CT.out i).trans hi
    have f2 := FZ.out i
    clear hi
    go_wp2
    go_ret2
    exact ⟨rfl, rfl⟩
theorem take_full {w : World} {g gb gt n : Nat} {bs ts : Array Value} (h : Dk w g gb gt n bs ts) (hn : n ≤ 1000000) (hj : ∀ j, j < n → ts[j]? = some (.bool true)) :
 Calls Tryz.prog 67 #[.pointer (some ⟨g, 0, none⟩)] w fun e w' => e = .returned (.tuple #[.int .u32 0, .int .i64 7]) ∧ w = w' := by
 have L := Lib.hid (len_any h)
 have c1 : w.cell? ⟨g, 1, none⟩ = some (.slice (some ⟨gt, 0, none⟩) n n) := h.d.cell 1
 have ct := fun j => h.t.cell j
 have HJ := Lib.hid hj; clear hj
 have CT := Lib.hid ct; clear ct
 go_enter Tryz.func67, Tryz.ntmps67
 go_wp2_with (go_at_call 76; refine L.out.mono ?_; rintro e w' ⟨rfl, rfl⟩)
 go_loop [7] (fun v => ∃ k : Nat, v = .int .i64 k ∧ k ≤ n) (fun v => n - (intOf v).toNat)
 case atStart => exact ⟨0, rfl, by omega⟩
 case round =>
  obtain ⟨k, rfl, hk⟩ := hrel
  by_cases hki : k < n
  · have g1 : (0 : Int) ≤ (k : Int) := by omega
    have g2 : (k : Int) < (n : Int) := by omega
    have c2 : w.cell? ⟨gt, k, none⟩ = some (.bool true) := (CT.out k).trans (HJ.out k hki)
    go_wp2
    go_round
    case rel => exact ⟨k + 1, by go_num, by omega⟩
    case measure => simp [intOf]; omega
  · go_wp2
    go_ret2
    exact ⟨rfl, rfl⟩
end
end Go.Proofs.YtebobcbaloddaaaGreat
namespace Go.Proofs.YtebobcbaloddaaaGreat
section
set_option linter.unusedSimpArgs false
set_option linter.unusedVariables false
open Go.RowKit
theorem Dk.mark {w : World} {g gb gt n : Nat} {bs ts : Array Value} (h : Dk w g gb gt n bs ts) (i : Nat) (v : Value) : Dk (w.setCell ⟨gt, i, none⟩ v) g gb gt n bs (ts.setIfInBounds i v) :=
 ⟨h.d.far (Blk.ne_ h.d h.t (by decide)) _, h.b.far (Blk.ne_ h.b h.t (by decide)) _, h.t.set_ i v, h.hb, by rw [Array.size_setIfInBounds]; exact h.ht⟩
theorem Dk.below {w w' : World} {g gb gt n B : Nat} {bs ts : Array Value} (h : Dk w g gb gt n bs ts) (hb : Below B w w') (h1 : g < B) (h2 : gb < B) (h3 : gt < B) : Dk w' g gb gt n bs ts :=
 ⟨h.d.below hb h1, h.b.below hb h2, h.t.below hb h3, h.hb, h.ht⟩
end
end Go.Proofs.YtebobcbaloddaaaGreat
namespace Go.Proofs.YtebobcbaloddaaaGreat
section
set_option linter.unusedSimpArgs false
set_option linter.unusedVariables false
open Go.RowKit
end
end Go.Proofs.YtebobcbaloddaaaGreat
