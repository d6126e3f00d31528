/-
  Contracts of the disk: New, Take.
-/
import Derived.Test.YtcpbkaeilmabaaaDa
namespace Go.Proofs.Ytcpbkaeilmabaaa
open Go.RowKit

theorem Blk.newAt {w : World} {t : TypeId} {cs : Array Value} {g : Nat} (h : g = w.heap.size) : Blk (w.alloc (.cells cs t)) g t cs := by subst h; exact Blk.new _ _ _
/-- A disk's bytes, as a new one has them. -/
def zeroBytes (n : Nat) : Array Value := madeCells #[.int .u8 0] (n * 512)
def newMarks (n : Nat) : Array Value := (madeCells #[.bool false] n).setIfInBounds 0 (.bool true)
def RetDisk (w : World) (n : Nat) (bs ts : Array Value) (e : Ending) (w' : World) : Prop :=
  ∃ g gb gt, e = .returned (.tuple #[.pointer (some ⟨g, 0, none⟩), .int .i64 0]) ∧ Dk w' g gb gt n bs ts ∧ w.heap.size ≤ g ∧ w.heap.size ≤ gb ∧ w.heap.size ≤ gt ∧ Below w.heap.size w w'

set_option maxHeartbeats 1000000 in
theorem new_any (n : Nat) (h1 : 1 ≤ n) (h2 : n ≤ 4096) (w : World) : Calls Try.prog 16 #[.int .i64 n] w (RetDisk w n (zeroBytes n) (newMarks n)) := by
  obtain ⟨i0, hi0, hz0, hs0, hy0⟩ := int_info8 Try.infoU8
  obtain ⟨i1, hi1, hz1, hs1, hy1⟩ := int_info8 Try.infoBool
  have mk0 : ∀ W, (Instr.makeSlice 37 (.int .i64 ((n : Int) * 512)) (.int .i64 ((n : Int) * 512))).run Try.prog W = .ok (.slice (some ⟨W.heap.size, 0, none⟩) (n * 512) (n * 512)) (W.alloc (.cells (zeroBytes n) 5)) := by
    intro W
    have h := run_make (P := Try.prog) W 37 5 i0 (.int .u8 0) Try.underlying37 hi0 hz0 .i64 .i64 ((n : Int) * 512) ((n : Int) * 512) (by omega) (by omega) (by rw [hy0]; omega) (by omega)
    have e : ((n : Int) * 512).toNat = n * 512 := by omega
    rw [e, hs0, Nat.mul_one] at h
    exact h
  have mk1 : ∀ W, (Instr.makeSlice 29 (.int .i64 (n : Int)) (.int .i64 (n : Int))).run Try.prog W = .ok (.slice (some ⟨W.heap.size, 0, none⟩) n n) (W.alloc (.cells (madeCells #[.bool false] n) 4)) := by
    intro W
    have h := run_make (P := Try.prog) W 29 4 i1 (.bool false) Try.underlying29 hi1 hz1 .i64 .i64 (n : Int) (n : Int) (by omega) (by omega) (by rw [hy1]; omega) (by omega)
    rw [Int.toNat_natCast, hs1, Nat.mul_one] at h
    exact h
  have hc0 : (madeCells #[.bool false] n)[0]? = some (.bool false) := by
    rw [Array.getElem?_eq_getElem (by rw [size_madeCells]; omega)]
    simp [madeCells]
  have hpos : 0 < n := by omega
  have hpI : (0 : Int) < (n : Int) := by omega
  clear hi0 hz0 hs0 hy0 hi1 hz1 hs1 hy1
  go_enter Try.func16, Try.ntmps16
  go_wp2
  go_region
  all_goals go_wp2
  all_goals go_ret2
  · exact ⟨w.heap.size + 1 + 1, w.heap.size, w.heap.size + 1, rfl, ⟨(Blk.newAt (by simp)).drew, (((Blk.new _ _ _).alloc _).alloc _).drew, ((Blk.newAt (by simp)).alloc _).drew, by simp [zeroBytes, size_madeCells], by simp [newMarks, size_madeCells]⟩, by omega, by omega, by omega, (ball (ball (ball (Below.refl _ _) _) _) _).drew⟩
  · exact ⟨w.heap.size + 1 + 1, w.heap.size + 1, w.heap.size, rfl, ⟨(Blk.newAt (by simp)).drew, ((Blk.newAt (by simp)).alloc _).drew, (((Blk.new _ _ _).alloc _).alloc _).drew, by simp [zeroBytes, size_madeCells], by simp [newMarks, size_madeCells]⟩, by omega, by omega, by omega, (ball (ball (ball (Below.refl _ _) _) _) _).drew⟩
end Go.Proofs.Ytcpbkaeilmabaaa
