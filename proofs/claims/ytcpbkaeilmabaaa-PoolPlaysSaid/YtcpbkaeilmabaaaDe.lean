/-
  A page of bytes that are all the same.
-/
import Derived.Test.YtcpbkaeilmabaaaDd
namespace Go.Proofs.Ytcpbkaeilmabaaa
open Go.RowKit

/-- The first k bytes are c, the others 0. -/
def fillA (c : Int) (n k : Nat) : Array Value := Array.ofFn (n := n) fun j => if j.val < k then .int .u8 c else .int .u8 0
theorem fillA_set (c : Int) (n k : Nat) (_hk : k < n) : (fillA c n k).setIfInBounds k (.int .u8 c) = fillA c n (k + 1) := by
  apply Array.ext
  · simp [fillA]
  · intro j h1 h2
    rw [Array.getElem_setIfInBounds (by simpa [fillA] using h2)]
    simp only [fillA, Array.getElem_ofFn]
    by_cases h : k = j
    · subst h; simp
    · rw [if_neg h]
      by_cases h3 : j < k
      · rw [if_pos h3, if_pos (by omega)]
      · rw [if_neg h3, if_neg (by omega)]
theorem fillA_at (c : Int) (n k : Nat) (hk : k < n) : (fillA c n k)[k]? = some (.int .u8 0) := by
  rw [Array.getElem?_eq_getElem (by simpa [fillA] using hk)]
  simp [fillA]
theorem fillA_zero (c : Int) (n : Nat) : madeCells #[.int .u8 0] n = fillA c n 0 := by
  apply Array.ext
  · simp [fillA, madeCells]
  · intro j h1 h2
    simp [fillA, madeCells, Nat.mod_one]
def RetPage (w : World) (c : Int) (n : Nat) (e : Ending) (w' : World) : Prop := e = .returned (.slice (some ⟨w.heap.size, 0, none⟩) n n) ∧ Blk w' w.heap.size 5 (fillA c n n) ∧ Below w.heap.size w w'

set_option maxHeartbeats 1000000 in
theorem page_any (c : Int) (w : World) : Calls Try.prog 19 #[.int .u8 c, .int .i64 512] w (RetPage w c 512) := by
  obtain ⟨i0, hi0, hz0, hs0, hy0⟩ := int_info8 Try.infoU8
  have mk0 : ∀ W, (Instr.makeSlice 37 (.int .i64 512) (.int .i64 512)).run Try.prog W = .ok (.slice (some ⟨W.heap.size, 0, none⟩) 512 512) (W.alloc (.cells (fillA c 512 0) 5)) := by
    intro W
    have h := run_make (P := Try.prog) W 37 5 i0 (.int .u8 0) Try.underlying37 hi0 hz0 .i64 .i64 512 512 (by omega) (by omega) (by rw [hy0]; omega) (by omega)
    rw [hs0] at h
    rw [← fillA_zero]
    exact h
  clear hi0 hz0 hs0 hy0
  go_enter Try.func19, Try.ntmps19
  go_wp2
  go_loopw [11] (fun v wr => ∃ k : Nat, v = .int .i64 k ∧ k ≤ 512 ∧ Blk wr w.heap.size 5 (fillA c 512 k) ∧ Below w.heap.size w wr) (fun v _ => 512 - (intOf v).toNat)
  case atStart => exact ⟨0, rfl, by omega, Blk.new _ _ _, ball (Below.refl _ _) _⟩
  case round =>
    obtain ⟨k, rfl, hk, hB, hb⟩ := hrel
    by_cases hlt : k < 512
    · have c1 : wr.cell? ⟨w.heap.size, k, none⟩ = some (.int .u8 0) := (hB.cell k).trans (fillA_at c 512 k hlt)
      have f1 := hB.frozen k
      have g1 : (0 : Int) ≤ (k : Int) := by omega
      have g2 : (k : Int) < 512 := by omega
      go_wp2
      go_roundw
      case rel => exact ⟨k + 1, by go_num, by omega, by rw [← fillA_set c 512 k hlt]; exact hB.set_ k _, hb.setCell (Nat.le_refl _) _⟩
      case measure => simp [intOf]; omega
    · obtain rfl : k = 512 := by omega
      go_wp2
      go_ret
      exact ⟨rfl, hB, hb⟩
end Go.Proofs.Ytcpbkaeilmabaaa
