/-
  Keys as bytes: contract of the reference's number.
-/
import Derived.Test.YtohaplmbgipbcaaDoorKc
namespace Go.Proofs.YtohaplmbgipbcaaDoor
open Go.RowKit

theorem bV_set (l : List UInt8) (i : Nat) (b : UInt8) : (bV l).setIfInBounds i (.int .u8 (b.toNat : Int)) = bV (l.set i b) := by
  simp [bV, bL, List.map_set]
def low (m : Nat) (U : Nat) : List UInt8 := List.replicate m 0 ++ be (8 - m) U
theorem low_set (m U : Nat) (hm : m < 8) : (low (m + 1) U).set m (UInt8.ofNat (U / 256 ^ (7 - m))) = low m U := by
  unfold low
  rw [show 8 - m = (8 - (m + 1)) + 1 from by omega, be_cons, show 8 - (m + 1) = 7 - m from by omega, List.replicate_succ']
  rw [List.set_append]
  simp
theorem low_at (m U : Nat) : (bV (low (m + 1) U))[m]? = some (.int .u8 0) := by
  have : (low (m + 1) U)[m]? = some 0 := by
    unfold low
    rw [List.getElem?_append_left (by simp)]
    simp
  exact bV_at this
theorem zero8 (U : Nat) : madeCells #[.int .u8 0] 8 = bV (low 8 U) := by
  show _ = bV (List.replicate 8 0 ++ [])
  kernel_rfl
theorem num_step {m U V : Nat} (hm : m < 8) (h : U / 256 ^ (8 - (m + 1)) = V) (hU : (U : Int) < 18446744073709551616) : IntKind.u64.wrap ((V : Int) / 256) = ((U / 256 ^ (8 - m) : Nat) : Int) := by
  have hV : V ≤ U := by rw [← h]; exact Nat.div_le_self _ _
  rw [IntKind.wrap_u64, show 8 - m = (8 - (m + 1)) + 1 from by omega, Nat.pow_succ, ← Nat.div_div_eq_div_mul, h]
  omega
theorem num_byte {m U V : Nat} (hm : m < 8) (h : U / 256 ^ (8 - (m + 1)) = V) : (V : Int) % 256 = ((UInt8.ofNat (U / 256 ^ (7 - m))).toNat : Int) := by
  rw [show 7 - m = 8 - (m + 1) from by omega, h, u8_nat]
def RetNum (w : World) (U : Nat) (e : Ending) (w' : World) : Prop := e = .returned (.slice (some ⟨w.heap.size, 0, none⟩) 8 8) ∧ Blk w' w.heap.size 5 (bV (be 8 U)) ∧ Below w.heap.size w w'
set_option maxHeartbeats 1000000 in
theorem rnum5_any (i : Int) (U : Nat) (hU : (U : Int) = i + 9223372036854775808) (hUb : (U : Int) < 18446744073709551616) (w : World) : Calls Tryd.prog 25 #[.int .i64 i] w (RetNum w U) := by
  obtain ⟨i0, hi0, hz0, hs0, hy0⟩ := int_info8 Tryd.infoB
  have mk0 : ∀ W, (Instr.makeSlice 40 (.int .i64 8) (.int .i64 8)).run Tryd.prog W = .ok (.slice (some ⟨W.heap.size, 0, none⟩) 8 8) (W.alloc (.cells (bV (low 8 U)) 5)) := by
    intro W
    have h := run_make (P := Tryd.prog) W 40 5 i0 (.int .u8 0) Tryd.underlying40 hi0 hz0 .i64 .i64 8 8 (by omega) (by omega) (by rw [hy0]; omega) (by omega)
    rw [hs0] at h
    rw [← zero8 U]
    exact h
  clear hi0 hz0 hs0 hy0
  have cvU : IntKind.u64.wrap (IntKind.u64.wrap i + 9223372036854775808) = (U : Int) := by rw [IntKind.wrap_u64, IntKind.wrap_u64]; omega
  have HUb := Lib.hid hUb
  clear hUb hU
  go_enter Tryd.func25, Tryd.ntmps25
  go_wp2
  clear cvU mk0
  go_loopw [3, 5] (fun uv iv wr => ∃ m : Nat, m ≤ 8 ∧ iv = .int .i64 ((m : Int) - 1) ∧ uv = .int .u64 ((U / 256 ^ (8 - m) : Nat) : Int) ∧ Blk wr w.heap.size 5 (bV (low m U)) ∧ Below w.heap.size w wr) (fun _ iv _ => ((intOf iv) + 1).toNat)
  case atStart => exact ⟨8, by omega, rfl, by simp, Blk.new _ _ _, ball (Below.refl _ _) _⟩
  case round =>
    obtain ⟨m, hm, rfl, rfl, hB, hb⟩ := hrel
    cases m with
    | zero =>
      have hE : low 0 U = be 8 U := rfl
      rw [hE] at hB
      clear hE
      go_wp2
      go_ret
      exact ⟨rfl, hB, hb⟩
    | succ m =>
      have e1 : ((m + 1 : Nat) : Int) - 1 = (m : Int) := by omega
      rw [e1]
      clear e1
      have g1 : (0 : Int) ≤ (m : Int) := by omega
      have g2 : (m : Int) < 8 := by omega
      obtain ⟨V, hV⟩ : ∃ V : Nat, U / 256 ^ (8 - (m + 1)) = V := ⟨_, rfl⟩
      rw [hV]
      have HV := Lib.hid hV; clear hV
      have c1 : wr.cell? ⟨w.heap.size, m, none⟩ = some (.int .u8 0) := (hB.cell m).trans (low_at m U)
      have f1 := hB.frozen m
      have g3 : (0 : Int) ≤ (V : Int) := by omega
      go_wp2
      go_roundw
      case rel => exact ⟨m, by omega, rfl, val_int (num_step (by omega) HV.out HUb.out), by rw [← low_set m U (by omega), ← bV_set]; rw [← num_byte (by omega) HV.out]; exact hB.set_ m _, hb.setCell (Nat.le_refl _) _⟩
      case measure => simp [intOf]
end Go.Proofs.YtohaplmbgipbcaaDoor
