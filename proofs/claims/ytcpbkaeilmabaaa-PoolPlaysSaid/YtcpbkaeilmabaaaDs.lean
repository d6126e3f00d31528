/-
  A page of bytes that are all the same, of any size; the disk's Copy.
-/
import Derived.Test.YtcpbkaeilmabaaaDr
namespace Go.Proofs.Ytcpbkaeilmabaaa
open Go.RowKit

set_option maxHeartbeats 1000000 in
theorem pageN_any (c : Int) (n : Nat) (hn : n ≤ 1000000) (w : World) : Calls Try.prog 19 #[.int .u8 c, .int .i64 n] w (RetPage w c n) := by
  obtain ⟨i0, hi0, hz0, hs0, hy0⟩ := int_info8 Try.infoU8
  have mk0 : ∀ W, (Instr.makeSlice 37 (.int .i64 (n : Int)) (.int .i64 (n : Int))).run Try.prog W = .ok (.slice (some ⟨W.heap.size, 0, none⟩) n n) (W.alloc (.cells (fillA c n 0) 5)) := by
    intro W
    have h := run_make (P := Try.prog) W 37 5 i0 (.int .u8 0) Try.underlying37 hi0 hz0 .i64 .i64 (n : Int) (n : Int) (by omega) (by omega) (by rw [hy0]; omega) (by omega)
    rw [Int.toNat_natCast, hs0, Nat.mul_one] at h
    rw [← fillA_zero]
    exact h
  clear hi0 hz0 hs0 hy0
  have hnI : (n : Int) ≤ 1000000 := by omega
  go_enter Try.func19, Try.ntmps19
  go_wp2
  go_loopw [11] (fun v wr => ∃ k : Nat, v = .int .i64 k ∧ k ≤ n ∧ Blk wr w.heap.size 5 (fillA c n k) ∧ Below w.heap.size w wr) (fun v _ => n - (intOf v).toNat)
  case atStart => exact ⟨0, rfl, by omega, Blk.new _ _ _, ball (Below.refl _ _) _⟩
  case round =>
    obtain ⟨k, rfl, hk, hB, hb⟩ := hrel
    by_cases hlt : k < n
    · have c1 : wr.cell? ⟨w.heap.size, k, none⟩ = some (.int .u8 0) := (hB.cell k).trans (fillA_at c n k hlt)
      have f1 := hB.frozen k
      have g1 : (0 : Int) ≤ (k : Int) := by omega
      have g2 : (k : Int) < (n : Int) := by omega
      go_wp2
      go_roundw
      case rel => exact ⟨k + 1, by go_num, by omega, by rw [← fillA_set c n k hlt]; exact hB.set_ k _, hb.setCell (Nat.le_refl _) _⟩
      case measure => simp [intOf]; omega
    · obtain rfl : k = n := by omega
      go_wp2
      go_ret
      exact ⟨rfl, hB, hb⟩
theorem pageNL (b : UInt8) (n : Nat) (hn : n ≤ 1000000) (w : World) : Calls Try.prog 19 #[.int .u8 (b.toNat : Int), .int .i64 n] w fun e w' =>
    e = .returned (.slice (some ⟨w.heap.size, 0, none⟩) n n) ∧ Blk w' w.heap.size 5 (bV (List.replicate n b)) ∧ Below w.heap.size w w' := by
  refine (pageN_any (b.toNat : Int) n hn w).mono ?_
  rintro e w' ⟨rfl, hB, hb⟩
  rw [fillA_rep] at hB
  exact ⟨rfl, hB, hb⟩

def RetCopy (w : World) (n : Nat) (ps : List (List UInt8)) (T : List Bool) (e : Ending) (w' : World) : Prop :=
  ∃ g gb gt, e = .returned (.pointer (some ⟨g, 0, none⟩)) ∧ DP w' g gb gt n ps T ∧ w.heap.size ≤ g ∧ w.heap.size ≤ gb ∧ w.heap.size ≤ gt ∧ Below w.heap.size w w'
set_option maxHeartbeats 1000000 in
theorem copy_any {w : World} {g gb gt n : Nat} {ps : List (List UInt8)} {T : List Bool} (h : DP w g gb gt n ps T) (hn : n ≤ 1000000) (h1n : 1 ≤ n) :
    Calls Try.prog 24 #[.pointer (some ⟨g, 0, none⟩)] w (RetCopy w n ps T) := by
  obtain ⟨i1, hi1, hz1, hs1, hy1⟩ := int_info8 Try.infoBool
  have mk1 : ∀ W, (Instr.makeSlice 29 (.int .i64 (n : Int)) (.int .i64 (n : Int))).run Try.prog W = .ok (.slice (some ⟨W.heap.size, 0, none⟩) n n) (W.alloc (.cells (madeCells #[.bool false] n) 4)) := by
    intro W
    have h := run_make (P := Try.prog) W 29 4 i1 (.bool false) Try.underlying29 hi1 hz1 .i64 .i64 (n : Int) (n : Int) (by omega) (by omega) (by rw [hy1]; omega) (by omega)
    rw [Int.toNat_natCast, hs1, Nat.mul_one] at h
    exact h
  clear hi1 hz1 hs1 hy1
  have c1 : w.cell? ⟨g, 1, none⟩ = some (.slice (some ⟨gt, 0, none⟩) n n) := h.dk.d.cell 1
  have hgl := h.lts
  have hT := h.hT
  have hTl : (tL T).length = n := by rw [tL_len, hT]
  have hZ : (madeCells #[.bool false] n).size = n := by simp [size_madeCells]
  have hsrc : Hid (∀ W, Below w.heap.size w W → ∀ j v, (tL T)[j]? = some v → W.cell? ((⟨gt, 0, none⟩ : Addr).add j) = some v) := by
    intro W hW j v hv
    rw [add_head, (h.dk.t.below hW hgl.2.2).cell]
    simpa [tV] using hv
  have hinfo : (Try.prog.info? 4).map (·.size) = some 1 := by kernel_rfl
  have HI := Lib.hid hinfo; clear hinfo
  have HT := Lib.hid hTl; clear hTl
  have HZ := Lib.hid hZ; clear hZ
  have hne : ((w.alloc (.cells (madeCells #[.bool false] n) 4)).setRow w.heap.size (splice (madeCells #[.bool false] n).toList 0 (tL T)).toArray) = ((w.alloc (.cells (madeCells #[.bool false] n) 4)).setRow w.heap.size (tV T)) := by
    rw [splice_all _ _ (by rw [HT.out]; simpa using HZ.out)]
    rfl
  have HNE := Lib.hid hne; clear hne
  have hB : Below w.heap.size w ((w.alloc (.cells (madeCells #[.bool false] n) 4)).setRow w.heap.size (tV T)) := below_setRow (ball (Below.refl _ _) _) (Nat.le_refl _) _
  have hBk : Blk ((w.alloc (.cells (madeCells #[.bool false] n) 4)).setRow w.heap.size (tV T)) w.heap.size 4 (tV T) := setRow_at (Blk.new _ _ _)
  have HBB := Lib.hid (And.intro hB hBk); clear hB hBk
  have Hh := Lib.hid h
  clear h
  obtain ⟨W2, hW2⟩ : ∃ W2, ((w.alloc (.cells (madeCells #[.bool false] n) 4)).setRow w.heap.size (tV T)) = W2 := ⟨_, rfl⟩
  rw [hW2] at HBB HNE
  clear hW2
  have I := Lib.hid fun W (hW : Below w.heap.size w W) => image_any (Hh.out.dk.below hW hgl.1 hgl.2.1 hgl.2.2) hn h1n (by rw [bV_toList]; exact bL_one _)
  go_enter Try.func24, Try.ntmps24
  go_wp2_with (refine wpList_copy_own rfl _ _ 29 29 rfl 4 Try.underlying29 HI.out w.heap.size 0 n n ⟨gt, 0, none⟩ n n rfl rfl (madeCells #[.bool false] n) 4 (Blk.new _ _ _) (tL T) (by rw [HT.out]; simp) (hsrc.out _ (ball (Below.refl _ _) _)) (by rw [HT.out, HZ.out]; omega) (tL_one T) ?_; (show wpList _ _ _ _ _ ((w.alloc (.cells (madeCells #[.bool false] n) 4)).setRow w.heap.size (splice (madeCells #[.bool false] n).toList 0 (tL T)).toArray)); rw [HNE.out])
  refine (I.out _ HBB.out.1).mono ?_
  rintro e w3 ⟨rfl, hB3, hb3⟩
  go_wp2
  go_ret
  have hlt := HBB.out.2.lt
  have hz := hb3.size
  have ht3 := HBB.out.2.below hb3 hlt
  have hl3 := hB3.lt
  exact ⟨w3.heap.size, W2.heap.size, w.heap.size, rfl, ⟨⟨Blk.new _ _ _, hB3.alloc _, ht3.alloc _, by rw [bV_size, pflat_len ps Hh.out.full, Hh.out.hp], by rw [tV_size, Hh.out.hT]⟩, Hh.out.full, Hh.out.hp⟩, by omega, by omega, Nat.le_refl _, (bto0 HBB.out.1 hb3).alloc (by omega) _⟩
end Go.Proofs.Ytcpbkaeilmabaaa
