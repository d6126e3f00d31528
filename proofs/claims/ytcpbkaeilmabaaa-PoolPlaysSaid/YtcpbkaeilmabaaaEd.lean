/-
  New, both sides, with its pages as lists.
-/
import Derived.Test.YtcpbkaeilmabaaaEc
namespace Go.Proofs.Ytcpbkaeilmabaaa
open Go.RowKit

/-- The bytes of a new disk. -/
def zb (n : Nat) : List UInt8 := List.replicate (n * 512) 0
theorem zb_len (n : Nat) : (zb n).length = n * 512 := List.length_replicate
theorem zb_marks (n : Nat) (h : 1 ≤ n) : marksOf (zb n) n = true :: List.replicate (n - 1) false := by
  apply List.ext_getElem
  · rw [marksOf_len, List.length_cons, List.length_replicate]; omega
  · intro i h1 h2
    rw [marksOf_len] at h1
    have hm : (marksOf (zb n) n)[i] = mark (zb n) i := by simp [marksOf]
    rw [hm]
    have hz : (zb n)[i * 512]? = some 0 := by
      unfold zb
      rw [List.getElem?_replicate, if_pos (by omega)]
    unfold mark
    rw [hz]
    cases i with
    | zero => rfl
    | succ i => simp
theorem newDP (n : Nat) (h1 : 1 ≤ n) (h2 : n ≤ 4096) (w : World) : Calls Try.prog 16 #[.int .i64 n] w (RetDP w n (pagesOf (zb n) n) (marksOf (zb n) n)) := by
  refine (new_any n h1 h2 w).mono ?_
  rintro e w' ⟨g, gb, gt, rfl, hd, k1, k2, k3, hb⟩
  rw [newMarks_eq (zb n) n h1] at hd
  have e1 : marksP (zb n) n 0 = marksOf (zb n) n := by rw [zb_marks n h1]; rfl
  rw [e1, zero_rep] at hd
  have hfl := pagesOf_all (zb n) n (zb_len n)
  exact ⟨g, gb, gt, rfl, ⟨by rw [hfl]; exact hd, pagesOf_full _ _ (by rw [zb_len]; exact Nat.le_refl _), pagesOf_len _ _⟩, k1, k2, k3, hb⟩
set_option maxHeartbeats 1000000 in
theorem rzeros_any (m : Nat) (hm : m ≤ 10000000) (w : World) : Calls Try.prog 60 #[.int .i64 m] w (RetB w (.string (str (List.replicate m 0)))) := by
  obtain ⟨i0, hi0, hz0, hs0, hy0⟩ := int_info8 Try.infoU8
  obtain ⟨Z, hZ⟩ : ∃ Z, List.replicate m (0 : UInt8) = Z := ⟨_, rfl⟩
  have e0 : madeCells #[.int .u8 0] m = bV Z := by
    rw [← hZ, ← fillA_rep 0 m]
    rw [fillA_zero (0 : Int) m]
    apply Array.ext
    · simp [fillA]
    · intro j h1 h2
      simp [fillA]
  have mk0 : ∀ W, (Instr.makeSlice 37 (.int .i64 (m : Int)) (.int .i64 (m : Int))).run Try.prog W = .ok (.slice (some ⟨W.heap.size, 0, none⟩) m m) (W.alloc (.cells (bV Z) 5)) := by
    intro W
    have h := run_make (P := Try.prog) W 37 5 i0 (.int .u8 0) Try.underlying37 hi0 hz0 .i64 .i64 (m : Int) (m : Int) (by omega) (by omega) (by rw [hy0]; omega) (by omega)
    rw [Int.toNat_natCast, hs0, Nat.mul_one] at h
    rw [← e0]
    exact h
  have hl : Z.length = m := by rw [← hZ, List.length_replicate]
  have cv := conv_blk (P := Try.prog) (Blk.new w 5 (bV Z)) 37 5 9 Try.underlying37 Try.underlying5 Try.underlying9 m m hl
  rw [hZ]
  clear hi0 hz0 hs0 hy0 e0 hZ hl
  go_enter Try.func60, Try.ntmps60
  go_wp2
  go_ret
  exact ⟨rfl, ball (Below.refl _ _) _⟩
set_option maxRecDepth 100000 in
set_option maxHeartbeats 2000000 in
theorem rnew_ok (n : Nat) (h1 : 1 ≤ n) (h2 : n ≤ 4096) (w : World) : Calls Try.prog 17 #[.int .i64 n] w (RetRD w n (pagesOf (zb n) n) (marksOf (zb n) n)) := by
  have ZC : Hid (∀ W, Calls Try.prog 60 #[.int .i64 (512 * (n : Int))] W (RetB W (.string (str (zb n))))) := by
    intro W
    have h := rzeros_any (n * 512) (by omega) W
    have e : ((n * 512 : Nat) : Int) = 512 * (n : Int) := by omega
    rw [e] at h
    exact h
  have LC := Lib.hid fun W => rload_ok (zb n) n h1 h2 (zb_len n) W
  obtain ⟨ps, hps⟩ : ∃ ps, pagesOf (zb n) n = ps := ⟨_, rfl⟩
  obtain ⟨T, hT⟩ : ∃ T, marksOf (zb n) n = T := ⟨_, rfl⟩
  obtain ⟨z, hz⟩ : ∃ z, zb n = z := ⟨_, rfl⟩
  rw [hps, hT] at LC ⊢
  rw [hz] at ZC LC
  clear hps hT hz
  have hR := Blk.new w 31 #[.slice none 0 0, .slice none 0 0]
  have hb := ball (Below.refl w.heap.size w) (.cells #[.slice none 0 0, .slice none 0 0] 31)
  have hzz : (w.alloc (.cells #[.slice none 0 0, .slice none 0 0] 31)).heap.size = w.heap.size + 1 := by simp
  have HH : Hid (∀ W, Below (w.alloc (.cells #[.slice none 0 0, .slice none 0 0] 31)).heap.size (w.alloc (.cells #[.slice none 0 0, .slice none 0 0] 31)) W → Blk W w.heap.size 31 #[.slice none 0 0, .slice none 0 0] ∧ Below w.heap.size w W ∧ w.heap.size + 1 ≤ W.heap.size) := fun W hW =>
    ⟨hR.below hW hR.lt, bto0 hb hW, by have := hW.size; omega⟩
  have h2I : (n : Int) ≤ 4096 := by omega
  have h1I : (1 : Int) ≤ (n : Int) := by omega
  clear hR hb hzz
  go_enter Try.func17, Try.ntmps17
  go_wp2_with fail
  refine (ZC.out _).mono ?_
  rintro e w1 ⟨rfl, hb1⟩
  go_wp2_with fail
  refine (LC.out _).mono ?_
  rintro e w2 ⟨A, c, A2, c2, rfl, hr1, hr2, hc1, hc2, hlo1, hlo2, hb2⟩
  obtain ⟨R2, b2, _⟩ := HH.out w2 (bto0 hb1 hb2)
  obtain ⟨_, _, z1⟩ := HH.out w1 hb1
  have r0 : w2.cell? ⟨w.heap.size, 0, none⟩ = some (.slice none 0 0) := R2.cell 0
  have r1 : w2.cell? ⟨w.heap.size, 1, none⟩ = some (.slice none 0 0) := R2.cell 1
  have f0 := R2.frozen 0
  have f1 := R2.frozen 1
  have HF := Lib.hid (And.intro hr1 (And.intro hr2 (And.intro hlo1 hlo2)))
  clear hr1 hr2 hlo1 hlo2 R2 hb1 hb2
  go_wp2
  obtain ⟨hr1, hr2, hlo1, hlo2⟩ := HF.out
  have q1 := reads_far (reads_far hr1 (p := ⟨w.heap.size, 0, none⟩) (fun ad h => by have := hlo1 ad h; show ad.block ≠ w.heap.size; omega) (.slice A n c)) (p := ⟨w.heap.size, 1, none⟩) (fun ad h => by have := hlo1 ad h; show ad.block ≠ w.heap.size; omega) (.slice A2 n c2)
  have q2 := reads_far (reads_far hr2 (p := ⟨w.heap.size, 0, none⟩) (fun ad h => by have := hlo2 ad h; show ad.block ≠ w.heap.size; omega) (.slice A n c)) (p := ⟨w.heap.size, 1, none⟩) (fun ad h => by have := hlo2 ad h; show ad.block ≠ w.heap.size; omega) (.slice A2 n c2)
  exact bodyPost_ret (v := .tuple #[.agg #[.slice A n c, .slice A2 n c2], .bool true]) (by simp [results, Try.results17, go_sem, r0, r1]) rfl
    ⟨A, c, A2, c2, rfl, q1, q2, hc1, hc2, fun ad h => by have := hlo1 ad h; omega, fun ad h => by have := hlo2 ad h; omega, (b2.setCell (show w.heap.size ≤ (⟨w.heap.size, 0, none⟩ : Addr).block by simp) _).setCell (show w.heap.size ≤ (⟨w.heap.size, 1, none⟩ : Addr).block by simp) _⟩
theorem rnew_bad (n : Int) (h : n < 1 ∨ 4096 < n) (w : World) : Calls Try.prog 17 #[.int .i64 n] w (RetB w (.tuple #[.agg #[.slice none 0 0, .slice none 0 0], .bool false])) := by
  by_cases h1 : n < 1
  · go_enter Try.func17, Try.ntmps17
    go_wp2
    exact bodyPost_ret (v := .tuple #[.agg #[.slice none 0 0, .slice none 0 0], .bool false]) (by simp [results, Try.results17, go_sem]) rfl ⟨rfl, ball (Below.refl _ _) _⟩
  · have h2 : 4096 < n := by omega
    go_enter Try.func17, Try.ntmps17
    go_wp2
    exact bodyPost_ret (v := .tuple #[.agg #[.slice none 0 0, .slice none 0 0], .bool false]) (by simp [results, Try.results17, go_sem]) rfl ⟨rfl, ball (Below.refl _ _) _⟩
end Go.Proofs.Ytcpbkaeilmabaaa
