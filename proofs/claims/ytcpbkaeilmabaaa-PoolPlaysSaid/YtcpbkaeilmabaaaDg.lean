/-
  Contracts of the disk: Write beyond the end, Image.
-/
import Derived.Test.YtcpbkaeilmabaaaDf
namespace Go.Proofs.Ytcpbkaeilmabaaa
open Go.RowKit

theorem write_out {w : World} {g gb gt n : Nat} {bs ts : Array Value} (h : Dk w g gb gt n bs ts) (p : Nat) (hp : n ≤ p) (hp2 : p ≤ 4294967295) (hn : n ≤ 1000000) (v : Value) :
    Calls Try.prog 20 #[.pointer (some ⟨g, 0, none⟩), .int .u32 p, v] w fun e w' => e = .returned (.int .i64 8) ∧ w = w' := by
  have HB := Lib.hid (has_any h p (by omega) (by omega) hn)
  have hd : decide (p < n) = false := decide_eq_false (by omega)
  clear h
  go_enter Try.func20, Try.ntmps20
  go_wp2_with (go_at_call 61; refine HB.out.mono ?_; rintro e w' ⟨rfl, rfl⟩)
  go_ret
  exact ⟨rfl, rfl⟩
def RetBytes (w : World) (m : Nat) (bs : Array Value) (e : Ending) (w' : World) : Prop := e = .returned (.slice (some ⟨w.heap.size, 0, none⟩) m m) ∧ Blk w' w.heap.size 5 bs ∧ Below w.heap.size w w'
theorem splice_all (a b : List Value) (h : a.length = b.length) : splice a 0 b = b := by simp [splice, h]

set_option maxHeartbeats 1000000 in
theorem image_any {w : World} {g gb gt n : Nat} {bs ts : Array Value} (h : Dk w g gb gt n bs ts) (hn : n ≤ 1000000) (h1n : 1 ≤ n) (h1 : ∀ v ∈ bs.toList, v.oneCell' = true) :
    Calls Try.prog 28 #[.pointer (some ⟨g, 0, none⟩)] w (RetBytes w (n * 512) bs) := by
  obtain ⟨i0, hi0, hz0, hs0, hy0⟩ := int_info8 Try.infoU8
  have mk0 : ∀ W, (Instr.makeSlice 37 (.int .i64 ((n : Int) * 512)) (.int .i64 ((n : Int) * 512))).run Try.prog W = .ok (.slice (some ⟨W.heap.size, 0, none⟩) (n * 512) (n * 512)) (W.alloc (.cells (zeroBytes n) 5)) := by
    intro W
    have h := run_make (P := Try.prog) W 37 5 i0 (.int .u8 0) Try.underlying37 hi0 hz0 .i64 .i64 ((n : Int) * 512) ((n : Int) * 512) (by omega) (by omega) (by rw [hy0]; omega) (by omega)
    have e : ((n : Int) * 512).toNat = n * 512 := by omega
    rw [e, hs0, Nat.mul_one] at h
    exact h
  clear hi0 hz0 hs0 hy0
  have c0 : w.cell? ⟨g, 0, none⟩ = some (.slice (some ⟨gb, 0, none⟩) (n * 512) (n * 512)) := h.d.cell 0
  have hgl := h.d.lt
  have hbl := h.b.lt
  have hbs : bs.toList.length = n * 512 := by simpa using h.hb
  have hZ : (zeroBytes n).size = n * 512 := by simp [zeroBytes, size_madeCells]
  have hsrc : Hid (∀ W, Below w.heap.size w W → ∀ j v, bs.toList[j]? = some v → W.cell? ((⟨gb, 0, none⟩ : Addr).add j) = some v) := by
    intro W hW j v hv
    rw [add_head, (h.b.below hW hbl).cell]
    simpa using hv
  have hinfo : (Try.prog.info? 5).map (·.size) = some 1 := by kernel_rfl
  have HI := Lib.hid hinfo; clear hinfo
  have Hbs := Lib.hid hbs; clear hbs
  have HZ := Lib.hid hZ; clear hZ
  have hne : ((w.alloc (.cells (zeroBytes n) 5)).setRow w.heap.size (splice (zeroBytes n).toList 0 bs.toList).toArray) = ((w.alloc (.cells (zeroBytes n) 5)).setRow w.heap.size bs) := by
    rw [splice_all _ _ (by rw [Hbs.out]; simpa using HZ.out)]
  have HNE := Lib.hid hne; clear hne
  have hB : Below w.heap.size w ((w.alloc (.cells (zeroBytes n) 5)).setRow w.heap.size bs) := below_setRow (ball (Below.refl _ _) _) (Nat.le_refl _) _
  have hBk : Blk ((w.alloc (.cells (zeroBytes n) 5)).setRow w.heap.size bs) w.heap.size 5 bs := setRow_at (Blk.new _ _ _)
  have HB := Lib.hid (And.intro hB hBk); clear hB hBk
  clear h
  obtain ⟨W2, hW2⟩ : ∃ W2, ((w.alloc (.cells (zeroBytes n) 5)).setRow w.heap.size bs) = W2 := ⟨_, rfl⟩
  rw [hW2] at HB HNE
  clear hW2
  go_enter Try.func28, Try.ntmps28
  go_wp2_with (refine wpList_copy_own rfl _ _ 37 37 rfl 5 Try.underlying37 HI.out w.heap.size 0 (n * 512) (n * 512) ⟨gb, 0, none⟩ (n * 512) (n * 512) rfl rfl (zeroBytes n) 5 (Blk.new _ _ _) bs.toList (by rw [Hbs.out]; simp) (hsrc.out _ (ball (Below.refl _ _) _)) (by rw [Hbs.out, HZ.out]; omega) h1 ?_; (show wpList _ _ _ _ _ ((w.alloc (.cells (zeroBytes n) 5)).setRow w.heap.size (splice (zeroBytes n).toList 0 bs.toList).toArray)); rw [HNE.out])
  go_ret
  exact ⟨rfl, HB.out.2, HB.out.1⟩
end Go.Proofs.Ytcpbkaeilmabaaa
