/-
  The disk's chapter's example; the law DiskNil's walk.
-/
import Derived.Test.YtcpbkaeilmabaaaDc
namespace Go.Proofs.Ytcpbkaeilmabaaa
open Go.RowKit

theorem Dk.mark {w : World} {g gb gt n : Nat} {bs ts : Array Value} (h : Dk w g gb gt n bs ts) (i : Nat) (v : Value) : Dk (w.setCell ⟨gt, i, none⟩ v) g gb gt n bs (ts.setIfInBounds i v) :=
  ⟨h.d.far (Blk.ne_ h.d h.t (by decide)) _, h.b.far (Blk.ne_ h.b h.t (by decide)) _, h.t.set_ i v, h.hb, by rw [Array.size_setIfInBounds]; exact h.ht⟩
theorem Dk.below {w w' : World} {g gb gt n B : Nat} {bs ts : Array Value} (h : Dk w g gb gt n bs ts) (hb : Below B w w') (h1 : g < B) (h2 : gb < B) (h3 : gt < B) : Dk w' g gb gt n bs ts :=
  ⟨h.d.below hb h1, h.b.below hb h2, h.t.below hb h3, h.hb, h.ht⟩
theorem marks3 : newMarks 3 = #[.bool true, .bool false, .bool false] := by kernel_rfl
set_option maxHeartbeats 1000000 in
theorem dfixed_any (w : World) : Calls Try.prog 15 #[] w (RetB w (.bool true)) := by
  have N := Lib.hid fun W => new_any 3 (by omega) (by omega) W
  rw [marks3] at N
  go_enter Try.func15, Try.ntmps15
  go_wp2_with fail
  refine (N.out _).mono ?_
  rintro e w1 ⟨g, gb, gt, rfl, hd, hg, hgb, hgt, hb⟩
  have t1 := Lib.hid (take_at hd (by omega) 1 rfl (fun j hj => by obtain rfl : j = 0 := by omega
                                                                  rfl))
  have hd1 := hd.mark 1 (.bool true)
  have t2 := Lib.hid (take_at hd1 (by omega) 2 rfl (fun j hj => by
    have : j = 0 ∨ j = 1 := by omega
    rcases this with rfl | rfl <;> rfl))
  have hd2 := hd1.mark 2 (.bool true)
  have t3 := Lib.hid (take_full hd2 (by omega) (fun j hj => by
    have : j = 0 ∨ j = 1 ∨ j = 2 := by omega
    rcases this with rfl | rfl | rfl <;> rfl))
  clear hd hd1 hd2
  go_wp2_with fail
  refine t1.out.mono ?_
  rintro e w' ⟨rfl, rfl⟩
  go_wp2_with fail
  refine t2.out.mono ?_
  rintro e w' ⟨rfl, rfl⟩
  go_wp2_with fail
  refine t3.out.mono ?_
  rintro e w' ⟨rfl, rfl⟩
  go_wp2
  go_ret
  exact ⟨rfl, (hb.setCell hgt _).setCell hgt _⟩

set_option maxHeartbeats 1000000 in
theorem diskNil_any (p : Int) (h0 : 0 ≤ p) (h1 : p ≤ 4294967295) (w : World) : Calls Try.prog 6 #[.int .u32 p] w (RetB w (.bool true)) := by
  obtain ⟨i0, hi0, hz0, hs0, hy0⟩ := int_info8 Try.infoU8
  have mk0 : ∀ W, (Instr.makeSlice 37 (.int .i64 512) (.int .i64 512)).run Try.prog W = .ok (.slice (some ⟨W.heap.size, 0, none⟩) 512 512) (W.alloc (.cells (zeroBytes 1) 5)) := by
    intro W
    have h := run_make (P := Try.prog) W 37 5 i0 (.int .u8 0) Try.underlying37 hi0 hz0 .i64 .i64 512 512 (by omega) (by omega) (by rw [hy0]; omega) (by omega)
    rw [hs0] at h
    exact h
  clear hi0 hz0 hs0 hy0
  go_enter Try.func6, Try.ntmps6
  go_wp2_with (first
    | (go_at_call 18; refine (read_nil p h0 h1 _).mono ?_; rintro e w' ⟨rfl, rfl⟩)
    | (go_at_call 22; refine (take_nil _).mono ?_; rintro e w' ⟨rfl, rfl⟩)
    | (go_at_call 15; refine (dfixed_any _).mono ?_; rintro e w1 ⟨rfl, hb1⟩)
    | (go_at_call 20; refine (write_nil _ p h0 h1 _).mono ?_; rintro e w' ⟨rfl, rfl⟩)
    | (go_at_call 33; refine (len_nil _).mono ?_; rintro e w' ⟨rfl, rfl⟩)
    | (go_at_call 34; refine (left_nil _).mono ?_; rintro e w' ⟨rfl, rfl⟩)
    | (go_at_call 28; refine (image_nil _).mono ?_; rintro e w' ⟨rfl, rfl⟩)
    | (go_at_call 24; refine (copy_nil _).mono ?_; rintro e w' ⟨rfl, rfl⟩))
  go_ret
  exact ⟨rfl, ball hb1 _⟩
end Go.Proofs.Ytcpbkaeilmabaaa
