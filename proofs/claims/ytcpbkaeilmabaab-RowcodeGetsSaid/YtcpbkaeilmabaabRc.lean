/-
  The rows' chapter's example; which rows fit which kinds.
-/
import Derived.Test.YtcpbkaeilmabaabRb
import Derived.BigQuiet
import Derived.BigGuardPart
namespace Go.Proofs.Ytcpbkaeilmabaab
open Go.RowKit

theorem Own.conv {w : World} {base : Nat} {A : Option Addr} {n c : Nat} {l : List UInt8} (h : Own w base (.slice A n c) l) :
    (convert 25 9 (.slice A n c)).run Try.prog w = .ok (.string (str l)) w :=
  conv_reads h.reads.1 _ 5 _ Try.underlying25 Try.underlying5 Try.underlying9 c
def row2 : List Vl := [⟨0, 0, ⟨#[]⟩⟩, ⟨3, 0, ⟨#[97]⟩⟩]
theorem row2_put : putB row2 = [2, 0, 3, 1, 97] := by decide +kernel
theorem row2_e : putE row2 = 0 := by decide +kernel
set_option maxHeartbeats 1000000 in
set_option maxRecDepth 100000 in
theorem rfixed_any (w : World) : Calls Try.prog 14 #[] w (RetB w (.bool true)) := by
  have hr : Reads (w.alloc (.cells #[.int .u8 0, .int .i64 0, .string ⟨#[]⟩, .int .u8 3, .int .i64 0, .string ⟨#[97]⟩] 56)) (w.heap.size + 1) 3 (some ⟨w.heap.size, 0, none⟩) 2 (vV row2) := reads_new w _ _ rfl rfl
  have P := rput_any (some ⟨w.heap.size, 0, none⟩) 2 2 row2 (w.alloc (.cells #[.int .u8 0, .int .i64 0, .string ⟨#[]⟩, .int .u8 3, .int .i64 0, .string ⟨#[97]⟩] 56)) (hr.more (by simp)) (by
    intro v hv
    unfold row2 at hv
    rcases List.mem_cons.1 hv with rfl | hv
    · exact ⟨by simp, by simp, by simp [ByteArray.size, maxLen]⟩
    · rw [List.mem_singleton] at hv; subst hv
      exact ⟨by simp, by simp, by simp [ByteArray.size, maxLen]⟩) (by decide +kernel)
  have HP := Lib.hid P; clear P hr
  go_enter Try.func14, Try.ntmps14
  go_wp2_with fail
  refine HP.out.mono ?_
  rintro e w1 ⟨v1, rfl, hown, hb⟩
  rw [row2_put] at hown
  rw [row2_e]
  obtain ⟨A, c, rfl, _⟩ := hown.form
  have cv : (convert 25 9 (.slice A 5 c)).run Try.prog w1 = .ok (.string ⟨#[2, 0, 3, 1, 97]⟩) w1 := hown.conv
  clear hown
  go_wp2
  go_ret
  exact ⟨rfl, bto0 (ball (Below.refl _ _) _) hb⟩
end Go.Proofs.Ytcpbkaeilmabaab
