
/-
  The chapter's example.
-/
import Derived.Test.YtblpflobpffjnaaDoorWl
set_option linter.unusedSimpArgs false
set_option linter.unusedVariables false
namespace Go.Proofs.YtblpflobpffjnaaDoor
open Go.RowKit

def tb0 : Tb := ⟨⟨#[97]⟩, none, 0, 0, 0, 0, 0, []⟩
def sp0 : Sp := ⟨0, 0, 0, 0, none, 0, 0, none, 0, 0, 0, none, 0, 0, none, 0, 0, 0, 0⟩
theorem sp0_ok : sp0.ok := ⟨by unfold I64; decide, by unfold I64; decide, by unfold I64; decide, by unfold I64; decide, by unfold I64; decide, by decide, by decide, by decide, by decide⟩
theorem plan0 : planT [tb0] [0] [] [sp0] false = [102, 105, 114, 115, 116, 32, 97, 35, 48, 32, 104, 101, 97, 112, 10] := by decide +kernel

set_option maxRecDepth 100000 in
set_option maxHeartbeats 4000000 in
theorem fixed30_any (w : World) (hv : VT w) : Calls Tryd.prog 7 #[] w (RetB w (.bool true)) := by
  obtain ⟨W, hW⟩ : ∃ W, (((w.alloc (.cells #[.string ⟨#[97]⟩, .slice none 0 0, .int .u32 0, .int .i64 0, .int .i64 0] 62)).alloc (.cells #[.slice (some ⟨w.heap.size, 0, none⟩) 1 1, .slice none 0 0] 25)).alloc (.cells #[.int .i64 0] 3)).alloc (.cells #[.int .i64 0, .int .u8 0, .int .u8 0, .int .i64 0, .slice none 0 0, .slice none 0 0, .int .i64 0, .slice none 0 0, .slice none 0 0, .int .i64 0, .int .i64 0] 71) = W := ⟨_, rfl⟩
  have hb : Below w.heap.size w W := hW ▸ ball (ball (ball (ball (Below.refl _ _) _) _) _) _
  have hz : W.heap.size = w.heap.size + 1 + 1 + 1 + 1 := by rw [← hW, alloc_size, alloc_size, alloc_size, alloc_size]
  have hr0 : Reads W W.heap.size 5 (some ⟨w.heap.size, 0, none⟩) 1 (vTb [tb0]) := by
    have h := reads_at w #[.string ⟨#[97]⟩, .slice none 0 0, .int .u32 0, .int .i64 0, .int .i64 0] 62 (size := 5) (n := 1) (xs := vTb [tb0]) rfl rfl rfl
    rw [← hW]
    exact (((h.alloc (by simp) _).alloc (by simp) _).alloc (by simp) _).more (by simp <;> omega)
  have hr2 : Reads W W.heap.size 1 (some ⟨w.heap.size + 1 + 1, 0, none⟩) 1 (vI64 [0]) := by
    have h := reads_at ((w.alloc (.cells #[.string ⟨#[97]⟩, .slice none 0 0, .int .u32 0, .int .i64 0, .int .i64 0] 62)).alloc (.cells #[.slice (some ⟨w.heap.size, 0, none⟩) 1 1, .slice none 0 0] 25)) #[.int .i64 0] 3 (size := 1) (n := 1) (g := w.heap.size + 1 + 1) (xs := vI64 [0]) (by simp) rfl rfl
    rw [← hW]
    exact (h.alloc (by simp) _).more (by simp)
  have hr3 : Reads W W.heap.size 11 (some ⟨w.heap.size + 1 + 1 + 1, 0, none⟩) 1 (vSp [sp0]) := by
    have h := reads_at (((w.alloc (.cells #[.string ⟨#[97]⟩, .slice none 0 0, .int .u32 0, .int .i64 0, .int .i64 0] 62)).alloc (.cells #[.slice (some ⟨w.heap.size, 0, none⟩) 1 1, .slice none 0 0] 25)).alloc (.cells #[.int .i64 0] 3)) #[.int .i64 0, .int .u8 0, .int .u8 0, .int .i64 0, .slice none 0 0, .slice none 0 0, .int .i64 0, .slice none 0 0, .slice none 0 0, .int .i64 0, .int .i64 0] 71 (size := 11) (n := 1) (g := w.heap.size + 1 + 1 + 1) (xs := vSp [sp0]) (by simp) rfl rfl
    rw [← hW]
    exact h.more (by simp)
  have E : EnvB W W.heap.size (some ⟨w.heap.size, 0, none⟩) 1 [tb0] none 0 [] (some ⟨w.heap.size + 1 + 1, 0, none⟩) 1 [0] :=
    ⟨hr0, Reads.none_, hr2, by decide, by decide, by decide, by intro z hz; rw [List.mem_singleton.1 hz]; unfold I64; decide, by intro t ht; rw [List.mem_singleton.1 ht]; decide, by intro x hx; cases hx⟩
  have HP := Lib.hid (plan_any E (Nat.le_refl _) (hv.below0 hb) 1 0 1 (.bool false) (.slice none 0 0) (.slice none 0 0) (.slice none 0 0) (.slice none 0 0) (.bool false) (.slice none 0 0) (.slice none 0 0) (.slice none 0 0) (.int .i64 0) (some ⟨w.heap.size + 1 + 1 + 1, 0, none⟩) 1 1 [sp0] false hr3 (by intro x hx; rw [List.mem_singleton.1 hx]; exact sp0_ok) (by decide))
  rw [plan0] at HP
  have hbq : ((str [102, 105, 114, 115, 116, 32, 97, 35, 48, 32, 104, 101, 97, 112, 10]).toList == [102, 105, 114, 115, 116, 32, 97, 35, 48, 32, 104, 101, 97, 112, 10]) = true := by rw [str_toList]; decide
  have HB := Lib.hid hb
  clear E hr0 hr2 hr3 hv hb hz
  generalize str [102, 105, 114, 115, 116, 32, 97, 35, 48, 32, 104, 101, 97, 112, 10] = T at *
  go_enter Tryd.func7, Tryd.ntmps7
  go_wp2_with fail
  refine HP.out.mono ?_
  rintro e w1 ⟨rfl, hb1⟩
  go_wp2
  go_ret
  exact ⟨by first | rfl | (rw [hbq]), bto0 HB.out hb1⟩
end Go.Proofs.YtblpflobpffjnaaDoor
