/-
  Several texts in one: Da Db Dc Dd De.
-/
import Derived.Test.YtebobcbaloddaaaMuab
import Derived.Test.YtebobcbaloddaaaRows
import Derived.Laws.MakeOwn
import Derived.Deep.RegionWith
import Derived.WalkSpells
import Derived.WalkLawsBesides
/-
  A disk in memory; contracts of Len, has, New, Take.
-/
namespace Go.Proofs.Ytebobcbaloddaaa
section
set_option linter.unusedSimpArgs false
set_option linter.unusedVariables false
open Go.RowKit

theorem Try.infoU8 : (Try.prog.info? 5).map (fun i => (i.zero, i.size, i.bytes)) = some (some (.int .u8 0), 1, 1) := by kernel_rfl
theorem Try.infoBool : (Try.prog.info? 4).map (fun i => (i.zero, i.size, i.bytes)) = some (some (.bool false), 1, 1) := by kernel_rfl

/-- A disk: its block, its bytes' block, its marks' block; so many pages. -/
structure Dk (w : World) (g gb gt n : Nat) (bs : Array Value) (ts : Array Value) : Prop where
  d : Blk w g 53 #[.slice (some ⟨gb, 0, none⟩) (n * 512) (n * 512), .slice (some ⟨gt, 0, none⟩) n n]
  b : Blk w gb 5 bs
  t : Blk w gt 4 ts
  hb : bs.size = n * 512
  ht : ts.size = n

theorem len_nil (w : World) : Calls Try.prog 16 #[.pointer none] w fun e w' => e = .returned (.int .i64 0) ∧ w = w' := by
  go_enter Try.func16, Try.ntmps16
  go_wp2
  go_ret
  exact ⟨rfl, rfl⟩
theorem len_any {w : World} {g gb gt n : Nat} {bs ts : Array Value} (h : Dk w g gb gt n bs ts) : Calls Try.prog 16 #[.pointer (some ⟨g, 0, none⟩)] w fun e w' => e = .returned (.int .i64 n) ∧ w = w' := by
  have c1 : w.cell? ⟨g, 1, none⟩ = some (.slice (some ⟨gt, 0, none⟩) n n) := h.d.cell 1
  go_enter Try.func16, Try.ntmps16
  go_wp2
  go_ret
  exact ⟨rfl, rfl⟩
theorem has_nil (p : Int) (w : World) (h0 : 0 ≤ p) (h1 : p ≤ 4294967295) : Calls Try.prog 56 #[.pointer none, .int .u32 p] w fun e w' => e = .returned (.bool false) ∧ w = w' := by
  go_enter Try.func56, Try.ntmps56
  go_wp2_with (go_at_call 16; refine (len_nil _).mono ?_; rintro e w' ⟨rfl, rfl⟩)
  go_ret
  exact ⟨ret_bool (decide_eq_false (by omega)), rfl⟩
theorem has_any {w : World} {g gb gt n : Nat} {bs ts : Array Value} (h : Dk w g gb gt n bs ts) (p : Int) (h0 : 0 ≤ p) (h1 : p ≤ 4294967295) (hn : n ≤ 1000000) :
    Calls Try.prog 56 #[.pointer (some ⟨g, 0, none⟩), .int .u32 p] w fun e w' => e = .returned (.bool (decide (p < n))) ∧ w = w' := by
  have L := Lib.hid (len_any h)
  go_enter Try.func56, Try.ntmps56
  go_wp2_with (go_at_call 16; refine L.out.mono ?_; rintro e w' ⟨rfl, rfl⟩)
  go_ret
  exact ⟨rfl, rfl⟩
theorem read_nil (p : Int) (h0 : 0 ≤ p) (h1 : p ≤ 4294967295) (w : World) : Calls Try.prog 65 #[.pointer none, .int .u32 p] w fun e w' => e = .returned (.tuple #[.slice none 0 0, .int .i64 8]) ∧ w = w' := by
  go_enter Try.func65, Try.ntmps65
  go_wp2_with (go_at_call 56; refine (has_nil p _ h0 h1).mono ?_; rintro e w' ⟨rfl, rfl⟩)
  go_ret2
  exact ⟨rfl, rfl⟩
theorem write_nil (v : Value) (p : Int) (h0 : 0 ≤ p) (h1 : p ≤ 4294967295) (w : World) : Calls Try.prog 36 #[.pointer none, .int .u32 p, v] w fun e w' => e = .returned (.int .i64 8) ∧ w = w' := by
  go_enter Try.func36, Try.ntmps36
  go_wp2_with (go_at_call 56; refine (has_nil p _ h0 h1).mono ?_; rintro e w' ⟨rfl, rfl⟩)
  go_ret
  exact ⟨rfl, rfl⟩
theorem image_nil (w : World) : Calls Try.prog 24 #[.pointer none] w fun e w' => e = .returned (.slice none 0 0) ∧ w = w' := by
  go_enter Try.func24, Try.ntmps24
  go_wp2
  go_ret
  exact ⟨rfl, rfl⟩
theorem take_nil (w : World) : Calls Try.prog 51 #[.pointer none] w fun e w' => e = .returned (.tuple #[.int .u32 0, .int .i64 7]) ∧ w = w' := by
  go_enter Try.func51, Try.ntmps51
  go_wp2_with (go_at_call 16; refine (len_nil _).mono ?_; rintro e w' ⟨rfl, rfl⟩)
  go_loop [7] (fun v => v = .int .i64 0) (fun _ => 0)
  case atStart => rfl
  case round =>
    subst hrel
    go_wp2
    go_ret2
    exact ⟨rfl, rfl⟩
theorem left_nil (w : World) : Calls Try.prog 8 #[.pointer none] w fun e w' => e = .returned (.int .i64 0) ∧ w = w' := by
  go_enter Try.func8, Try.ntmps8
  go_wp2_with (go_at_call 16; refine (len_nil _).mono ?_; rintro e w' ⟨rfl, rfl⟩)
  go_loop [3, 7] (fun u v => u = .int .i64 0 ∧ v = .int .i64 0) (fun _ _ => 0)
  case atStart => exact ⟨rfl, rfl⟩
  case round =>
    obtain ⟨rfl, rfl⟩ := hrel
    go_wp2
    go_ret
    exact ⟨rfl, rfl⟩
end
end Go.Proofs.Ytebobcbaloddaaa
/-
  Contracts of the disk: New, Take.
-/
namespace Go.Proofs.Ytebobcbaloddaaa
section
set_option linter.unusedSimpArgs false
set_option linter.unusedVariables false
open Go.RowKit

theorem Blk.newAt {w : World} {t : TypeId} {cs : Array Value} {g : Nat} (h : g = w.heap.size) : Blk (w.alloc (.cells cs t)) g t cs := by subst h; exact Blk.new _ _ _
/-- A disk's bytes, as a new one has them. -/
def zeroBytes (n : Nat) : Array Value := madeCells #[.int .u8 0] (n * 512)
def newMarks (n : Nat) : Array Value := (madeCells #[.bool false] n).setIfInBounds 0 (.bool true)
def RetDisk (w : World) (n : Nat) (bs ts : Array Value) (e : Ending) (w' : World) : Prop :=
  ∃ g gb gt, e = .returned (.tuple #[.pointer (some ⟨g, 0, none⟩), .int .i64 0]) ∧ Dk w' g gb gt n bs ts ∧ w.heap.size ≤ g ∧ w.heap.size ≤ gb ∧ w.heap.size ≤ gt ∧ Below w.heap.size w w'

set_option maxHeartbeats 1000000 in
theorem new_any (n : Nat) (h1 : 1 ≤ n) (h2 : n ≤ 4096) (w : World) : Calls Try.prog 7 #[.int .i64 n] w (RetDisk w n (zeroBytes n) (newMarks n)) := by
  obtain ⟨i0, hi0, hz0, hs0, hy0⟩ := int_info8 Try.infoU8
  obtain ⟨i1, hi1, hz1, hs1, hy1⟩ := int_info8 Try.infoBool
  have mk0 : ∀ W, (Instr.makeSlice 50 (.int .i64 ((n : Int) * 512)) (.int .i64 ((n : Int) * 512))).run Try.prog W = .ok (.slice (some ⟨W.heap.size, 0, none⟩) (n * 512) (n * 512)) (W.alloc (.cells (zeroBytes n) 5)) := by
    intro W
    have h := run_make (P := Try.prog) W 50 5 i0 (.int .u8 0) Try.underlying50 hi0 hz0 .i64 .i64 ((n : Int) * 512) ((n : Int) * 512) (by omega) (by omega) (by rw [hy0]; omega) (by omega)
    have e : ((n : Int) * 512).toNat = n * 512 := by omega
    rw [e, hs0, Nat.mul_one] at h
    exact h
  have mk1 : ∀ W, (Instr.makeSlice 51 (.int .i64 (n : Int)) (.int .i64 (n : Int))).run Try.prog W = .ok (.slice (some ⟨W.heap.size, 0, none⟩) n n) (W.alloc (.cells (madeCells #[.bool false] n) 4)) := by
    intro W
    have h := run_make (P := Try.prog) W 51 4 i1 (.bool false) Try.underlying51 hi1 hz1 .i64 .i64 (n : Int) (n : Int) (by omega) (by omega) (by rw [hy1]; omega) (by omega)
    rw [Int.toNat_natCast, hs1, Nat.mul_one] at h
    exact h
  have hc0 : (madeCells #[.bool false] n)[0]? = some (.bool false) := by
    rw [Array.getElem?_eq_getElem (by rw [size_madeCells]; omega)]
    simp [madeCells]
  have hpos : 0 < n := by omega
  have hpI : (0 : Int) < (n : Int) := by omega
  clear hi0 hz0 hs0 hy0 hi1 hz1 hs1 hy1
  go_enter Try.func7, Try.ntmps7
  go_wp2
  go_region
  all_goals go_wp2
  all_goals go_ret2
  · exact ⟨w.heap.size + 1 + 1, w.heap.size, w.heap.size + 1, rfl, ⟨(Blk.newAt (by simp)).drew, (((Blk.new _ _ _).alloc _).alloc _).drew, ((Blk.newAt (by simp)).alloc _).drew, by simp [zeroBytes, size_madeCells], by simp [newMarks, size_madeCells]⟩, by omega, by omega, by omega, (ball (ball (ball (Below.refl _ _) _) _) _).drew⟩
  · exact ⟨w.heap.size + 1 + 1, w.heap.size + 1, w.heap.size, rfl, ⟨(Blk.newAt (by simp)).drew, ((Blk.newAt (by simp)).alloc _).drew, (((Blk.new _ _ _).alloc _).alloc _).drew, by simp [zeroBytes, size_madeCells], by simp [newMarks, size_madeCells]⟩, by omega, by omega, by omega, (ball (ball (ball (Below.refl _ _) _) _) _).drew⟩
end
end Go.Proofs.Ytebobcbaloddaaa
/-
  Contracts of the disk: Take; the chapter's example.
-/
namespace Go.Proofs.Ytebobcbaloddaaa
section
set_option linter.unusedSimpArgs false
set_option linter.unusedVariables false
open Go.RowKit

theorem take_at {w : World} {g gb gt n : Nat} {bs ts : Array Value} (h : Dk w g gb gt n bs ts) (hn : n ≤ 1000000) (i : Nat) (hi : ts[i]? = some (.bool false)) (hj : ∀ j, j < i → ts[j]? = some (.bool true)) :
    Calls Try.prog 51 #[.pointer (some ⟨g, 0, none⟩)] w fun e w' => e = .returned (.tuple #[.int .u32 i, .int .i64 0]) ∧ w.setCell ⟨gt, i, none⟩ (.bool true) = w' := by
  have L := Lib.hid (len_any h)
  have hin : i < n := by
    have := (Array.getElem?_eq_some_iff.1 hi).1
    rw [h.ht] at this; exact this
  have c1 : w.cell? ⟨g, 1, none⟩ = some (.slice (some ⟨gt, 0, none⟩) n n) := h.d.cell 1
  have ct := fun j => h.t.cell j
  have fz := fun j => h.t.frozen j
  have HJ := Lib.hid hj; clear hj
  have CT := Lib.hid ct; clear ct
  have FZ := Lib.hid fz; clear fz
  go_enter Try.func51, Try.ntmps51
  go_wp2_with (go_at_call 16; refine L.out.mono ?_; rintro e w' ⟨rfl, rfl⟩)
  go_loop [7] (fun v => ∃ k : Nat, v = .int .i64 k ∧ k ≤ i) (fun v => i - (intOf v).toNat)
  case atStart => exact ⟨0, rfl, by omega⟩
  case round =>
    obtain ⟨k, rfl, hk⟩ := hrel
    have g1 : (0 : Int) ≤ (k : Int) := by omega
    have g2 : (k : Int) < (n : Int) := by omega
    have g3 : k < n := by omega
    by_cases hki : k < i
    · have c2 : w.cell? ⟨gt, k, none⟩ = some (.bool true) := (CT.out k).trans (HJ.out k hki)
      go_wp2
      go_round
      case rel => exact ⟨k + 1, by go_num, by omega⟩
      case measure => simp [intOf]; omega
    · obtain rfl : i = k := by omega
      have c2 : w.cell? ⟨gt, i, none⟩ = some (.bool false) := (CT.out i).trans hi
      have f2 := FZ.out i
      clear hi
      go_wp2
      go_ret2
      exact ⟨rfl, rfl⟩
theorem take_full {w : World} {g gb gt n : Nat} {bs ts : Array Value} (h : Dk w g gb gt n bs ts) (hn : n ≤ 1000000) (hj : ∀ j, j < n → ts[j]? = some (.bool true)) :
    Calls Try.prog 51 #[.pointer (some ⟨g, 0, none⟩)] w fun e w' => e = .returned (.tuple #[.int .u32 0, .int .i64 7]) ∧ w = w' := by
  have L := Lib.hid (len_any h)
  have c1 : w.cell? ⟨g, 1, none⟩ = some (.slice (some ⟨gt, 0, none⟩) n n) := h.d.cell 1
  have ct := fun j => h.t.cell j
  have HJ := Lib.hid hj; clear hj
  have CT := Lib.hid ct; clear ct
  go_enter Try.func51, Try.ntmps51
  go_wp2_with (go_at_call 16; refine L.out.mono ?_; rintro e w' ⟨rfl, rfl⟩)
  go_loop [7] (fun v => ∃ k : Nat, v = .int .i64 k ∧ k ≤ n) (fun v => n - (intOf v).toNat)
  case atStart => exact ⟨0, rfl, by omega⟩
  case round =>
    obtain ⟨k, rfl, hk⟩ := hrel
    by_cases hki : k < n
    · have g1 : (0 : Int) ≤ (k : Int) := by omega
      have g2 : (k : Int) < (n : Int) := by omega
      have c2 : w.cell? ⟨gt, k, none⟩ = some (.bool true) := (CT.out k).trans (HJ.out k hki)
      go_wp2
      go_round
      case rel => exact ⟨k + 1, by go_num, by omega⟩
      case measure => simp [intOf]; omega
    · go_wp2
      go_ret2
      exact ⟨rfl, rfl⟩
end
end Go.Proofs.Ytebobcbaloddaaa
/-
  The disk's chapter's example; the law DiskNil's walk.
-/
namespace Go.Proofs.Ytebobcbaloddaaa
section
set_option linter.unusedSimpArgs false
set_option linter.unusedVariables false
open Go.RowKit

theorem Dk.mark {w : World} {g gb gt n : Nat} {bs ts : Array Value} (h : Dk w g gb gt n bs ts) (i : Nat) (v : Value) : Dk (w.setCell ⟨gt, i, none⟩ v) g gb gt n bs (ts.setIfInBounds i v) :=
  ⟨h.d.far (Blk.ne_ h.d h.t (by decide)) _, h.b.far (Blk.ne_ h.b h.t (by decide)) _, h.t.set_ i v, h.hb, by rw [Array.size_setIfInBounds]; exact h.ht⟩
theorem Dk.below {w w' : World} {g gb gt n B : Nat} {bs ts : Array Value} (h : Dk w g gb gt n bs ts) (hb : Below B w w') (h1 : g < B) (h2 : gb < B) (h3 : gt < B) : Dk w' g gb gt n bs ts :=
  ⟨h.d.below hb h1, h.b.below hb h2, h.t.below hb h3, h.hb, h.ht⟩
theorem marks3 : newMarks 3 = #[.bool true, .bool false, .bool false] := by kernel_rfl
end
end Go.Proofs.Ytebobcbaloddaaa
/-
  A page of bytes that are all the same.
-/
namespace Go.Proofs.Ytebobcbaloddaaa
section
set_option linter.unusedSimpArgs false
set_option linter.unusedVariables false
open Go.RowKit

/-- The first k bytes are c, the others 0. -/
def fillA (c : Int) (n k : Nat) : Array Value := Array.ofFn (n := n) fun j => if j.val < k then .int .u8 c else .int .u8 0
theorem fillA_set (c : Int) (n k : Nat) (_hk : k < n) : (fillA c n k).setIfInBounds k (.int .u8 c) = fillA c n (k + 1) := by
  apply Array.ext
  · simp [fillA]
  · intro j h1 h2
    rw [Array.getElem_setIfInBounds (by simpa [fillA] using h2)]
    simp only [fillA, Array.getElem_ofFn]
    by_cases h : k = j
    · subst h; simp
    · rw [if_neg h]
      by_cases h3 : j < k
      · rw [if_pos h3, if_pos (by omega)]
      · rw [if_neg h3, if_neg (by omega)]
theorem fillA_at (c : Int) (n k : Nat) (hk : k < n) : (fillA c n k)[k]? = some (.int .u8 0) := by
  rw [Array.getElem?_eq_getElem (by simpa [fillA] using hk)]
  simp [fillA]
theorem fillA_zero (c : Int) (n : Nat) : madeCells #[.int .u8 0] n = fillA c n 0 := by
  apply Array.ext
  · simp [fillA, madeCells]
  · intro j h1 h2
    simp [fillA, madeCells, Nat.mod_one]
def RetPage (w : World) (c : Int) (n : Nat) (e : Ending) (w' : World) : Prop := e = .returned (.slice (some ⟨w.heap.size, 0, none⟩) n n) ∧ Blk w' w.heap.size 5 (fillA c n n) ∧ Below w.heap.size w w'
end
end Go.Proofs.Ytebobcbaloddaaa
