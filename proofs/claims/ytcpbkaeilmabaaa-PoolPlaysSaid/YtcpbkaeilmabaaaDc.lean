/-
  Contracts of the disk: Take; the chapter's example.
-/
import Derived.Test.YtcpbkaeilmabaaaDb
namespace Go.Proofs.Ytcpbkaeilmabaaa
open Go.RowKit

theorem take_at {w : World} {g gb gt n : Nat} {bs ts : Array Value} (h : Dk w g gb gt n bs ts) (hn : n ≤ 1000000) (i : Nat) (hi : ts[i]? = some (.bool false)) (hj : ∀ j, j < i → ts[j]? = some (.bool true)) :
    Calls Try.prog 22 #[.pointer (some ⟨g, 0, none⟩)] w fun e w' => e = .returned (.tuple #[.int .u32 i, .int .i64 0]) ∧ w.setCell ⟨gt, i, none⟩ (.bool true) = w' := by
  have L := Lib.hid (len_any h)
  have hin : i < n := by
    have := (Array.getElem?_eq_some_iff.1 hi).1
    rw [h.ht] at this; exact this
  have c1 : w.cell? ⟨g, 1, none⟩ = some (.slice (some ⟨gt, 0, none⟩) n n) := h.d.cell 1
  have ct := fun j => h.t.cell j
  have fz := fun j => h.t.frozen j
  have HJ := Lib.hid hj; clear hj
  have CT := Lib.hid ct; clear ct
  have FZ := Lib.hid fz; clear fz
  go_enter Try.func22, Try.ntmps22
  go_wp2_with (go_at_call 33; refine L.out.mono ?_; rintro e w' ⟨rfl, rfl⟩)
  go_loop [7] (fun v => ∃ k : Nat, v = .int .i64 k ∧ k ≤ i) (fun v => i - (intOf v).toNat)
  case atStart => exact ⟨0, rfl, by omega⟩
  case round =>
    obtain ⟨k, rfl, hk⟩ := hrel
    have g1 : (0 : Int) ≤ (k : Int) := by omega
    have g2 : (k : Int) < (n : Int) := by omega
    have g3 : k < n := by omega
    by_cases hki : k < i
    · have c2 : w.cell? ⟨gt, k, none⟩ = some (.bool true) := (CT.out k).trans (HJ.out k hki)
      go_wp2
      go_round
      case rel => exact ⟨k + 1, by go_num, by omega⟩
      case measure => simp [intOf]; omega
    · obtain rfl : i = k := by omega
      have c2 : w.cell? ⟨gt, i, none⟩ = some (.bool false) := (CT.out i).trans hi
      have f2 := FZ.out i
      clear hi
      go_wp2
      go_ret2
      exact ⟨rfl, rfl⟩
theorem take_full {w : World} {g gb gt n : Nat} {bs ts : Array Value} (h : Dk w g gb gt n bs ts) (hn : n ≤ 1000000) (hj : ∀ j, j < n → ts[j]? = some (.bool true)) :
    Calls Try.prog 22 #[.pointer (some ⟨g, 0, none⟩)] w fun e w' => e = .returned (.tuple #[.int .u32 0, .int .i64 7]) ∧ w = w' := by
  have L := Lib.hid (len_any h)
  have c1 : w.cell? ⟨g, 1, none⟩ = some (.slice (some ⟨gt, 0, none⟩) n n) := h.d.cell 1
  have ct := fun j => h.t.cell j
  have HJ := Lib.hid hj; clear hj
  have CT := Lib.hid ct; clear ct
  go_enter Try.func22, Try.ntmps22
  go_wp2_with (go_at_call 33; refine L.out.mono ?_; rintro e w' ⟨rfl, rfl⟩)
  go_loop [7] (fun v => ∃ k : Nat, v = .int .i64 k ∧ k ≤ n) (fun v => n - (intOf v).toNat)
  case atStart => exact ⟨0, rfl, by omega⟩
  case round =>
    obtain ⟨k, rfl, hk⟩ := hrel
    by_cases hki : k < n
    · have g1 : (0 : Int) ≤ (k : Int) := by omega
      have g2 : (k : Int) < (n : Int) := by omega
      have c2 : w.cell? ⟨gt, k, none⟩ = some (.bool true) := (CT.out k).trans (HJ.out k hki)
      go_wp2
      go_round
      case rel => exact ⟨k + 1, by go_num, by omega⟩
      case measure => simp [intOf]; omega
    · go_wp2
      go_ret2
      exact ⟨rfl, rfl⟩
end Go.Proofs.Ytcpbkaeilmabaaa
