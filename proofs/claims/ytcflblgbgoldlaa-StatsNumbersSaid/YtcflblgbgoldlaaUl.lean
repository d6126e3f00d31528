/-
  The chapter's example of stats: which terms are constant.
-/
import Derived.Test.YtcflblgbgoldlaaMem
import Derived.Test.YtcflblgbgoldlaaShelf
import Derived.WalkKit
set_option linter.unusedSimpArgs false
set_option linter.unusedVariables false
namespace Go.Proofs.Ytcflblgbgoldlaa
open Go.RowKit

@[reducible] def litT : Value := .agg #[.int .u8 1, .string ⟨#[]⟩, .bool false, .int .u8 1, .int .i64 5, .string ⟨#[]⟩, .string ⟨#[]⟩, .string ⟨#[]⟩, .int .i64 0, .int .i64 0, .slice none 0 0]
@[reducible] def fldT : Value := .agg #[.int .u8 2, .string ⟨#[]⟩, .bool false, .int .u8 0, .int .i64 0, .string ⟨#[]⟩, .string ⟨#[]⟩, .string ⟨#[]⟩, .int .i64 0, .int .i64 0, .slice none 0 0]
theorem fun_nil (w : World) : Calls Try.prog 42 #[.slice none 0 0, .func (.func 34) #[] #[]] w (RetB w (.int .i64 (-1))) := by
  go_enter Try.func42, Try.ntmps42
  go_wp2
  go_loop [8] (fun v => v = .int .i64 0) (fun _ => 0)
  case atStart => exact rfl
  case round =>
    subst hrel
    go_wp2
    go_ret
    exact ⟨rfl, Below.refl _ _⟩
theorem con_nil (w : World) : Calls Try.prog 33 #[.slice none 0 0, .func (.func 34) #[] #[]] w (RetB w (.bool false)) := by
  have I := Lib.hid fun W => fun_nil W
  go_enter Try.func33, Try.ntmps33
  go_wp2_with fail
  refine (I.out _).mono ?_
  rintro e w1 ⟨rfl, hb1⟩
  go_wp2
  go_ret
  exact ⟨rfl, hb1⟩
theorem const_lit (w : World) : Calls Try.prog 25 #[litT] w (RetB w (.bool true)) := by
  have I := Lib.hid fun W => con_nil W
  go_enter Try.func25, Try.ntmps25
  go_wp2_with fail
  refine (I.out _).mono ?_
  rintro e w1 ⟨rfl, hb1⟩
  go_wp2
  go_ret
  exact ⟨rfl, bto0 (ball (Below.refl _ _) _) hb1⟩
theorem const_fld (w : World) : Calls Try.prog 25 #[fldT] w (RetB w (.bool false)) := by
  go_enter Try.func25, Try.ntmps25
  go_wp2
  go_ret
  exact ⟨rfl, ball (Below.refl _ _) _⟩
theorem not_fld (w : World) : Calls Try.prog 34 #[fldT] w (RetB w (.bool true)) := by
  have I := Lib.hid fun W => const_fld W
  go_enter Try.func34, Try.ntmps34
  go_wp2_with fail
  refine (I.out _).mono ?_
  rintro e w1 ⟨rfl, hb1⟩
  go_wp2
  go_ret
  exact ⟨rfl, bto0 (ball (Below.refl _ _) _) hb1⟩
/-- The first argument of the example's condition, a field, where it lies. -/
def AtFld (w : World) (g : Nat) : Prop := g < w.heap.size ∧ w.cell? ⟨g, 0, none⟩ = some (.int .u8 2) ∧ w.cell? ⟨g, 1, none⟩ = some (.string ⟨#[]⟩) ∧ w.cell? ⟨g, 2, none⟩ = some (.bool false) ∧ w.cell? ⟨g, 3, none⟩ = some (.int .u8 0) ∧ w.cell? ⟨g, 4, none⟩ = some (.int .i64 0) ∧ w.cell? ⟨g, 5, none⟩ = some (.string ⟨#[]⟩) ∧ w.cell? ⟨g, 6, none⟩ = some (.string ⟨#[]⟩) ∧ w.cell? ⟨g, 7, none⟩ = some (.string ⟨#[]⟩) ∧ w.cell? ⟨g, 8, none⟩ = some (.int .i64 0) ∧ w.cell? ⟨g, 9, none⟩ = some (.int .i64 0) ∧ w.cell? ⟨g, 10, none⟩ = some (.slice none 0 0)
theorem fun_two (g : Nat) (w : World) (h : AtFld w g) : Calls Try.prog 42 #[.slice (some ⟨g, 0, none⟩) 2 2, .func (.func 34) #[] #[]] w (RetB w (.int .i64 0)) := by
  obtain ⟨hg, c0, c1, c2, c3, c4, c5, c6, c7, c8, c9, c10⟩ := h
  have I := Lib.hid fun W => not_fld W
  go_enter Try.func42, Try.ntmps42
  go_wp2
  go_loop [8] (fun v => v = .int .i64 0) (fun _ => 0)
  case atStart => exact rfl
  case round =>
    subst hrel
    go_wp2_with fail
    refine (I.out _).mono ?_
    rintro e w1 ⟨rfl, hb1⟩
    go_wp2
    go_ret
    exact ⟨rfl, hb1⟩
theorem con_two (g : Nat) (w : World) (h : AtFld w g) : Calls Try.prog 33 #[.slice (some ⟨g, 0, none⟩) 2 2, .func (.func 34) #[] #[]] w (RetB w (.bool true)) := by
  have I := Lib.hid (fun_two g w h)
  go_enter Try.func33, Try.ntmps33
  go_wp2_with fail
  refine I.out.mono ?_
  rintro e w1 ⟨rfl, hb1⟩
  go_wp2
  go_ret
  exact ⟨rfl, hb1⟩
theorem AtFld.below {w w' : World} {g : Nat} (h : AtFld w g) (hb : Below w.heap.size w w') : AtFld w' g := by
  obtain ⟨hg, c0, c1, c2, c3, c4, c5, c6, c7, c8, c9, c10⟩ := h
  have k : ∀ j, w'.cell? ⟨g, j, none⟩ = w.cell? ⟨g, j, none⟩ := fun j => hb.cell (p := ⟨g, j, none⟩) hg
  exact ⟨by have := hb.size; omega, (k 0).trans c0, (k 1).trans c1, (k 2).trans c2, (k 3).trans c3, (k 4).trans c4, (k 5).trans c5, (k 6).trans c6, (k 7).trans c7, (k 8).trans c8, (k 9).trans c9, (k 10).trans c10⟩
@[reducible] def binT (g : Nat) : Value := .agg #[.int .u8 4, .string ⟨#[61]⟩, .bool false, .int .u8 0, .int .i64 0, .string ⟨#[]⟩, .string ⟨#[]⟩, .string ⟨#[]⟩, .int .i64 0, .int .i64 0, .slice (some ⟨g, 0, none⟩) 2 2]
theorem const_bin (g : Nat) (w : World) (h : AtFld w g) : Calls Try.prog 25 #[binT g] w (RetB w (.bool false)) := by
  have I := Lib.hid fun W (hb : Below w.heap.size w W) => con_two g W (h.below hb)
  clear h
  go_enter Try.func25, Try.ntmps25
  go_wp2_with fail
  refine (I.out _ (ball (Below.refl _ _) _)).mono ?_
  rintro e w1 ⟨rfl, hb1⟩
  go_wp2
  go_ret
  exact ⟨rfl, bto0 (ball (Below.refl _ _) _) hb1⟩
theorem count_any (n : Nat) (h : n ≤ 1000000) (w : World) : Calls Try.prog 17 #[.int .i64 n] w (RetB w (.int .u64 n)) := by
  have nI : (n : Int) ≤ 1000000 := by omega
  have n0 : (0 : Int) ≤ (n : Int) := by omega
  have e1 : max (n : Int) 0 = (n : Int) := by omega
  have HE := Lib.hid e1
  clear e1
  go_enter Try.func17, Try.ntmps17
  go_wp2
  go_ret
  exact ⟨by first | rfl | (simp [HE.out]; done) | (rw [HE.out]; rfl), by first | exact Below.refl _ _ | exact bdr (Below.refl _ _) _⟩
end Go.Proofs.Ytcflblgbgoldlaa
