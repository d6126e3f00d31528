
/-
  ShapeTotal: the chapter's example, its small calls.
-/
import Derived.Test.YthpggfcindnlcaaGreatDoorQd
import Derived.Deep.RegionWith
import Derived.Deep.DeepCutAuto
set_option linter.unusedSimpArgs false
set_option linter.unusedVariables false
namespace Go.Proofs.YthpggfcindnlcaaGreatDoor
open Go.RowKit

abbrev oneQ : Vl := ⟨1, 0, ⟨#[]⟩⟩
abbrev cT : ByteArray := ⟨#[67, 79, 85, 78, 84]⟩
abbrev termQ (s : ByteArray) : Array Value := #[.int .u8 7, .string s, .bool false, .int .u8 0, .int .i64 0, .string ⟨#[]⟩, .string ⟨#[]⟩, .string ⟨#[]⟩, .int .i64 0, .int .i64 0, .slice none 0 0]
set_option maxRecDepth 100000 in
theorem at_c {w : World} {A : Option Addr} {c : Nat} (hr : Reads w w.heap.size 3 A 1 (vV [oneQ])) :
    Calls Tryz.prog 67 #[.slice A 1 c, .int .i64 0] w (RetB w (.tuple #[oneQ.agg, .bool true])) := by
  obtain ⟨ad, v, rfl, had, hv, d0, d1, d2⟩ := hr.val (k := 0) (by omega)
  obtain rfl : oneQ = v := by simpa using hv
  simp only [Nat.zero_mul, Addr.add_zero'] at d0 d1 d2
  clear hr hv
  go_enter Tryz.func67, Tryz.ntmps67
  go_wp2
  exact bodyPost_ret (v := .tuple #[oneQ.agg, .bool true]) (by simp [results, Tryz.results67, go_sem]) rfl ⟨rfl, ball (Below.refl _ _) _⟩
set_option maxRecDepth 100000 in
theorem indexf_c (w : World) : Calls Tryz.prog 40 #[.slice none 0 0, .func (.func 23) #[] #[]] w (RetB w (.int .i64 (-1))) := by
  go_enter Tryz.func40, Tryz.ntmps40
  go_wp2_with fail
  go_loop [5, 8] (fun u5 u8 => u8 = .int .i64 0) (fun _ _ => 0)
  case atStart => rfl
  case round =>
    subst hrel
    go_wp2
    go_ret
    exact ⟨rfl, Below.refl _ _⟩
set_option maxRecDepth 100000 in
theorem containsf_c (w : World) : Calls Tryz.prog 22 #[.slice none 0 0, .func (.func 23) #[] #[]] w (RetB w (.bool false)) := by
  have X := Lib.hid indexf_c
  go_enter Tryz.func22, Tryz.ntmps22
  go_wp2_with fail
  refine (X.out _).mono ?_
  rintro e w1 ⟨rfl, hb1⟩
  go_wp2
  go_ret
  exact ⟨rfl, hb1⟩
set_option maxRecDepth 100000 in
theorem clone_c (w : World) : Calls Tryz.prog 30 #[.slice none 0 0] w (RetB w (.slice none 0 0)) := by
  have hn : ∀ W, (binOp BinOp.eql 33 (.slice none 0 0) (.slice none 0 0)).run Tryz.prog W = .ok (.bool true) W := fun W => rfl
  go_enter Tryz.func30, Tryz.ntmps30
  go_wp2
  go_ret
  exact ⟨rfl, Below.refl _ _⟩
set_option maxRecDepth 100000 in
theorem gtotal_c (w : World) : Calls Tryz.prog 43 #[.slice none 0 0, .agg (termQ cT)] w (RetB w (.tuple #[oneQ.agg, .bool true])) := by
  go_enter Tryz.func43, Tryz.ntmps43
  go_wp2
  exact bodyPost_ret (v := .tuple #[oneQ.agg, .bool true]) (by simp [results, Tryz.results43, go_sem]) rfl ⟨rfl, ball (ball (Below.refl _ _) _) _⟩
set_option maxRecDepth 100000 in
theorem value_c {w : World} {x : Nat} {A : Option Addr} {c : Nat} (hx : Blk w x 110 #[.slice none 0 0, .slice A 1 c]) (hr : Reads w w.heap.size 3 A 1 (vV [oneQ])) :
    Calls Tryz.prog 60 #[.pointer (some ⟨x, 0, none⟩), .agg (termQ ⟨#[]⟩)] w (RetB w (.tuple #[oneQ.agg, .bool true])) := by
  have AT := Lib.hid fun W (hW : Below w.heap.size w W) => at_c (c := c) (hr.up hW)
  have bA := ball (ball (Below.refl w.heap.size w) (.cells (termQ ⟨#[]⟩) 40)) (.cells #[.int .u8 0, .int .i64 0, .string ⟨#[]⟩] 26)
  have T0 : Blk ((w.alloc (.cells (termQ ⟨#[]⟩) 40)).alloc (.cells #[.int .u8 0, .int .i64 0, .string ⟨#[]⟩] 26)) w.heap.size 40 (termQ ⟨#[]⟩) := (Blk.new _ _ _).alloc _
  have V0 : Blk ((w.alloc (.cells (termQ ⟨#[]⟩) 40)).alloc (.cells #[.int .u8 0, .int .i64 0, .string ⟨#[]⟩] 26)) (w.heap.size + 1) 26 #[.int .u8 0, .int .i64 0, .string ⟨#[]⟩] := Blk.newAt (by simp)
  go_enter Tryz.func60, Tryz.ntmps60
  go_upto_region 9 with fail
  obtain ⟨W0, hW0⟩ : ∃ W0, (w.alloc (.cells (termQ ⟨#[]⟩) 40)).alloc (.cells #[.int .u8 0, .int .i64 0, .string ⟨#[]⟩] 26) = W0 := ⟨_, rfl⟩
  rw [hW0] at bA T0 V0
  rw [hW0]
  clear hW0
  have x1 : W0.cell? ⟨x, 1, none⟩ = some (.slice A 1 c) := (hx.below bA hx.lt).cell 1
  have t9 : W0.cell? ⟨w.heap.size, 9, none⟩ = some (.int .i64 0) := T0.cell 9
  have H0 := Lib.hid (And.intro (hx.below bA hx.lt) (And.intro T0 (And.intro V0 bA)))
  have HV : Hid (∀ W, Below W0.heap.size W0 W → Blk W (w.heap.size + 1) 26 #[.int .u8 0, .int .i64 0, .string ⟨#[]⟩]) := Lib.hid fun W hW => V0.below hW V0.lt
  clear T0 V0 bA hx hr
  go_region_with (go_at_call 67; (with_reducible refine (AT.out _ (by with_reducible repeat (first | exact H0.out.2.2.2 | refine Below.drew ?_ | refine bdr ?_ _))).mono ?_); rintro e w1 ⟨rfl, hb1⟩; have hb1' : Below W0.heap.size W0 w1 := bto0 (by with_reducible repeat (first | exact Below.refl _ _ | refine Below.drew ?_ | refine bdr ?_ _)) hb1; have V1 := HV.out _ hb1'; have g0 := V1.frozen 0; have g1 := V1.frozen 1; have g2 := V1.frozen 2; have y0 := V1.cell 0; have y1 := V1.cell 1; have y2 := V1.cell 2; simp at y0 y1 y2; have H1 := Lib.hid (And.intro V1 (bto0 H0.out.2.2.2 hb1')); clear V1 hb1 hb1')
  all_goals go_wp2_with fail
  all_goals
    obtain ⟨W5, hW5⟩ : ∃ W5, ((w1.setCell ⟨w.heap.size + 1, 0, none⟩ (.int .u8 1)).setCell ⟨w.heap.size + 1, 1, none⟩ (.int .i64 0)).setCell ⟨w.heap.size + 1, 2, none⟩ (.string ⟨#[]⟩) = W5 := ⟨_, rfl⟩
    have B5 : Blk W5 (w.heap.size + 1) 26 #[.int .u8 1, .int .i64 0, .string ⟨#[]⟩] := by
      have T := ((H1.out.1.set_ 0 (.int .u8 1)).set_ 1 (.int .i64 0)).set_ 2 (.string ⟨#[]⟩)
      simp only [List.setIfInBounds_toArray, List.set_cons_zero, List.set_cons_succ] at T
      exact hW5 ▸ T
    have b5 : Below w.heap.size w W5 := hW5 ▸ ((H1.out.2.setCell (by simp) _).setCell (by simp) _).setCell (by simp) _
    rw [hW5]
    clear hW5
    have p0 : W5.cell? ⟨w.heap.size + 1, 0, none⟩ = some (.int .u8 1) := B5.cell 0
    have p1 : W5.cell? ⟨w.heap.size + 1, 1, none⟩ = some (.int .i64 0) := B5.cell 1
    have p2 : W5.cell? ⟨w.heap.size + 1, 2, none⟩ = some (.string ⟨#[]⟩) := B5.cell 2
    exact bodyPost_ret (v := .tuple #[oneQ.agg, .bool true]) (by simp [results, Tryz.results60, go_sem, p0, p1, p2]) rfl ⟨rfl, b5⟩
end Go.Proofs.YthpggfcindnlcaaGreatDoor
