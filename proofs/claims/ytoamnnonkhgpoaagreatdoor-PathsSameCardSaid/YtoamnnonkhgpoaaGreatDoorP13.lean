/-
  The chapter's example.
-/
import Derived.Test.YtoamnnonkhgpoaaGreatDoorP12
import Derived.BigQuiet
set_option linter.unusedSimpArgs false
set_option linter.unusedVariables false
namespace Go.Proofs.YtoamnnonkhgpoaaGreatDoor
open Go.RowKit Go.Sort

theorem Tryz.infoP22 : (Tryz.prog.info? 29).map (fun i => (i.zero, i.size, i.bytes)) = some (some (.agg #[.int .u8 0, .int .i64 0, .slice none 0 0, .slice none 0 0, .int .i64 0, .slice none 0 0, .slice none 0 0]), 7, 120) := by kernel_rfl
@[reducible] def blkV (T : Option Addr) : Value := .agg #[.bool false, .slice T 1 1, .slice none 0 0, .slice none 0 0, .slice none 0 0, .slice none 0 0, .bool false, .slice none 0 0, .slice none 0 0, .slice none 0 0, .int .i64 0]

set_option maxRecDepth 100000 in
set_option maxHeartbeats 8000000 in
theorem needed0_any (T : Option Addr) (w : World) : Calls Tryz.prog 22 #[blkV T, .int .i64 0] w (RetB w (.slice none 0 0)) := by
  have hx0 : ∀ W : World, (Instr.index 74 (.agg #[.slice none 0 0, .slice none 0 0, .slice none 0 0, .slice none 0 0]) (.int .i64 0)).run Tryz.prog W = .ok (.slice none 0 0) W := fun W => by kernel_rfl
  have hx1 : ∀ W : World, (Instr.index 74 (.agg #[.slice none 0 0, .slice none 0 0, .slice none 0 0, .slice none 0 0]) (.int .i64 1)).run Tryz.prog W = .ok (.slice none 0 0) W := fun W => by kernel_rfl
  have hx2 : ∀ W : World, (Instr.index 74 (.agg #[.slice none 0 0, .slice none 0 0, .slice none 0 0, .slice none 0 0]) (.int .i64 2)).run Tryz.prog W = .ok (.slice none 0 0) W := fun W => by kernel_rfl
  have hx3 : ∀ W : World, (Instr.index 74 (.agg #[.slice none 0 0, .slice none 0 0, .slice none 0 0, .slice none 0 0]) (.int .i64 3)).run Tryz.prog W = .ok (.slice none 0 0) W := fun W => by kernel_rfl
  go_enter Tryz.func22, Tryz.ntmps22
  go_wp2_with fail
  go_loopw [5, 21] (fun u v wr => u = .slice none 0 0 ∧ (v = .int .i64 0 ∨ v = .int .i64 1 ∨ v = .int .i64 2 ∨ v = .int .i64 3 ∨ v = .int .i64 4) ∧ Below w.heap.size w wr) (fun _ v _ => 4 - (intOf v).toNat)
  case atStart => exact ⟨rfl, .inl rfl, ball (Below.refl _ _) _⟩
  case round =>
    obtain ⟨rfl, hv, hb⟩ := hrel
    rcases hv with rfl | rfl | rfl | rfl | rfl
    · go_wp2_with fail
      go_loopw [5, 26] (fun u v wr' => u = .slice none 0 0 ∧ v = .int .i64 0 ∧ wr' = wr) (fun _ _ _ => 0)
      case atStart => exact ⟨rfl, rfl, rfl⟩
      case round =>
        obtain ⟨rfl, rfl, rfl⟩ := hrel
        go_wp2
        exact ⟨⟨rfl, .inr (.inl rfl), hb⟩, by simp [intOf]⟩
    · go_wp2_with fail
      go_loopw [5, 26] (fun u v wr' => u = .slice none 0 0 ∧ v = .int .i64 0 ∧ wr' = wr) (fun _ _ _ => 0)
      case atStart => exact ⟨rfl, rfl, rfl⟩
      case round =>
        obtain ⟨rfl, rfl, rfl⟩ := hrel
        go_wp2
        exact ⟨⟨rfl, .inr (.inr (.inl rfl)), hb⟩, by simp [intOf]⟩
    · go_wp2_with fail
      go_loopw [5, 26] (fun u v wr' => u = .slice none 0 0 ∧ v = .int .i64 0 ∧ wr' = wr) (fun _ _ _ => 0)
      case atStart => exact ⟨rfl, rfl, rfl⟩
      case round =>
        obtain ⟨rfl, rfl, rfl⟩ := hrel
        go_wp2
        exact ⟨⟨rfl, .inr (.inr (.inr (.inl rfl))), hb⟩, by simp [intOf]⟩
    · go_wp2_with fail
      go_loopw [5, 26] (fun u v wr' => u = .slice none 0 0 ∧ v = .int .i64 0 ∧ wr' = wr) (fun _ _ _ => 0)
      case atStart => exact ⟨rfl, rfl, rfl⟩
      case round =>
        obtain ⟨rfl, rfl, rfl⟩ := hrel
        go_wp2
        exact ⟨⟨rfl, .inr (.inr (.inr (.inr rfl))), hb⟩, by simp [intOf]⟩
    · go_wp2_with fail
      refine (Tryz.slices_Sort_int_none none 0 _).mono ?_
      rintro e w2 ⟨rfl, rfl⟩
      go_wp2_with fail
      refine (Tryz.slices_Compact_int_empty none 0 _).mono ?_
      rintro e w3 ⟨rfl, rfl⟩
      go_wp2
      go_ret
      exact ⟨rfl, hb⟩

set_option maxRecDepth 100000 in
set_option maxHeartbeats 8000000 in
theorem pairs0_any (w : World) : Calls Tryz.prog 27 #[.slice none 0 0] w (RetB w (.slice none 0 0)) := by
  go_enter Tryz.func27, Tryz.ntmps27
  go_wp2_with fail
  go_loopw [3, 10] (fun u v wr' => u = .slice none 0 0 ∧ v = .int .i64 0 ∧ Below w.heap.size w wr') (fun _ _ _ => 0)
  case atStart => exact ⟨rfl, rfl, Below.refl _ _⟩
  case round =>
    obtain ⟨rfl, rfl, hb⟩ := hrel
    go_wp2
    go_ret
    exact ⟨rfl, hb⟩

set_option maxRecDepth 100000 in
set_option maxHeartbeats 8000000 in
theorem all0_any (X : Option Addr) (T : Addr) (w : World) (hT : w.cell? T = some (.int .i64 0)) (hTl : T.block < w.heap.size) : Calls Tryz.prog 13 #[.agg #[.slice X 1 1, .slice none 0 0], blkV (some T), .int .i64 0] w fun e w' => ∃ A c, e = .returned (.slice A 1 c) ∧ Below w.heap.size w w' := by
  have HN := Lib.hid fun W => needed0_any (some T) W
  have HPR := Lib.hid fun W => pairs0_any W
  obtain ⟨W0, hW0⟩ : ∃ W0, ((w.alloc (.cells #[.slice X 1 1, .slice none 0 0] 25)).alloc (.cells #[.bool false, .slice (some T) 1 1, .slice none 0 0, .slice none 0 0, .slice none 0 0, .slice none 0 0, .bool false, .slice none 0 0, .slice none 0 0, .slice none 0 0, .int .i64 0] 53)) = W0 := ⟨_, rfl⟩
  have hbW : Below w.heap.size w W0 := by rw [← hW0]; exact ball (ball (Below.refl _ _) _) _
  have hX : Blk W0 w.heap.size 25 #[.slice X 1 1, .slice none 0 0] := by rw [← hW0]; exact (Blk.new _ _ _).alloc _
  have hK : Blk W0 (w.heap.size + 1) 53 #[.bool false, .slice (some T) 1 1, .slice none 0 0, .slice none 0 0, .slice none 0 0, .slice none 0 0, .bool false, .slice none 0 0, .slice none 0 0, .slice none 0 0, .int .i64 0] := by rw [← hW0]; exact newp (by simp)
  have hz0 : W0.heap.size = w.heap.size + 2 := by rw [← hW0]; simp
  have t0 : W0.cell? T = some (.int .i64 0) := (hbW.cell hTl).trans hT
  have x0 : W0.cell? ⟨w.heap.size, 0, none⟩ = some (.slice X 1 1) := hX.cell 0
  have y0 : W0.cell? ⟨w.heap.size + 1, 0, none⟩ = some (.bool false) := hK.cell 0
  have y1 : W0.cell? ⟨w.heap.size + 1, 1, none⟩ = some (.slice (some T) 1 1) := hK.cell 1
  have y2 : W0.cell? ⟨w.heap.size + 1, 2, none⟩ = some (.slice none 0 0) := hK.cell 2
  have y3 : W0.cell? ⟨w.heap.size + 1, 3, none⟩ = some (.slice none 0 0) := hK.cell 3
  have y4 : W0.cell? ⟨w.heap.size + 1, 4, none⟩ = some (.slice none 0 0) := hK.cell 4
  have y5 : W0.cell? ⟨w.heap.size + 1, 5, none⟩ = some (.slice none 0 0) := hK.cell 5
  have y6 : W0.cell? ⟨w.heap.size + 1, 6, none⟩ = some (.bool false) := hK.cell 6
  have y7 : W0.cell? ⟨w.heap.size + 1, 7, none⟩ = some (.slice none 0 0) := hK.cell 7
  have y8 : W0.cell? ⟨w.heap.size + 1, 8, none⟩ = some (.slice none 0 0) := hK.cell 8
  have y9 : W0.cell? ⟨w.heap.size + 1, 9, none⟩ = some (.slice none 0 0) := hK.cell 9
  have y10 : W0.cell? ⟨w.heap.size + 1, 10, none⟩ = some (.int .i64 0) := hK.cell 10
  have HX := Lib.hid (And.intro hX hz0)
  clear hX hK hz0
  go_enter Tryz.func13, Tryz.ntmps13
  go_wp2_with fail
  clear hW0
  go_quiet (fail)
  go_wp2_with fail
  refine (HN.out _).mono ?_
  rintro e w1 ⟨rfl, hb1⟩
  clear x0 t0 y0 y1 y2 y3 y4 y5 y6 y7 y8 y9 y10
  have hb1' : Below W0.heap.size W0 w1 := bto0 (by with_reducible repeat (first | exact Below.refl _ _ | refine bdr ?_ _ | refine Below.drew ?_)) hb1
  have hbw1 := bto0 hbW hb1'
  have hz1 : w.heap.size < w1.heap.size := by (have := hb1'.size); (have := HX.out.2); omega
  have x1 : w1.cell? ⟨w.heap.size, 1, none⟩ = some (.slice none 0 0) := (bltp hb1' (by rw [HX.out.2]; omega) HX.out.1).cell 1
  clear hb1
  have hO : (w1.alloc (.cells #[.int .u8 0, .int .i64 0, .slice none 0 0, .slice none 0 0, .int .i64 0, .slice none 0 0, .slice none 0 0] 29)).ownsRow w1.heap.size 29 7 (.slice (some ⟨w1.heap.size, 0, none⟩) 1 1) 1 [.int .u8 0, .int .i64 0, .slice none 0 0, .slice none 0 0, .int .i64 0, .slice none 0 0, .slice none 0 0] := ⟨rfl, .inr ⟨w1.heap.size, 1, _, rfl, Nat.le_refl _, heap_alloc_new w1 _, Nat.le_refl _, by unfold maxLen; omega, rfl, rfl⟩⟩
  have hbO := ball hbw1 (.cells #[.int .u8 0, .int .i64 0, .slice none 0 0, .slice none 0 0, .int .i64 0, .slice none 0 0, .slice none 0 0] 29)
  have HO := Lib.hid (And.intro hO hbO)
  clear hO hbO hbW
  go_wp2_with fail
  obtain ⟨W2, hW2⟩ : ∃ W2, w1.alloc (.cells #[.int .u8 0, .int .i64 0, .slice none 0 0, .slice none 0 0, .int .i64 0, .slice none 0 0, .slice none 0 0] 29) = W2 := ⟨_, rfl⟩
  rw [hW2] at HO ⊢
  have hz2 : W2.heap.size = w1.heap.size + 1 := by rw [← hW2]; simp
  clear hW2
  go_loopw [8, 9, 50] (fun u v x wr' => u = .slice (some ⟨w1.heap.size, 0, none⟩) 1 1 ∧ v = .slice none 0 0 ∧ x = .int .i64 0 ∧ wr' = W2) (fun _ _ _ _ => 0)
  case atStart => exact ⟨rfl, rfl, rfl, rfl⟩
  case round =>
    obtain ⟨rfl, rfl, rfl, rfl⟩ := hrel
    go_wp2_with fail
    refine (HPR.out _).mono ?_
    rintro e w3 ⟨rfl, hb3⟩
    have own3 := own_below22 HO.out.1 hb3
    have hb03 := bto0 HO.out.2 hb3
    have hz3 : w1.heap.size ≤ w3.heap.size := by (have := hb3.size); omega
    obtain ⟨i0, hi0, hz0, hs0, hy0⟩ := int_info8 Tryz.infoP22
    have hrn : Reads w3 w3.heap.size 7 none 0 [] := Reads.none_
    go_wp2_with (at_builtin; refine wpList_append_any _ rfl (.tmp 95) (.tmp 97) 38 rfl w1.heap.size 29 i0 _ 7 120 Tryz.underlying38 hi0 hz0 hs0 hy0 rfl (by decide) _ 1 _ rfl own3 _ none 0 0 [] rfl hrn (by simp) (by unfold maxLen; omega) (by omega) hz3 ?_; intro v4 w4 own4 hg4 _; obtain ⟨A4, c4, rfl, hc4⟩ := own_form own4; have hb4 : Below w.heap.size w w4 := hb03.grown hg4 (by (have := hb03.size); omega) (fun g hgg => by (have := (own3.lt g hgg).1; have := hbw1.size; omega)))
    go_ret
    exact ⟨_, _, rfl, hb4⟩

set_option maxRecDepth 100000 in
set_option maxHeartbeats 8000000 in
theorem fixed22_any (w : World) : Calls Tryz.prog 5 #[] w (RetB w (.bool true)) := by
  go_enter Tryz.func5, Tryz.ntmps5
  go_wp2_with fail
  refine (all0_any _ ⟨w.heap.size + 1 + 1 + 1, 0, none⟩ _ ((newp (by simp) : Blk _ _ _ #[.int .i64 0]).cell 0) (by simp)).mono ?_
  rintro e w1 ⟨A, c, rfl, hb1⟩
  go_wp2
  go_ret
  exact ⟨rfl, bto0 (by with_reducible repeat (first | exact Below.refl _ _ | refine ball ?_ _)) hb1⟩
end Go.Proofs.YtoamnnonkhgpoaaGreatDoor
