
/-
  ShapeTotal: the chapter's example.
-/
import Derived.Test.YthpggfcindnlcaaGreatDoorQf
set_option linter.unusedSimpArgs false
set_option linter.unusedVariables false
namespace Go.Proofs.YthpggfcindnlcaaGreatDoor
open Go.RowKit

abbrev kbQ (gI gT : Nat) : Array Value := #[.bool false, .slice none 0 0, .slice (some ⟨gI, 0, none⟩) 1 1, .slice none 0 0, .slice none 0 0, .slice none 0 0, .bool true, .slice none 0 0, .slice (some ⟨gT, 0, none⟩) 1 1, .slice none 0 0, .int .i64 (-1)]
set_option maxRecDepth 100000 in
set_option maxHeartbeats 2000000 in
theorem Eval_c {w : World} {A : Option Addr} {c : Nat} (hr : Reads w w.heap.size 3 A 1 (vV [oneQ])) :
    Calls Tryz.prog 52 #[.agg (termQ ⟨#[]⟩), .slice none 0 0, .slice A 1 c] w (RetB w (.tuple #[oneQ.agg, .bool true])) := by
  have bA := ball (ball (ball (Below.refl w.heap.size w) (.cells (termQ ⟨#[]⟩) 40)) (.cells #[.int .u8 0, .int .i64 0, .string ⟨#[]⟩] 26)) (.cells #[.slice none 0 0, .slice A 1 c] 110)
  obtain ⟨W0, hW0⟩ : ∃ W0, ((w.alloc (.cells (termQ ⟨#[]⟩) 40)).alloc (.cells #[.int .u8 0, .int .i64 0, .string ⟨#[]⟩] 26)).alloc (.cells #[.slice none 0 0, .slice A 1 c] 110) = W0 := ⟨_, rfl⟩
  have V0 : Blk W0 (w.heap.size + 1) 26 #[.int .u8 0, .int .i64 0, .string ⟨#[]⟩] := hW0 ▸ (Blk.newAt (by simp)).alloc _
  have X0 : Blk W0 (w.heap.size + 1 + 1) 110 #[.slice none 0 0, .slice A 1 c] := hW0 ▸ Blk.newAt (by simp)
  have hWL : ((w.alloc (.cells #[.int .u8 7, .string ⟨#[]⟩, .bool false, .int .u8 0, .int .i64 0, .string ⟨#[]⟩, .string ⟨#[]⟩, .string ⟨#[]⟩, .int .i64 0, .int .i64 0, .slice none 0 0] 40)).alloc (.cells #[.int .u8 0, .int .i64 0, .string ⟨#[]⟩] 26)).alloc (.cells #[.slice none 0 0, .slice A 1 c] 110) = W0 := hW0
  rw [hW0] at bA
  have T0 : Blk W0 w.heap.size 40 (termQ ⟨#[]⟩) := hW0 ▸ ((Blk.new _ _ _).alloc _).alloc _
  have t0 : W0.cell? ⟨w.heap.size, 0, none⟩ = some (.int .u8 7) := T0.cell 0
  have t1 : W0.cell? ⟨w.heap.size, 1, none⟩ = some (.string ⟨#[]⟩) := T0.cell 1
  have t2 : W0.cell? ⟨w.heap.size, 2, none⟩ = some (.bool false) := T0.cell 2
  have t3 : W0.cell? ⟨w.heap.size, 3, none⟩ = some (.int .u8 0) := T0.cell 3
  have t4 : W0.cell? ⟨w.heap.size, 4, none⟩ = some (.int .i64 0) := T0.cell 4
  have t5 : W0.cell? ⟨w.heap.size, 5, none⟩ = some (.string ⟨#[]⟩) := T0.cell 5
  have t6 : W0.cell? ⟨w.heap.size, 6, none⟩ = some (.string ⟨#[]⟩) := T0.cell 6
  have t7 : W0.cell? ⟨w.heap.size, 7, none⟩ = some (.string ⟨#[]⟩) := T0.cell 7
  have t8 : W0.cell? ⟨w.heap.size, 8, none⟩ = some (.int .i64 0) := T0.cell 8
  have t9 : W0.cell? ⟨w.heap.size, 9, none⟩ = some (.int .i64 0) := T0.cell 9
  have t10 : W0.cell? ⟨w.heap.size, 10, none⟩ = some (.slice none 0 0) := T0.cell 10
  have tl := T0.lt
  have VC := Lib.hid (value_c (c := c) X0 (hr.up bA))
  have H0 := Lib.hid (And.intro V0 bA)
  clear V0 X0 bA hr hW0 T0
  go_enter Tryz.func52, Tryz.ntmps52
  go_wp2_with fail
  (try rw [hWL])
  refine VC.out.mono ?_
  rintro e w1 ⟨rfl, hb1⟩
  have V1 := H0.out.1.below hb1 H0.out.1.lt
  have g0 := V1.frozen 0
  have g1 := V1.frozen 1
  have g2 := V1.frozen 2
  have y0 := V1.cell 0
  have y1 := V1.cell 1
  have y2 := V1.cell 2
  simp at y0 y1 y2
  have H1 := Lib.hid (And.intro V1 (bto0 H0.out.2 hb1))
  clear V1 hb1 VC hWL
  go_wp2
  obtain ⟨W5, hW5⟩ : ∃ W5, ((w1.setCell ⟨w.heap.size + 1, 0, none⟩ (.int .u8 1)).setCell ⟨w.heap.size + 1, 1, none⟩ (.int .i64 0)).setCell ⟨w.heap.size + 1, 2, none⟩ (.string ⟨#[]⟩) = W5 := ⟨_, rfl⟩
  have B5 : Blk W5 (w.heap.size + 1) 26 #[.int .u8 1, .int .i64 0, .string ⟨#[]⟩] := by
    have T := ((H1.out.1.set_ 0 (.int .u8 1)).set_ 1 (.int .i64 0)).set_ 2 (.string ⟨#[]⟩)
    simp only [List.setIfInBounds_toArray, List.set_cons_zero, List.set_cons_succ] at T
    exact hW5 ▸ T
  have b5 : Below w.heap.size w W5 := hW5 ▸ ((H1.out.2.setCell (by simp) _).setCell (by simp) _).setCell (by simp) _
  rw [hW5]
  clear hW5
  have p0 : W5.cell? ⟨w.heap.size + 1, 0, none⟩ = some (.int .u8 1) := B5.cell 0
  have p1 : W5.cell? ⟨w.heap.size + 1, 1, none⟩ = some (.int .i64 0) := B5.cell 1
  have p2 : W5.cell? ⟨w.heap.size + 1, 2, none⟩ = some (.string ⟨#[]⟩) := B5.cell 2
  exact bodyPost_ret (v := .tuple #[oneQ.agg, .bool true]) (by simp [results, Tryz.results52, go_sem, p0, p1, p2]) rfl ⟨rfl, b5⟩
set_option maxRecDepth 100000 in
set_option maxHeartbeats 2000000 in
theorem eval_c {w : World} {gI : Nat} {A : Option Addr} {c : Nat} (hI : Blk w gI 40 (termQ ⟨#[]⟩)) (hr : Reads w w.heap.size 3 A 1 (vV [oneQ])) :
    Calls Tryz.prog 41 #[.slice (some ⟨gI, 0, none⟩) 1 1, .slice none 0 0, .slice A 1 c] w (fun e w' => ∃ A' c', e = .returned (.tuple #[.slice A' 1 c', .bool true]) ∧ Reads w' w'.heap.size 3 A' 1 (vV [oneQ]) ∧ Below w.heap.size w w') := by
  obtain ⟨i0, hi0, hz0, hs0, hy0⟩ := int_info8 Tryz.infoVq
  have EC : Hid (∀ W, Below w.heap.size w W → Calls Tryz.prog 52 #[.agg (termQ ⟨#[]⟩), .slice none 0 0, .slice A 1 c] W (RetB W (.tuple #[oneQ.agg, .bool true]))) := Lib.hid fun W hW => Eval_c (hr.up hW)
  have q0 : w.cell? ⟨gI, 0, none⟩ = some (.int .u8 7) := hI.cell 0
  have q1 : w.cell? ⟨gI, 1, none⟩ = some (.string ⟨#[]⟩) := hI.cell 1
  have q2 : w.cell? ⟨gI, 2, none⟩ = some (.bool false) := hI.cell 2
  have q3 : w.cell? ⟨gI, 3, none⟩ = some (.int .u8 0) := hI.cell 3
  have q4 : w.cell? ⟨gI, 4, none⟩ = some (.int .i64 0) := hI.cell 4
  have q5 : w.cell? ⟨gI, 5, none⟩ = some (.string ⟨#[]⟩) := hI.cell 5
  have q6 : w.cell? ⟨gI, 6, none⟩ = some (.string ⟨#[]⟩) := hI.cell 6
  have q7 : w.cell? ⟨gI, 7, none⟩ = some (.string ⟨#[]⟩) := hI.cell 7
  have q8 : w.cell? ⟨gI, 8, none⟩ = some (.int .i64 0) := hI.cell 8
  have q9 : w.cell? ⟨gI, 9, none⟩ = some (.int .i64 0) := hI.cell 9
  have q10 : w.cell? ⟨gI, 10, none⟩ = some (.slice none 0 0) := hI.cell 10
  have hIl := hI.lt
  clear hr
  go_enter Tryz.func41, Tryz.ntmps41
  go_wp2_with fail
  go_loopw [8, 10, 11, 12, 15] (fun u8 u10 u11 u12 u15 wr => (u15 = .int .i64 0 ∧ u8 = .slice none 0 0 ∧ wr = w) ∨ (u15 = .int .i64 1 ∧ ∃ A' c', u8 = .slice A' 1 c' ∧ Reads wr wr.heap.size 3 A' 1 (vV [oneQ]) ∧ Below w.heap.size w wr)) (fun _ _ _ _ u15 _ => 1 - (intOf u15).toNat)
  case atStart => exact .inl ⟨rfl, rfl, rfl⟩
  case round =>
    rcases hrel with ⟨rfl, rfl, rfl⟩ | ⟨rfl, A', c', rfl, hr', hb'⟩
    · go_wp2_with fail
      refine (EC.out _ (ball (Below.refl _ _) _)).mono ?_
      rintro e w1 ⟨rfl, hb1⟩
      have b1 := bto0 (ball (Below.refl _ _) _) hb1
      have HB := Lib.hid b1
      have z1 := b1.size
      clear b1 hb1 EC
      go_wp2_with (at_builtin; refine wpList_pushR (news := [.int .u8 1, .int .i64 0, .string ⟨#[]⟩]) rfl (.tmp 28) (.tmp 30) 22 rfl wr.heap.size 26 i0 _ 3 32 Tryz.underlying22 hi0 hz0 hs0 hy0 rfl (by decide) (.slice none 0 0) 0 [] (by first | rfl | (simp [Act.eval, Act.put]; done)) (World.ownsRow_nil _ _ _ _) rfl _ (by first | rfl | (simp [Act.eval, Act.put]; done)) (by first | rfl | simp) rfl (by intro u hu; simp only [List.mem_cons, List.not_mem_nil, or_false] at hu; rcases hu with rfl | rfl | rfl <;> rfl) (by omega) (by omega) (by first | omega | (simp; omega)) ?_; intro v8 w8 own8 kp8 ob8)
      obtain ⟨A8, c8, rfl, hc8⟩ := own_form own8
      refine ⟨.inr ⟨rfl, A8, c8, rfl, Reads.of_own own8, bgrow (ball (ball HB.out _) _) kp8 (World.ownsRow_nil _ wr.heap.size 26 3) (Nat.le_refl _) (by simp; omega)⟩, by simp [intOf]⟩
    · have HQ := Lib.hid (And.intro hr' hb')
      clear hr' hb' EC
      go_wp2
      go_ret2
      exact ⟨A', c', rfl, HQ.out.1, HQ.out.2⟩
set_option maxRecDepth 100000 in
set_option maxHeartbeats 2000000 in
theorem row_c {w : World} {gI gT : Nat} (hI : Blk w gI 40 (termQ ⟨#[]⟩)) (hT : Blk w gT 40 (termQ cT)) :
    Calls Tryz.prog 25 #[.slice none 0 0, .agg (kbQ gI gT)] w (fun e w' => ∃ A' c', e = .returned (.tuple #[.slice A' 1 c', .bool true]) ∧ Reads w' w'.heap.size 3 A' 1 (vV [oneQ]) ∧ Below w.heap.size w w') := by
  obtain ⟨i0, hi0, hz0, hs0, hy0⟩ := int_info8 Tryz.infoVq
  have TC := Lib.hid gtotal_c
  have bA := ball (Below.refl w.heap.size w) (.cells (kbQ gI gT) 36)
  have K0 := Blk.new w 36 (kbQ gI gT)
  have hT1 := hT.alloc (.cells (kbQ gI gT) 36)
  obtain ⟨W0, hW0⟩ : ∃ W0, w.alloc (.cells (kbQ gI gT) 36) = W0 := ⟨_, rfl⟩
  have hW1 : w.alloc (.cells #[.bool false, .slice none 0 0, .slice (some ⟨gI, 0, none⟩) 1 1, .slice none 0 0, .slice none 0 0, .slice none 0 0, .bool true, .slice none 0 0, .slice (some ⟨gT, 0, none⟩) 1 1, .slice none 0 0, .int .i64 (-1)] 36) = W0 := hW0
  rw [hW0] at bA K0 hT1
  have q0 : W0.cell? ⟨gT, 0, none⟩ = some (.int .u8 7) := hT1.cell 0
  have q1 : W0.cell? ⟨gT, 1, none⟩ = some (.string cT) := hT1.cell 1
  have q2 : W0.cell? ⟨gT, 2, none⟩ = some (.bool false) := hT1.cell 2
  have q3 : W0.cell? ⟨gT, 3, none⟩ = some (.int .u8 0) := hT1.cell 3
  have q4 : W0.cell? ⟨gT, 4, none⟩ = some (.int .i64 0) := hT1.cell 4
  have q5 : W0.cell? ⟨gT, 5, none⟩ = some (.string ⟨#[]⟩) := hT1.cell 5
  have q6 : W0.cell? ⟨gT, 6, none⟩ = some (.string ⟨#[]⟩) := hT1.cell 6
  have q7 : W0.cell? ⟨gT, 7, none⟩ = some (.string ⟨#[]⟩) := hT1.cell 7
  have q8 : W0.cell? ⟨gT, 8, none⟩ = some (.int .i64 0) := hT1.cell 8
  have q9 : W0.cell? ⟨gT, 9, none⟩ = some (.int .i64 0) := hT1.cell 9
  have q10 : W0.cell? ⟨gT, 10, none⟩ = some (.slice none 0 0) := hT1.cell 10
  have k2 : W0.cell? ⟨w.heap.size, 2, none⟩ = some (.slice (some ⟨gI, 0, none⟩) 1 1) := K0.cell 2
  have k6 : W0.cell? ⟨w.heap.size, 6, none⟩ = some (.bool true) := K0.cell 6
  have k8 : W0.cell? ⟨w.heap.size, 8, none⟩ = some (.slice (some ⟨gT, 0, none⟩) 1 1) := K0.cell 8
  have hTl := hT1.lt
  have hkl := K0.lt
  have H0 := Lib.hid (And.intro hI (And.intro bA K0))
  clear hI hT hT1 bA K0 hW0
  go_enter Tryz.func25, Tryz.ntmps25
  go_wp2_with fail
  clear hW1
  go_loopw [6, 8, 9, 10, 17] (fun u6 u8 u9 u10 u17 wr => (u17 = .int .i64 0 ∧ u6 = .slice none 0 0 ∧ wr = W0) ∨ (u17 = .int .i64 1 ∧ ∃ A' c', u6 = .slice A' 1 c' ∧ Reads wr wr.heap.size 3 A' 1 (vV [oneQ]) ∧ Below W0.heap.size W0 wr)) (fun _ _ _ _ u17 _ => 1 - (intOf u17).toNat)
  case atStart => exact .inl ⟨rfl, rfl, rfl⟩
  case round =>
    rcases hrel with ⟨rfl, rfl, rfl⟩ | ⟨rfl, A', c', rfl, hr', hb'⟩
    · go_wp2_with fail
      refine (TC.out _).mono ?_
      rintro e w1 ⟨rfl, hb1⟩
      have b1 := bto0 (ball (Below.refl wr.heap.size wr) _) hb1
      have HB := Lib.hid b1
      have z1 := b1.size
      have zw := H0.out.2.1.size
      clear b1 hb1 TC
      go_wp2_with (at_builtin; refine wpList_pushR (news := [.int .u8 1, .int .i64 0, .string ⟨#[]⟩]) rfl (.tmp 29) (.tmp 31) 22 rfl wr.heap.size 26 i0 _ 3 32 Tryz.underlying22 hi0 hz0 hs0 hy0 rfl (by decide) (.slice none 0 0) 0 [] (by first | rfl | (simp [Act.eval, Act.put]; done)) (World.ownsRow_nil _ _ _ _) rfl _ (by first | rfl | (simp [Act.eval, Act.put]; done)) (by first | rfl | simp) rfl (by intro u hu; simp only [List.mem_cons, List.not_mem_nil, or_false] at hu; rcases hu with rfl | rfl | rfl <;> rfl) (by omega) (by omega) (by first | omega | (simp; omega)) ?_; intro v8 w8 own8 kp8 ob8)
      obtain ⟨A8, c8, rfl, hc8⟩ := own_form own8
      refine ⟨.inr ⟨rfl, A8, c8, rfl, Reads.of_own own8, bgrow (ball (ball HB.out _) _) kp8 (World.ownsRow_nil _ wr.heap.size 26 3) (Nat.le_refl _) (by simp; omega)⟩, by simp [intOf]⟩
    · have bw := bto0 H0.out.2.1 hb'
      have EC := Lib.hid (eval_c (c := c') (H0.out.1.below bw H0.out.1.lt) hr')
      have K1 := H0.out.2.2.below hb' H0.out.2.2.lt
      have k2 : wr.cell? ⟨w.heap.size, 2, none⟩ = some (.slice (some ⟨gI, 0, none⟩) 1 1) := K1.cell 2
      have HQ := Lib.hid bw
      clear hr' hb' bw K1 TC
      go_wp2_with fail
      refine EC.out.mono ?_
      rintro e w3 ⟨A3, c3, rfl, hr3, hb3⟩
      have H3 := Lib.hid (And.intro hr3 (bto0 HQ.out hb3))
      clear hr3 hb3 EC
      go_wp2
      go_ret2
      exact ⟨A3, c3, rfl, H3.out.1, H3.out.2⟩
set_option maxRecDepth 100000 in
theorem gather_c (w : World) (gI gT : Nat) :
    Calls Tryz.prog 24 #[.agg (kbQ gI gT), .slice none 0 0] w (fun e w' => ∃ g, e = .returned (.tuple #[.slice (some ⟨g, 0, none⟩) 1 1, .bool true]) ∧ Blk w' g 71 #[.slice none 0 0] ∧ Below w.heap.size w w') := by
  go_enter Tryz.func24, Tryz.ntmps24
  go_wp2
  go_ret2
  exact ⟨w.heap.size + 1, rfl, Blk.newAt (by simp), ball (ball (Below.refl _ _) _) _⟩
end Go.Proofs.YthpggfcindnlcaaGreatDoor
