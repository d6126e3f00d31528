
/-
  ShapeTotal: the chapter's example: Shape, fixed.
-/
import Derived.Test.YthpggfcindnlcaaGreatDoorQg
set_option linter.unusedSimpArgs false
set_option linter.unusedVariables false
namespace Go.Proofs.YthpggfcindnlcaaGreatDoor
open Go.RowKit

theorem Tryz.infoRw : (Tryz.prog.info? 22).map (fun i => (i.zero, i.size, i.bytes)) = some (some (.slice none 0 0), 1, 24) := by kernel_rfl
set_option maxRecDepth 100000 in
set_option maxHeartbeats 4000000 in
theorem shape_c {w : World} {gI gT : Nat} (hI : Blk w gI 40 (termQ ⟨#[]⟩)) (hT : Blk w gT 40 (termQ cT)) :
    Calls Tryz.prog 11 #[.agg (kbQ gI gT), .slice none 0 0, .bool false] w (fun e w' => ∃ A2 c2 A' c', e = .returned (.tuple #[.agg #[.slice none 0 0, .slice A2 1 c2], .int .i64 0]) ∧ Reads w' w'.heap.size 1 A2 1 [.slice A' 1 c'] ∧ Reads w' w'.heap.size 3 A' 1 (vV [oneQ]) ∧ Below w.heap.size w w') := by
  obtain ⟨i0, hi0, hz0, hs0, hy0⟩ := int_info8 Tryz.infoRw
  have CF := Lib.hid containsf_c
  have GA := Lib.hid fun W => gather_c W gI gT
  have CL := Lib.hid clone_c
  have bA := ball (ball (Below.refl w.heap.size w) (.cells (kbQ gI gT) 36)) (.cells #[.slice none 0 0, .slice none 0 0] 43)
  obtain ⟨W0, hW0⟩ : ∃ W0, (w.alloc (.cells (kbQ gI gT) 36)).alloc (.cells #[.slice none 0 0, .slice none 0 0] 43) = W0 := ⟨_, rfl⟩
  have K0 : Blk W0 w.heap.size 36 (kbQ gI gT) := hW0 ▸ (Blk.new _ _ _).alloc _
  have A0 : Blk W0 (w.heap.size + 1) 43 #[.slice none 0 0, .slice none 0 0] := hW0 ▸ Blk.newAt (by simp)
  have hWL : (w.alloc (.cells #[.bool false, .slice none 0 0, .slice (some ⟨gI, 0, none⟩) 1 1, .slice none 0 0, .slice none 0 0, .slice none 0 0, .bool true, .slice none 0 0, .slice (some ⟨gT, 0, none⟩) 1 1, .slice none 0 0, .int .i64 (-1)] 36)).alloc (.cells #[.slice none 0 0, .slice none 0 0] 43) = W0 := hW0
  rw [hW0] at bA
  have H0 := Lib.hid (And.intro K0 (And.intro A0 (And.intro bA (And.intro hI hT))))
  clear K0 A0 bA hI hT hW0
  go_enter Tryz.func11, Tryz.ntmps11
  go_wp2_with fail
  (try rw [hWL])
  refine (CF.out _).mono ?_
  rintro e w1 ⟨rfl, hb1⟩
  clear hWL
  have K1 := H0.out.1.below hb1 H0.out.1.lt
  have k0 : w1.cell? ⟨w.heap.size, 0, none⟩ = some (.bool false) := K1.cell 0
  have k1 : w1.cell? ⟨w.heap.size, 1, none⟩ = some (.slice none 0 0) := K1.cell 1
  have k2 : w1.cell? ⟨w.heap.size, 2, none⟩ = some (.slice (some ⟨gI, 0, none⟩) 1 1) := K1.cell 2
  have k3 : w1.cell? ⟨w.heap.size, 3, none⟩ = some (.slice none 0 0) := K1.cell 3
  have k4 : w1.cell? ⟨w.heap.size, 4, none⟩ = some (.slice none 0 0) := K1.cell 4
  have k5 : w1.cell? ⟨w.heap.size, 5, none⟩ = some (.slice none 0 0) := K1.cell 5
  have k6 : w1.cell? ⟨w.heap.size, 6, none⟩ = some (.bool true) := K1.cell 6
  have k7 : w1.cell? ⟨w.heap.size, 7, none⟩ = some (.slice none 0 0) := K1.cell 7
  have k8 : w1.cell? ⟨w.heap.size, 8, none⟩ = some (.slice (some ⟨gT, 0, none⟩) 1 1) := K1.cell 8
  have k9 : w1.cell? ⟨w.heap.size, 9, none⟩ = some (.slice none 0 0) := K1.cell 9
  have k10 : w1.cell? ⟨w.heap.size, 10, none⟩ = some (.int .i64 (-1)) := K1.cell 10
  have kl1 := K1.lt
  have H1 := Lib.hid (And.intro hb1 K1)
  clear K1 hb1 CF
  go_wp2_with fail
  refine (GA.out _).mono ?_
  rintro e w2 ⟨g, rfl, hg, hb2⟩
  have b2 := bto0 H1.out.1 hb2
  have K2 := H0.out.1.below b2 H0.out.1.lt
  clear k0 k1 k2 k3 k4 k5 k6 k7 k8 k9 k10
  have k0 : w2.cell? ⟨w.heap.size, 0, none⟩ = some (.bool false) := K2.cell 0
  have k1 : w2.cell? ⟨w.heap.size, 1, none⟩ = some (.slice none 0 0) := K2.cell 1
  have k2 : w2.cell? ⟨w.heap.size, 2, none⟩ = some (.slice (some ⟨gI, 0, none⟩) 1 1) := K2.cell 2
  have k3 : w2.cell? ⟨w.heap.size, 3, none⟩ = some (.slice none 0 0) := K2.cell 3
  have k4 : w2.cell? ⟨w.heap.size, 4, none⟩ = some (.slice none 0 0) := K2.cell 4
  have k5 : w2.cell? ⟨w.heap.size, 5, none⟩ = some (.slice none 0 0) := K2.cell 5
  have k6 : w2.cell? ⟨w.heap.size, 6, none⟩ = some (.bool true) := K2.cell 6
  have k7 : w2.cell? ⟨w.heap.size, 7, none⟩ = some (.slice none 0 0) := K2.cell 7
  have k8 : w2.cell? ⟨w.heap.size, 8, none⟩ = some (.slice (some ⟨gT, 0, none⟩) 1 1) := K2.cell 8
  have k9 : w2.cell? ⟨w.heap.size, 9, none⟩ = some (.slice none 0 0) := K2.cell 9
  have k10 : w2.cell? ⟨w.heap.size, 10, none⟩ = some (.int .i64 (-1)) := K2.cell 10
  have kl2 := K2.lt
  have gl := hg.lt
  have gc : w2.cell? ⟨g, 0, none⟩ = some (.slice none 0 0) := hg.cell 0
  have bw2 := bto0 H0.out.2.2.1 b2
  have RC := Lib.hid (row_c (H0.out.2.2.2.1.below bw2 H0.out.2.2.2.1.lt) (H0.out.2.2.2.2.below bw2 H0.out.2.2.2.2.lt))
  have H2 := Lib.hid (And.intro b2 (And.intro bw2 K2))
  have A2l := (H0.out.2.1.below b2 H0.out.2.1.lt).lt
  clear K2 hb2 b2 bw2 hg GA
  go_wp2_with fail
  go_loopw [10, 12, 13, 14, 29] (fun u10 u12 u13 u14 u29 wr => (u29 = .int .i64 0 ∧ u10 = .slice none 0 0 ∧ wr = w2) ∨ (u29 = .int .i64 1 ∧ ∃ A2 c2 A' c', u10 = .slice A2 1 c2 ∧ Reads wr wr.heap.size 1 A2 1 [.slice A' 1 c'] ∧ Reads wr wr.heap.size 3 A' 1 (vV [oneQ]) ∧ Below w2.heap.size w2 wr)) (fun _ _ _ _ u29 _ => 1 - (intOf u29).toNat)
  case atStart => exact .inl ⟨rfl, rfl, rfl⟩
  case round =>
    rcases hrel with ⟨rfl, rfl, rfl⟩ | ⟨rfl, A2, c2, A', c', rfl, hr2, hr', hb'⟩
    · go_wp2_with fail
      refine RC.out.mono ?_
      rintro e w3 ⟨A', c', rfl, hr3, hb3⟩
      have HB := Lib.hid (And.intro hr3 hb3)
      have z3 := hb3.size
      clear hb3 hr3 RC
      go_wp2_with (at_builtin; refine wpList_pushR (news := [.slice A' 1 c']) rfl (.tmp 42) (.tmp 44) 41 rfl wr.heap.size 22 i0 _ 1 24 Tryz.underlying41 hi0 hz0 hs0 hy0 rfl (by decide) (.slice none 0 0) 0 [] (by first | rfl | (simp [Act.eval, Act.put]; done)) (World.ownsRow_nil _ _ _ _) rfl _ (by first | rfl | (simp [Act.eval, Act.put]; done)) (by first | rfl | simp) rfl (by intro u hu; rw [List.mem_singleton] at hu; subst hu; rfl) (by omega) (by omega) (by omega) ?_; intro v8 w8 own8 kp8 ob8)
      obtain ⟨A8, c8, rfl, hc8⟩ := own_form own8
      have hz8 := kp8.size
      refine ⟨.inr ⟨rfl, A8, c8, A', c', rfl, Reads.of_own own8, ((HB.out.1.al (.cells #[.slice A' 1 c'] 22)).grown kp8 (Nat.le_refl _) (fun g e => by cases e)).more hz8, bgrow (ball HB.out.2 _) kp8 (World.ownsRow_nil _ wr.heap.size 22 1) (Nat.le_refl _) (by simp; omega)⟩, by simp [intOf]⟩
    · have bw := bto0 H2.out.2.1 hb'
      have K3 := H2.out.2.2.below hb' H2.out.2.2.lt
      have c0 : wr.cell? ⟨w.heap.size, 0, none⟩ = some (.bool false) := K3.cell 0
      have c3 : wr.cell? ⟨w.heap.size, 3, none⟩ = some (.slice none 0 0) := K3.cell 3
      have c10 : wr.cell? ⟨w.heap.size, 10, none⟩ = some (.int .i64 (-1)) := K3.cell 10
      have kl3 := K3.lt
      have A3 := H0.out.2.1.below (bto0 H2.out.1 hb') H0.out.2.1.lt
      have HQ := Lib.hid (And.intro hr2 (And.intro hr' (And.intro bw A3)))
      have al3 := A3.lt
      clear hr2 hr' bw A3 hb' K3 RC
      go_wp2_with fail
      refine (CL.out _).mono ?_
      rintro e w4 ⟨rfl, hb4⟩
      have A4 := HQ.out.2.2.2.below hb4 HQ.out.2.2.2.lt
      have y0 : w4.cell? ⟨w.heap.size + 1, 0, none⟩ = some (.slice none 0 0) := A4.cell 0
      have y1 : w4.cell? ⟨w.heap.size + 1, 1, none⟩ = some (.slice none 0 0) := A4.cell 1
      have g0 := A4.frozen 0
      have g1 := A4.frozen 1
      have al4 := A4.lt
      have H4 := Lib.hid (And.intro A4 (And.intro (bto0 HQ.out.2.2.1 hb4) (And.intro (HQ.out.1.up hb4) (HQ.out.2.1.up hb4))))
      clear A4 hb4 CL
      go_wp2
      obtain ⟨W5, hW5⟩ : ∃ W5, (w4.setCell ⟨w.heap.size + 1, 0, none⟩ (.slice none 0 0)).setCell ⟨w.heap.size + 1, 1, none⟩ (.slice A2 1 c2) = W5 := ⟨_, rfl⟩
      have B5 : Blk W5 (w.heap.size + 1) 43 #[.slice none 0 0, .slice A2 1 c2] := by
        have T := (H4.out.1.set_ 0 (.slice none 0 0)).set_ 1 (.slice A2 1 c2)
        simp only [List.setIfInBounds_toArray, List.set_cons_zero, List.set_cons_succ] at T
        exact hW5 ▸ T
      have b5 : Below w.heap.size w W5 := hW5 ▸ (H4.out.2.1.setCell (by simp) _).setCell (by simp) _
      have n2 : ∀ ad, A2 = some ad → 0 < 1 → ad.block ≠ w.heap.size + 1 := fun ad e _ hg => by
        obtain ⟨ad', u, e', _, hu, hc⟩ := H4.out.2.2.1.at_ (k := 0) (by omega)
        rw [e] at e'
        obtain rfl := Option.some.inj e'
        obtain rfl : _ = u := by simpa using hu
        rw [Addr.add_zero'] at hc
        obtain ⟨bl, off, sp⟩ := ad
        dsimp only at hg
        subst hg
        have hb := H4.out.1
        unfold Blk at hb
        unfold World.cell? at hc
        rw [hb] at hc
        rcases off with _ | _ | off <;> cases sp <;> simp at hc
      have n3 : ∀ ad, A' = some ad → 0 < 1 → ad.block ≠ w.heap.size + 1 := fun ad e _ hg => by
        obtain ⟨ad', v, e', _, hv, hc, _, _⟩ := H4.out.2.2.2.val (k := 0) (by omega)
        rw [e] at e'
        obtain rfl := Option.some.inj e'
        simp only [Nat.zero_mul, Addr.add_zero'] at hc
        obtain ⟨bl, off, sp⟩ := ad
        dsimp only at hg
        subst hg
        have hb := H4.out.1
        unfold Blk at hb
        unfold World.cell? at hc
        rw [hb] at hc
        rcases off with _ | _ | off <;> cases sp <;> simp at hc
      have r2 : Reads W5 W5.heap.size 1 A2 1 [.slice A' 1 c'] := hW5 ▸ (H4.out.2.2.1.sf n2 _).sf n2 _
      have r3 : Reads W5 W5.heap.size 3 A' 1 (vV [oneQ]) := hW5 ▸ (H4.out.2.2.2.sf n3 _).sf n3 _
      rw [hW5]
      clear hW5
      have p0 : W5.cell? ⟨w.heap.size + 1, 0, none⟩ = some (.slice none 0 0) := B5.cell 0
      have p1 : W5.cell? ⟨w.heap.size + 1, 1, none⟩ = some (.slice A2 1 c2) := B5.cell 1
      exact bodyPost_ret (v := .tuple #[.agg #[.slice none 0 0, .slice A2 1 c2], .int .i64 0]) (by simp [results, Tryz.results11, go_sem, p0, p1]) rfl ⟨A2, c2, A', c', rfl, r2, r3, b5⟩

end Go.Proofs.YthpggfcindnlcaaGreatDoor
