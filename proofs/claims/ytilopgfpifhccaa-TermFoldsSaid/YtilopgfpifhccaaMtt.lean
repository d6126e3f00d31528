/-
  Several texts in one: R18.
-/
import Derived.Test.YtilopgfpifhccaaMtm
import Derived.Test.YtilopgfpifhccaaMts
/-
  The reference's two.
-/
namespace Go.Proofs.Ytilopgfpifhccaa
section
set_option linter.unusedSimpArgs false
set_option linter.unusedVariables false
open Go.RowKit

theorem rtwo_end {W : World} {R : Nat} {tm : Array Value} {Q : Ending → World → Prop} {o : Option Vl} (hR : Blk W R 36 #[.int .u8 (o.getD zV).k, .int .i64 (o.getD zV).i, .string (o.getD zV).s, .bool o.isNone])
    (h4 : tm[6]? = some (.pointer (some ⟨R, 0, none⟩))) (h : Q (.returned (retR o)) W) :
    bodyPost Try.prog Try.f24 Q Exit.ret { tmps := tm, defers := [] } W := by
  have q0 : W.cell? ⟨R, 0, none⟩ = _ := hR.cell 0
  have q1 : W.cell? ⟨R, 1, none⟩ = _ := hR.cell 1
  have q2 : W.cell? ⟨R, 2, none⟩ = _ := hR.cell 2
  have q3 : W.cell? ⟨R, 3, none⟩ = _ := hR.cell 3
  exact bodyPost_ret (v := retR o) (by simp [results, Try.results24, go_sem, h4, q0, q1, q2, q3, retR]) rfl h

set_option maxRecDepth 100000 in
set_option maxHeartbeats 8000000 in
theorem rtwo_and (op : ByteArray) (a b : Option Vl) (w : World) (hop : op.toList = [65, 78, 68]) : Calls Try.prog 24 #[.string op, retR a, retR b] w (RetB w (retR (valT (andL [truO a, truO b])))) := by
  have e0 : (op.toList == [65, 78, 68]) = true := by rw [hop]; decide
  have e1 : (op.toList == [79, 82]) = false := by rw [hop]; decide
  have e2 : (op.toList == [43]) = false := by rw [hop]; decide
  have e3 : (op.toList == [45]) = false := by rw [hop]; decide
  have e4 : (op.toList == [42]) = false := by rw [hop]; decide
  have e5 : (op.toList == [61]) = false := by rw [hop]; decide
  have e6 : (op.toList == [60, 62]) = false := by rw [hop]; decide
  have e7 : (op.toList == [60]) = false := by rw [hop]; decide
  have e8 : (op.toList == [60, 61]) = false := by rw [hop]; decide
  have e9 : (op.toList == [62]) = false := by rw [hop]; decide
  have e10 : (op.toList == [62, 61]) = false := by rw [hop]; decide
  clear hop
  have HA := Lib.hid fun W => rtruth_any a W
  have HB := Lib.hid fun W => rtruth_any b W
  unfold retR at HA HB ⊢
  obtain ⟨h0a, h3a'⟩ := truO_bd a
  obtain ⟨h0b, h3b'⟩ := truO_bd b
  have h3a : ¬ 3 < truO a := by omega
  have h3b : ¬ 3 < truO b := by omega
  clear h3a' h3b'
  obtain ⟨x, hx⟩ : ∃ x, a.getD zV = x := ⟨_, rfl⟩
  obtain ⟨p, hp⟩ : ∃ p, a.isNone = p := ⟨_, rfl⟩
  obtain ⟨y, hy⟩ : ∃ y, b.getD zV = y := ⟨_, rfl⟩
  obtain ⟨r, hr⟩ : ∃ r, b.isNone = r := ⟨_, rfl⟩
  obtain ⟨ta, hta⟩ : ∃ t, truO a = t := ⟨_, rfl⟩
  obtain ⟨tb, htb⟩ : ∃ t, truO b = t := ⟨_, rfl⟩
  rw [hx, hp, hta] at HA
  rw [hy, hr, htb] at HB
  rw [hta] at h0a h3a
  rw [htb] at h0b h3b
  rw [hx, hp, hy, hr, hta, htb]
  have H3 := Lib.hid fun W => rvalue_any (andL [ta, tb]) W
  show Calls _ _ _ _ (RetB w (retR (valT (andL [ta, tb]))))
  obtain ⟨q, hq⟩ : ∃ q, valT (andL [ta, tb]) = q := ⟨_, rfl⟩
  rw [hq] at H3 ⊢
  clear hx hp hy hr hta htb hq
  obtain ⟨xk, xi, xs⟩ := x
  obtain ⟨yk, yi, ys⟩ := y
  simp only [rV] at HA HB ⊢
  obtain ⟨W0, hW0⟩ : ∃ W0, (((w.alloc (.cells #[.int .u8 xk, .int .i64 xi, .string xs, .bool p] 36)).alloc (.cells #[.int .u8 yk, .int .i64 yi, .string ys, .bool r] 36)).alloc (.cells #[.int .u8 0, .int .i64 0, .string ⟨#[]⟩, .bool false] 36)) = W0 := ⟨_, rfl⟩
  have hbw0 : Below w.heap.size w W0 := by rw [← hW0]; exact ball (ball (ball (Below.refl _ _) _) _) _
  have hBX : Blk W0 w.heap.size 36 #[.int .u8 xk, .int .i64 xi, .string xs, .bool p] := by rw [← hW0]; exact Blk.alloc (Blk.alloc (Blk.new _ _ _) _) _
  have hBY : Blk W0 (w.heap.size + 1) 36 #[.int .u8 yk, .int .i64 yi, .string ys, .bool r] := by rw [← hW0]; exact Blk.alloc (Blk.newAt (by simp)) _
  have hBR : Blk W0 (w.heap.size + 1 + 1) 36 #[.int .u8 0, .int .i64 0, .string ⟨#[]⟩, .bool false] := by rw [← hW0]; exact Blk.newAt (by simp)
  have hS : Hid (∀ W, Below W0.heap.size W0 W → W.cell? ⟨w.heap.size, 0, none⟩ = some (.int .u8 xk) ∧ W.cell? ⟨w.heap.size, 1, none⟩ = some (.int .i64 xi) ∧ W.cell? ⟨w.heap.size, 2, none⟩ = some (.string xs) ∧ W.cell? ⟨w.heap.size, 3, none⟩ = some (.bool p) ∧ W.cell? ⟨w.heap.size + 1, 0, none⟩ = some (.int .u8 yk) ∧ W.cell? ⟨w.heap.size + 1, 1, none⟩ = some (.int .i64 yi) ∧ W.cell? ⟨w.heap.size + 1, 2, none⟩ = some (.string ys) ∧ W.cell? ⟨w.heap.size + 1, 3, none⟩ = some (.bool r) ∧ Below W0.heap.size W0 W) := Lib.hid fun W hW => ⟨(hW.cell (p := ⟨w.heap.size, 0, none⟩) hBX.lt).trans (hBX.cell 0), (hW.cell (p := ⟨w.heap.size, 1, none⟩) hBX.lt).trans (hBX.cell 1), (hW.cell (p := ⟨w.heap.size, 2, none⟩) hBX.lt).trans (hBX.cell 2), (hW.cell (p := ⟨w.heap.size, 3, none⟩) hBX.lt).trans (hBX.cell 3), (hW.cell (p := ⟨w.heap.size + 1, 0, none⟩) hBY.lt).trans (hBY.cell 0), (hW.cell (p := ⟨w.heap.size + 1, 1, none⟩) hBY.lt).trans (hBY.cell 1), (hW.cell (p := ⟨w.heap.size + 1, 2, none⟩) hBY.lt).trans (hBY.cell 2), (hW.cell (p := ⟨w.heap.size + 1, 3, none⟩) hBY.lt).trans (hBY.cell 3), hW⟩
  go_enter Try.func24, Try.ntmps24
  go_wp2_with fail
  try rw [hW0]
  clear hW0
  go_region_held3 (fun W => W.cell? ⟨w.heap.size, 0, none⟩ = some (.int .u8 xk) ∧ W.cell? ⟨w.heap.size, 1, none⟩ = some (.int .i64 xi) ∧ W.cell? ⟨w.heap.size, 2, none⟩ = some (.string xs) ∧ W.cell? ⟨w.heap.size, 3, none⟩ = some (.bool p) ∧ W.cell? ⟨w.heap.size + 1, 0, none⟩ = some (.int .u8 yk) ∧ W.cell? ⟨w.heap.size + 1, 1, none⟩ = some (.int .i64 yi) ∧ W.cell? ⟨w.heap.size + 1, 2, none⟩ = some (.string ys) ∧ W.cell? ⟨w.heap.size + 1, 3, none⟩ = some (.bool r) ∧ Below W0.heap.size W0 W)
    (first | exact hS.out _ (by (with_reducible repeat (first | exact Below.refl _ _ | assumption | refine bto0 ?_ (by assumption) | refine ball ?_ _ | refine bdr ?_ _ | refine Below.drew ?_))) | assumption)
    (first | (go_at_call 13; first | ((with_reducible refine (HA.out _).mono ?_); rintro e w1 ⟨rfl, hb1⟩) | ((with_reducible refine (HB.out _).mono ?_); rintro e w2 ⟨rfl, hb2⟩)))
  have hbA : Below W0.heap.size W0 w2 := by with_reducible repeat (first | exact Below.refl _ _ | exact hb2 | exact hb1 | refine bto0 ?_ hb2 | refine bto0 ?_ hb1 | refine bdr ?_ _ | refine Below.drew ?_)
  have hbw2 : Below w.heap.size w w2 := bto0 hbw0 hbA
  have hX2 := blkUp hbA hBX
  have hY2 := blkUp hbA hBY
  have hR2 := blkUp hbA hBR
  have hRd : Reads (w2.alloc (.cells #[.int .i64 ta, .int .i64 tb] 3)) (w2.alloc (.cells #[.int .i64 ta, .int .i64 tb] 3)).heap.size 1 (some ⟨w2.heap.size, 0, none⟩) 2 (vI64 ([ta, tb].map kn)) := by
    refine reads_of_blk (Blk.new w2 3 _) ?_ (by simp [vI64])
    simp [vI64, kn]
    omega
  have HL := Lib.hid (rand_told _ 2 2 [ta, tb] (by simp [h0a, h0b]) _ _ hRd (by omega))
  clear hRd hX2 hY2 hS HA HB hBX hBY hBR hb1 hb2
  go_wp2_with fail
  refine HL.out.mono ?_
  rintro e w3 ⟨rfl, rfl⟩
  go_wp2_with fail
  refine (H3.out _).mono ?_
  rintro e w4 ⟨rfl, hb4⟩
  have hbw : Below w.heap.size w w4 := bto0 (ball hbw2 _) hb4
  have hB : Blk w4 (w.heap.size + 1 + 1) 36 #[.int .u8 0, .int .i64 0, .string ⟨#[]⟩, .bool false] := blkUp hb4 (Blk.alloc hR2 _)
  have hB_0 : (w4).cell? ⟨w.heap.size + 1 + 1, 0, none⟩ = some (.int .u8 0) := hB.cell 0
  have hB_1 : (w4).cell? ⟨w.heap.size + 1 + 1, 1, none⟩ = some (.int .i64 0) := hB.cell 1
  have hB_2 : (w4).cell? ⟨w.heap.size + 1 + 1, 2, none⟩ = some (.string ⟨#[]⟩) := hB.cell 2
  have hB_3 : (w4).cell? ⟨w.heap.size + 1 + 1, 3, none⟩ = some (.bool false) := hB.cell 3
  have hz := hB.lt
  have f0 := hB.frozen 0
  have f1 := hB.frozen 1
  have f2 := hB.frozen 2
  have f3 := hB.frozen 3
  cases q with
  | none =>
    simp only [retR, rV, Option.getD, Option.isNone, zV]
    go_wp2_with fail
    exact rtwo_end (R := w.heap.size + 1 + 1) (o := none) (by (with_reducible repeat (first | refine Blk.alloc ?_ _ | refine Blk.drew ?_ | refine Blk.drewN ?_ _)); exact blk4 hB) (by simp) ⟨rfl, by with_reducible repeat (first | exact Below.refl _ _ | exact hbw | refine ball ?_ _ | refine bset ?_ (by first | exact Nat.le_add_right _ _ | exact Nat.le_refl _ | (simp; omega)) _ | refine bdr ?_ _ | refine Below.drew ?_)⟩
  | some u =>
    obtain ⟨uk, ui, us⟩ := u
    simp only [retR, rV, Option.getD, Option.isNone]
    go_wp2_with fail
    exact rtwo_end (R := w.heap.size + 1 + 1) (o := (some ⟨uk, ui, us⟩)) (by (with_reducible repeat (first | refine Blk.alloc ?_ _ | refine Blk.drew ?_ | refine Blk.drewN ?_ _)); exact blk4 hB) (by simp) ⟨rfl, by with_reducible repeat (first | exact Below.refl _ _ | exact hbw | refine ball ?_ _ | refine bset ?_ (by first | exact Nat.le_add_right _ _ | exact Nat.le_refl _ | (simp; omega)) _ | refine bdr ?_ _ | refine Below.drew ?_)⟩

set_option maxRecDepth 100000 in
set_option maxHeartbeats 8000000 in
theorem rtwo_or (op : ByteArray) (a b : Option Vl) (w : World) (hop : op.toList = [79, 82]) : Calls Try.prog 24 #[.string op, retR a, retR b] w (RetB w (retR (valT (orL [truO a, truO b])))) := by
  have e0 : (op.toList == [65, 78, 68]) = false := by rw [hop]; decide
  have e1 : (op.toList == [79, 82]) = true := by rw [hop]; decide
  have e2 : (op.toList == [43]) = false := by rw [hop]; decide
  have e3 : (op.toList == [45]) = false := by rw [hop]; decide
  have e4 : (op.toList == [42]) = false := by rw [hop]; decide
  have e5 : (op.toList == [61]) = false := by rw [hop]; decide
  have e6 : (op.toList == [60, 62]) = false := by rw [hop]; decide
  have e7 : (op.toList == [60]) = false := by rw [hop]; decide
  have e8 : (op.toList == [60, 61]) = false := by rw [hop]; decide
  have e9 : (op.toList == [62]) = false := by rw [hop]; decide
  have e10 : (op.toList == [62, 61]) = false := by rw [hop]; decide
  clear hop
  have HA := Lib.hid fun W => rtruth_any a W
  have HB := Lib.hid fun W => rtruth_any b W
  unfold retR at HA HB ⊢
  obtain ⟨h0a, h3a'⟩ := truO_bd a
  obtain ⟨h0b, h3b'⟩ := truO_bd b
  have h3a : ¬ 3 < truO a := by omega
  have h3b : ¬ 3 < truO b := by omega
  clear h3a' h3b'
  obtain ⟨x, hx⟩ : ∃ x, a.getD zV = x := ⟨_, rfl⟩
  obtain ⟨p, hp⟩ : ∃ p, a.isNone = p := ⟨_, rfl⟩
  obtain ⟨y, hy⟩ : ∃ y, b.getD zV = y := ⟨_, rfl⟩
  obtain ⟨r, hr⟩ : ∃ r, b.isNone = r := ⟨_, rfl⟩
  obtain ⟨ta, hta⟩ : ∃ t, truO a = t := ⟨_, rfl⟩
  obtain ⟨tb, htb⟩ : ∃ t, truO b = t := ⟨_, rfl⟩
  rw [hx, hp, hta] at HA
  rw [hy, hr, htb] at HB
  rw [hta] at h0a h3a
  rw [htb] at h0b h3b
  rw [hx, hp, hy, hr, hta, htb]
  have H3 := Lib.hid fun W => rvalue_any (orL [ta, tb]) W
  show Calls _ _ _ _ (RetB w (retR (valT (orL [ta, tb]))))
  obtain ⟨q, hq⟩ : ∃ q, valT (orL [ta, tb]) = q := ⟨_, rfl⟩
  rw [hq] at H3 ⊢
  clear hx hp hy hr hta htb hq
  obtain ⟨xk, xi, xs⟩ := x
  obtain ⟨yk, yi, ys⟩ := y
  simp only [rV] at HA HB ⊢
  obtain ⟨W0, hW0⟩ : ∃ W0, (((w.alloc (.cells #[.int .u8 xk, .int .i64 xi, .string xs, .bool p] 36)).alloc (.cells #[.int .u8 yk, .int .i64 yi, .string ys, .bool r] 36)).alloc (.cells #[.int .u8 0, .int .i64 0, .string ⟨#[]⟩, .bool false] 36)) = W0 := ⟨_, rfl⟩
  have hbw0 : Below w.heap.size w W0 := by rw [← hW0]; exact ball (ball (ball (Below.refl _ _) _) _) _
  have hBX : Blk W0 w.heap.size 36 #[.int .u8 xk, .int .i64 xi, .string xs, .bool p] := by rw [← hW0]; exact Blk.alloc (Blk.alloc (Blk.new _ _ _) _) _
  have hBY : Blk W0 (w.heap.size + 1) 36 #[.int .u8 yk, .int .i64 yi, .string ys, .bool r] := by rw [← hW0]; exact Blk.alloc (Blk.newAt (by simp)) _
  have hBR : Blk W0 (w.heap.size + 1 + 1) 36 #[.int .u8 0, .int .i64 0, .string ⟨#[]⟩, .bool false] := by rw [← hW0]; exact Blk.newAt (by simp)
  have hS : Hid (∀ W, Below W0.heap.size W0 W → W.cell? ⟨w.heap.size, 0, none⟩ = some (.int .u8 xk) ∧ W.cell? ⟨w.heap.size, 1, none⟩ = some (.int .i64 xi) ∧ W.cell? ⟨w.heap.size, 2, none⟩ = some (.string xs) ∧ W.cell? ⟨w.heap.size, 3, none⟩ = some (.bool p) ∧ W.cell? ⟨w.heap.size + 1, 0, none⟩ = some (.int .u8 yk) ∧ W.cell? ⟨w.heap.size + 1, 1, none⟩ = some (.int .i64 yi) ∧ W.cell? ⟨w.heap.size + 1, 2, none⟩ = some (.string ys) ∧ W.cell? ⟨w.heap.size + 1, 3, none⟩ = some (.bool r) ∧ Below W0.heap.size W0 W) := Lib.hid fun W hW => ⟨(hW.cell (p := ⟨w.heap.size, 0, none⟩) hBX.lt).trans (hBX.cell 0), (hW.cell (p := ⟨w.heap.size, 1, none⟩) hBX.lt).trans (hBX.cell 1), (hW.cell (p := ⟨w.heap.size, 2, none⟩) hBX.lt).trans (hBX.cell 2), (hW.cell (p := ⟨w.heap.size, 3, none⟩) hBX.lt).trans (hBX.cell 3), (hW.cell (p := ⟨w.heap.size + 1, 0, none⟩) hBY.lt).trans (hBY.cell 0), (hW.cell (p := ⟨w.heap.size + 1, 1, none⟩) hBY.lt).trans (hBY.cell 1), (hW.cell (p := ⟨w.heap.size + 1, 2, none⟩) hBY.lt).trans (hBY.cell 2), (hW.cell (p := ⟨w.heap.size + 1, 3, none⟩) hBY.lt).trans (hBY.cell 3), hW⟩
  go_enter Try.func24, Try.ntmps24
  go_wp2_with fail
  try rw [hW0]
  clear hW0
  go_region_held3 (fun W => W.cell? ⟨w.heap.size, 0, none⟩ = some (.int .u8 xk) ∧ W.cell? ⟨w.heap.size, 1, none⟩ = some (.int .i64 xi) ∧ W.cell? ⟨w.heap.size, 2, none⟩ = some (.string xs) ∧ W.cell? ⟨w.heap.size, 3, none⟩ = some (.bool p) ∧ W.cell? ⟨w.heap.size + 1, 0, none⟩ = some (.int .u8 yk) ∧ W.cell? ⟨w.heap.size + 1, 1, none⟩ = some (.int .i64 yi) ∧ W.cell? ⟨w.heap.size + 1, 2, none⟩ = some (.string ys) ∧ W.cell? ⟨w.heap.size + 1, 3, none⟩ = some (.bool r) ∧ Below W0.heap.size W0 W)
    (first | exact hS.out _ (by (with_reducible repeat (first | exact Below.refl _ _ | assumption | refine bto0 ?_ (by assumption) | refine ball ?_ _ | refine bdr ?_ _ | refine Below.drew ?_))) | assumption)
    (first | (go_at_call 13; first | ((with_reducible refine (HA.out _).mono ?_); rintro e w1 ⟨rfl, hb1⟩) | ((with_reducible refine (HB.out _).mono ?_); rintro e w2 ⟨rfl, hb2⟩)))
  have hbA : Below W0.heap.size W0 w2 := by with_reducible repeat (first | exact Below.refl _ _ | exact hb2 | exact hb1 | refine bto0 ?_ hb2 | refine bto0 ?_ hb1 | refine bdr ?_ _ | refine Below.drew ?_)
  have hbw2 : Below w.heap.size w w2 := bto0 hbw0 hbA
  have hX2 := blkUp hbA hBX
  have hY2 := blkUp hbA hBY
  have hR2 := blkUp hbA hBR
  have hRd : Reads (w2.alloc (.cells #[.int .i64 ta, .int .i64 tb] 3)) (w2.alloc (.cells #[.int .i64 ta, .int .i64 tb] 3)).heap.size 1 (some ⟨w2.heap.size, 0, none⟩) 2 (vI64 ([ta, tb].map kn)) := by
    refine reads_of_blk (Blk.new w2 3 _) ?_ (by simp [vI64])
    simp [vI64, kn]
    omega
  have HL := Lib.hid (ror_told _ 2 2 [ta, tb] (by simp [h0a, h0b]) _ _ hRd (by omega))
  clear hRd hX2 hY2 hS HA HB hBX hBY hBR hb1 hb2
  go_wp2_with fail
  refine HL.out.mono ?_
  rintro e w3 ⟨rfl, rfl⟩
  go_wp2_with fail
  refine (H3.out _).mono ?_
  rintro e w4 ⟨rfl, hb4⟩
  have hbw : Below w.heap.size w w4 := bto0 (ball hbw2 _) hb4
  have hB : Blk w4 (w.heap.size + 1 + 1) 36 #[.int .u8 0, .int .i64 0, .string ⟨#[]⟩, .bool false] := blkUp hb4 (Blk.alloc hR2 _)
  have hB_0 : (w4).cell? ⟨w.heap.size + 1 + 1, 0, none⟩ = some (.int .u8 0) := hB.cell 0
  have hB_1 : (w4).cell? ⟨w.heap.size + 1 + 1, 1, none⟩ = some (.int .i64 0) := hB.cell 1
  have hB_2 : (w4).cell? ⟨w.heap.size + 1 + 1, 2, none⟩ = some (.string ⟨#[]⟩) := hB.cell 2
  have hB_3 : (w4).cell? ⟨w.heap.size + 1 + 1, 3, none⟩ = some (.bool false) := hB.cell 3
  have hz := hB.lt
  have f0 := hB.frozen 0
  have f1 := hB.frozen 1
  have f2 := hB.frozen 2
  have f3 := hB.frozen 3
  cases q with
  | none =>
    simp only [retR, rV, Option.getD, Option.isNone, zV]
    go_wp2_with fail
    exact rtwo_end (R := w.heap.size + 1 + 1) (o := none) (by (with_reducible repeat (first | refine Blk.alloc ?_ _ | refine Blk.drew ?_ | refine Blk.drewN ?_ _)); exact blk4 hB) (by simp) ⟨rfl, by with_reducible repeat (first | exact Below.refl _ _ | exact hbw | refine ball ?_ _ | refine bset ?_ (by first | exact Nat.le_add_right _ _ | exact Nat.le_refl _ | (simp; omega)) _ | refine bdr ?_ _ | refine Below.drew ?_)⟩
  | some u =>
    obtain ⟨uk, ui, us⟩ := u
    simp only [retR, rV, Option.getD, Option.isNone]
    go_wp2_with fail
    exact rtwo_end (R := w.heap.size + 1 + 1) (o := (some ⟨uk, ui, us⟩)) (by (with_reducible repeat (first | refine Blk.alloc ?_ _ | refine Blk.drew ?_ | refine Blk.drewN ?_ _)); exact blk4 hB) (by simp) ⟨rfl, by with_reducible repeat (first | exact Below.refl _ _ | exact hbw | refine ball ?_ _ | refine bset ?_ (by first | exact Nat.le_add_right _ _ | exact Nat.le_refl _ | (simp; omega)) _ | refine bdr ?_ _ | refine Below.drew ?_)⟩

theorem getD_ok {o : Option Vl} (h : okO o) : (o.getD zV).ok := by
  cases o with
  | none => exact okV_zero.1
  | some v => exact (h v rfl).1
theorem num_eq (op : List UInt8) (a b : Option Vl) (x y : Vl) (p r : Bool) (hx : a.getD zV = x) (hp : a.isNone = p) (hy : b.getD zV = y) (hr : b.isNone = r) : (if ((doV op x y).2 && !p && !r) = true then some (doV op x y).1 else none) = numO op a b := by
  subst hx hp hy hr
  cases a <;> cases b <;> simp [numO, doO]
set_option maxRecDepth 100000 in
set_option maxHeartbeats 8000000 in
theorem rtwo_plus (op : ByteArray) (a b : Option Vl) (w : World) (hop : op.toList = [43]) (hoa : okO a) (hob : okO b) : Calls Try.prog 24 #[.string op, retR a, retR b] w (RetB w (retR (numO op.toList a b))) := by
  have HD := Lib.hid fun W => rdo_any op (a.getD zV) (b.getD zV) (getD_ok hoa) (getD_ok hob) W
  have e0 : (op.toList == [65, 78, 68]) = false := by rw [hop]; decide
  have e1 : (op.toList == [79, 82]) = false := by rw [hop]; decide
  have e2 : (op.toList == [43]) = true := by rw [hop]; decide
  have e3 : (op.toList == [45]) = false := by rw [hop]; decide
  have e4 : (op.toList == [42]) = false := by rw [hop]; decide
  have e5 : (op.toList == [61]) = false := by rw [hop]; decide
  have e6 : (op.toList == [60, 62]) = false := by rw [hop]; decide
  have e7 : (op.toList == [60]) = false := by rw [hop]; decide
  have e8 : (op.toList == [60, 61]) = false := by rw [hop]; decide
  have e9 : (op.toList == [62]) = false := by rw [hop]; decide
  have e10 : (op.toList == [62, 61]) = false := by rw [hop]; decide
  clear hop
  have HA := Lib.hid fun W => rtruth_any a W
  have HB := Lib.hid fun W => rtruth_any b W
  unfold retR at HA HB ⊢
  obtain ⟨h0a, h3a'⟩ := truO_bd a
  obtain ⟨h0b, h3b'⟩ := truO_bd b
  have h3a : ¬ 3 < truO a := by omega
  have h3b : ¬ 3 < truO b := by omega
  clear h3a' h3b'
  obtain ⟨x, hx⟩ : ∃ x, a.getD zV = x := ⟨_, rfl⟩
  obtain ⟨p, hp⟩ : ∃ p, a.isNone = p := ⟨_, rfl⟩
  obtain ⟨y, hy⟩ : ∃ y, b.getD zV = y := ⟨_, rfl⟩
  obtain ⟨r, hr⟩ : ∃ r, b.isNone = r := ⟨_, rfl⟩
  obtain ⟨ta, hta⟩ : ∃ t, truO a = t := ⟨_, rfl⟩
  obtain ⟨tb, htb⟩ : ∃ t, truO b = t := ⟨_, rfl⟩
  rw [hx, hp, hta] at HA
  rw [hy, hr, htb] at HB
  rw [hta] at h0a h3a
  rw [htb] at h0b h3b
  rw [hx, hp, hy, hr]
  rw [hx, hy] at HD
  show Calls _ _ _ _ (RetB w (retR (numO op.toList a b)))
  have hne := num_eq op.toList a b x y p r hx hp hy hr
  have HS := Lib.hid fun (Z : Bool) W => rsure_any (doV op.toList x y).1 Z W
  obtain ⟨D, hD⟩ : ∃ D, doV op.toList x y = D := ⟨_, rfl⟩
  rw [hD] at HD HS hne
  obtain ⟨d1, d2⟩ := D
  obtain ⟨dk, di, ds⟩ := d1
  simp only at HD HS hne
  obtain ⟨q, hq⟩ : ∃ q, numO op.toList a b = q := ⟨_, rfl⟩
  rw [hq] at hne ⊢
  clear hx hp hy hr hta htb hq hD hoa hob
  obtain ⟨xk, xi, xs⟩ := x
  obtain ⟨yk, yi, ys⟩ := y
  simp only [rV] at HA HB ⊢
  obtain ⟨W0, hW0⟩ : ∃ W0, (((w.alloc (.cells #[.int .u8 xk, .int .i64 xi, .string xs, .bool p] 36)).alloc (.cells #[.int .u8 yk, .int .i64 yi, .string ys, .bool r] 36)).alloc (.cells #[.int .u8 0, .int .i64 0, .string ⟨#[]⟩, .bool false] 36)) = W0 := ⟨_, rfl⟩
  have hbw0 : Below w.heap.size w W0 := by rw [← hW0]; exact ball (ball (ball (Below.refl _ _) _) _) _
  have hBX : Blk W0 w.heap.size 36 #[.int .u8 xk, .int .i64 xi, .string xs, .bool p] := by rw [← hW0]; exact Blk.alloc (Blk.alloc (Blk.new _ _ _) _) _
  have hBY : Blk W0 (w.heap.size + 1) 36 #[.int .u8 yk, .int .i64 yi, .string ys, .bool r] := by rw [← hW0]; exact Blk.alloc (Blk.newAt (by simp)) _
  have hBR : Blk W0 (w.heap.size + 1 + 1) 36 #[.int .u8 0, .int .i64 0, .string ⟨#[]⟩, .bool false] := by rw [← hW0]; exact Blk.newAt (by simp)
  have hS : Hid (∀ W, Below W0.heap.size W0 W → W.cell? ⟨w.heap.size, 0, none⟩ = some (.int .u8 xk) ∧ W.cell? ⟨w.heap.size, 1, none⟩ = some (.int .i64 xi) ∧ W.cell? ⟨w.heap.size, 2, none⟩ = some (.string xs) ∧ W.cell? ⟨w.heap.size, 3, none⟩ = some (.bool p) ∧ W.cell? ⟨w.heap.size + 1, 0, none⟩ = some (.int .u8 yk) ∧ W.cell? ⟨w.heap.size + 1, 1, none⟩ = some (.int .i64 yi) ∧ W.cell? ⟨w.heap.size + 1, 2, none⟩ = some (.string ys) ∧ W.cell? ⟨w.heap.size + 1, 3, none⟩ = some (.bool r) ∧ Below W0.heap.size W0 W) := Lib.hid fun W hW => ⟨(hW.cell (p := ⟨w.heap.size, 0, none⟩) hBX.lt).trans (hBX.cell 0), (hW.cell (p := ⟨w.heap.size, 1, none⟩) hBX.lt).trans (hBX.cell 1), (hW.cell (p := ⟨w.heap.size, 2, none⟩) hBX.lt).trans (hBX.cell 2), (hW.cell (p := ⟨w.heap.size, 3, none⟩) hBX.lt).trans (hBX.cell 3), (hW.cell (p := ⟨w.heap.size + 1, 0, none⟩) hBY.lt).trans (hBY.cell 0), (hW.cell (p := ⟨w.heap.size + 1, 1, none⟩) hBY.lt).trans (hBY.cell 1), (hW.cell (p := ⟨w.heap.size + 1, 2, none⟩) hBY.lt).trans (hBY.cell 2), (hW.cell (p := ⟨w.heap.size + 1, 3, none⟩) hBY.lt).trans (hBY.cell 3), hW⟩
  go_enter Try.func24, Try.ntmps24
  go_wp2_with fail
  try rw [hW0]
  clear hW0
  go_region_held3 (fun W => W.cell? ⟨w.heap.size, 0, none⟩ = some (.int .u8 xk) ∧ W.cell? ⟨w.heap.size, 1, none⟩ = some (.int .i64 xi) ∧ W.cell? ⟨w.heap.size, 2, none⟩ = some (.string xs) ∧ W.cell? ⟨w.heap.size, 3, none⟩ = some (.bool p) ∧ W.cell? ⟨w.heap.size + 1, 0, none⟩ = some (.int .u8 yk) ∧ W.cell? ⟨w.heap.size + 1, 1, none⟩ = some (.int .i64 yi) ∧ W.cell? ⟨w.heap.size + 1, 2, none⟩ = some (.string ys) ∧ W.cell? ⟨w.heap.size + 1, 3, none⟩ = some (.bool r) ∧ Below W0.heap.size W0 W)
    (first | exact hS.out _ (by (with_reducible repeat (first | exact Below.refl _ _ | assumption | refine bto0 ?_ (by assumption) | refine ball ?_ _ | refine bdr ?_ _ | refine Below.drew ?_))) | assumption)
    (first | (go_at_call 13; first | ((with_reducible refine (HA.out _).mono ?_); rintro e w1 ⟨rfl, hb1⟩) | ((with_reducible refine (HB.out _).mono ?_); rintro e w2 ⟨rfl, hb2⟩)))
  have hbA : Below W0.heap.size W0 w2 := by with_reducible repeat (first | exact Below.refl _ _ | exact hb2 | exact hb1 | refine bto0 ?_ hb2 | refine bto0 ?_ hb1 | refine bdr ?_ _ | refine Below.drew ?_)
  have hbw2 : Below w.heap.size w w2 := bto0 hbw0 hbA
  have hX2 := blkUp hbA hBX
  have hY2 := blkUp hbA hBY
  have hR2 := blkUp hbA hBR
  have hRd : Reads (w2.alloc (.cells #[.int .i64 ta, .int .i64 tb] 3)) (w2.alloc (.cells #[.int .i64 ta, .int .i64 tb] 3)).heap.size 1 (some ⟨w2.heap.size, 0, none⟩) 2 (vI64 ([ta, tb].map kn)) := by
    refine reads_of_blk (Blk.new w2 3 _) ?_ (by simp [vI64])
    simp [vI64, kn]
    omega
  clear hRd hS HA HB hBX hBY hBR hb1 hb2
  have hb5 : Below w.heap.size w (w2.alloc (.cells #[.int .i64 ta, .int .i64 tb] 3)) := ball hbw2 _
  obtain ⟨W2, hW2⟩ : ∃ W2, w2.alloc (.cells #[.int .i64 ta, .int .i64 tb] 3) = W2 := ⟨_, rfl⟩
  have hX3 : Blk W2 w.heap.size 36 #[.int .u8 xk, .int .i64 xi, .string xs, .bool p] := by rw [← hW2]; exact Blk.alloc hX2 _
  have hY3 : Blk W2 (w.heap.size + 1) 36 #[.int .u8 yk, .int .i64 yi, .string ys, .bool r] := by rw [← hW2]; exact Blk.alloc hY2 _
  have hR3 : Blk W2 (w.heap.size + 1 + 1) 36 #[.int .u8 0, .int .i64 0, .string ⟨#[]⟩, .bool false] := by rw [← hW2]; exact Blk.alloc hR2 _
  rw [hW2] at hb5
  try rw [hW2]
  clear hW2 hX2 hY2 hR2
  have hX3_0 : (W2).cell? ⟨w.heap.size, 0, none⟩ = some (.int .u8 xk) := hX3.cell 0
  have hX3_1 : (W2).cell? ⟨w.heap.size, 1, none⟩ = some (.int .i64 xi) := hX3.cell 1
  have hX3_2 : (W2).cell? ⟨w.heap.size, 2, none⟩ = some (.string xs) := hX3.cell 2
  have hX3_3 : (W2).cell? ⟨w.heap.size, 3, none⟩ = some (.bool p) := hX3.cell 3
  have hY3_0 : (W2).cell? ⟨w.heap.size + 1, 0, none⟩ = some (.int .u8 yk) := hY3.cell 0
  have hY3_1 : (W2).cell? ⟨w.heap.size + 1, 1, none⟩ = some (.int .i64 yi) := hY3.cell 1
  have hY3_2 : (W2).cell? ⟨w.heap.size + 1, 2, none⟩ = some (.string ys) := hY3.cell 2
  have hY3_3 : (W2).cell? ⟨w.heap.size + 1, 3, none⟩ = some (.bool r) := hY3.cell 3
  go_wp2_with fail
  refine (HD.out _).mono ?_
  rintro e w3 ⟨rfl, hb3⟩
  have hX4 := hX3.below hb3 hX3.lt
  have hY4 := hY3.below hb3 hY3.lt
  have hR4 := hR3.below hb3 hR3.lt
  have hX4_0 : (w3).cell? ⟨w.heap.size, 0, none⟩ = some (.int .u8 xk) := hX4.cell 0
  have hX4_1 : (w3).cell? ⟨w.heap.size, 1, none⟩ = some (.int .i64 xi) := hX4.cell 1
  have hX4_2 : (w3).cell? ⟨w.heap.size, 2, none⟩ = some (.string xs) := hX4.cell 2
  have hX4_3 : (w3).cell? ⟨w.heap.size, 3, none⟩ = some (.bool p) := hX4.cell 3
  have hY4_0 : (w3).cell? ⟨w.heap.size + 1, 0, none⟩ = some (.int .u8 yk) := hY4.cell 0
  have hY4_1 : (w3).cell? ⟨w.heap.size + 1, 1, none⟩ = some (.int .i64 yi) := hY4.cell 1
  have hY4_2 : (w3).cell? ⟨w.heap.size + 1, 2, none⟩ = some (.string ys) := hY4.cell 2
  have hY4_3 : (w3).cell? ⟨w.heap.size + 1, 3, none⟩ = some (.bool r) := hY4.cell 3
  have l1 := hX4.lt
  have l2 := hY4.lt
  cases d2 <;> cases p <;> cases r
  all_goals
    simp only [Bool.and_true, Bool.true_and, Bool.and_false, Bool.false_and, Bool.not_true, Bool.not_false, if_true, if_false, Bool.false_eq_true, reduceIte] at hne
    subst hne
    go_wp2_with fail
    refine (HS.out _ _).mono ?_
    rintro e w4 ⟨rfl, hb4⟩
    have hbw : Below w.heap.size w w4 := bto0 (ball (bto0 hb5 hb3) _) hb4
    have hB : Blk w4 (w.heap.size + 1 + 1) 36 #[.int .u8 0, .int .i64 0, .string ⟨#[]⟩, .bool false] := blkUp hb4 (Blk.alloc hR4 _)
    have hB_0 : (w4).cell? ⟨w.heap.size + 1 + 1, 0, none⟩ = some (.int .u8 0) := hB.cell 0
    have hB_1 : (w4).cell? ⟨w.heap.size + 1 + 1, 1, none⟩ = some (.int .i64 0) := hB.cell 1
    have hB_2 : (w4).cell? ⟨w.heap.size + 1 + 1, 2, none⟩ = some (.string ⟨#[]⟩) := hB.cell 2
    have hB_3 : (w4).cell? ⟨w.heap.size + 1 + 1, 3, none⟩ = some (.bool false) := hB.cell 3
    have hz := hB.lt
    have f0 := hB.frozen 0
    have f1 := hB.frozen 1
    have f2 := hB.frozen 2
    have f3 := hB.frozen 3
    simp only [retR, rV, if_true, if_false, Bool.false_eq_true, reduceIte, Option.getD, Option.isNone, zV]
    go_wp2_with fail
    first
      | exact rtwo_end (R := w.heap.size + 1 + 1) (o := none) (by (with_reducible repeat (first | refine Blk.alloc ?_ _ | refine Blk.drew ?_ | refine Blk.drewN ?_ _)); exact blk4 hB) (by simp) ⟨rfl, by with_reducible repeat (first | exact Below.refl _ _ | exact hbw | refine ball ?_ _ | refine bset ?_ (by first | exact Nat.le_add_right _ _ | exact Nat.le_refl _ | (simp; omega)) _ | refine bdr ?_ _ | refine Below.drew ?_)⟩
      | exact rtwo_end (R := w.heap.size + 1 + 1) (o := (some ⟨dk, di, ds⟩)) (by (with_reducible repeat (first | refine Blk.alloc ?_ _ | refine Blk.drew ?_ | refine Blk.drewN ?_ _)); exact blk4 hB) (by simp) ⟨rfl, by with_reducible repeat (first | exact Below.refl _ _ | exact hbw | refine ball ?_ _ | refine bset ?_ (by first | exact Nat.le_add_right _ _ | exact Nat.le_refl _ | (simp; omega)) _ | refine bdr ?_ _ | refine Below.drew ?_)⟩

set_option maxRecDepth 100000 in
set_option maxHeartbeats 8000000 in
theorem rtwo_minus (op : ByteArray) (a b : Option Vl) (w : World) (hop : op.toList = [45]) (hoa : okO a) (hob : okO b) : Calls Try.prog 24 #[.string op, retR a, retR b] w (RetB w (retR (numO op.toList a b))) := by
  have HD := Lib.hid fun W => rdo_any op (a.getD zV) (b.getD zV) (getD_ok hoa) (getD_ok hob) W
  have e0 : (op.toList == [65, 78, 68]) = false := by rw [hop]; decide
  have e1 : (op.toList == [79, 82]) = false := by rw [hop]; decide
  have e2 : (op.toList == [43]) = false := by rw [hop]; decide
  have e3 : (op.toList == [45]) = true := by rw [hop]; decide
  have e4 : (op.toList == [42]) = false := by rw [hop]; decide
  have e5 : (op.toList == [61]) = false := by rw [hop]; decide
  have e6 : (op.toList == [60, 62]) = false := by rw [hop]; decide
  have e7 : (op.toList == [60]) = false := by rw [hop]; decide
  have e8 : (op.toList == [60, 61]) = false := by rw [hop]; decide
  have e9 : (op.toList == [62]) = false := by rw [hop]; decide
  have e10 : (op.toList == [62, 61]) = false := by rw [hop]; decide
  clear hop
  have HA := Lib.hid fun W => rtruth_any a W
  have HB := Lib.hid fun W => rtruth_any b W
  unfold retR at HA HB ⊢
  obtain ⟨h0a, h3a'⟩ := truO_bd a
  obtain ⟨h0b, h3b'⟩ := truO_bd b
  have h3a : ¬ 3 < truO a := by omega
  have h3b : ¬ 3 < truO b := by omega
  clear h3a' h3b'
  obtain ⟨x, hx⟩ : ∃ x, a.getD zV = x := ⟨_, rfl⟩
  obtain ⟨p, hp⟩ : ∃ p, a.isNone = p := ⟨_, rfl⟩
  obtain ⟨y, hy⟩ : ∃ y, b.getD zV = y := ⟨_, rfl⟩
  obtain ⟨r, hr⟩ : ∃ r, b.isNone = r := ⟨_, rfl⟩
  obtain ⟨ta, hta⟩ : ∃ t, truO a = t := ⟨_, rfl⟩
  obtain ⟨tb, htb⟩ : ∃ t, truO b = t := ⟨_, rfl⟩
  rw [hx, hp, hta] at HA
  rw [hy, hr, htb] at HB
  rw [hta] at h0a h3a
  rw [htb] at h0b h3b
  rw [hx, hp, hy, hr]
  rw [hx, hy] at HD
  show Calls _ _ _ _ (RetB w (retR (numO op.toList a b)))
  have hne := num_eq op.toList a b x y p r hx hp hy hr
  have HS := Lib.hid fun (Z : Bool) W => rsure_any (doV op.toList x y).1 Z W
  obtain ⟨D, hD⟩ : ∃ D, doV op.toList x y = D := ⟨_, rfl⟩
  rw [hD] at HD HS hne
  obtain ⟨d1, d2⟩ := D
  obtain ⟨dk, di, ds⟩ := d1
  simp only at HD HS hne
  obtain ⟨q, hq⟩ : ∃ q, numO op.toList a b = q := ⟨_, rfl⟩
  rw [hq] at hne ⊢
  clear hx hp hy hr hta htb hq hD hoa hob
  obtain ⟨xk, xi, xs⟩ := x
  obtain ⟨yk, yi, ys⟩ := y
  simp only [rV] at HA HB ⊢
  obtain ⟨W0, hW0⟩ : ∃ W0, (((w.alloc (.cells #[.int .u8 xk, .int .i64 xi, .string xs, .bool p] 36)).alloc (.cells #[.int .u8 yk, .int .i64 yi, .string ys, .bool r] 36)).alloc (.cells #[.int .u8 0, .int .i64 0, .string ⟨#[]⟩, .bool false] 36)) = W0 := ⟨_, rfl⟩
  have hbw0 : Below w.heap.size w W0 := by rw [← hW0]; exact ball (ball (ball (Below.refl _ _) _) _) _
  have hBX : Blk W0 w.heap.size 36 #[.int .u8 xk, .int .i64 xi, .string xs, .bool p] := by rw [← hW0]; exact Blk.alloc (Blk.alloc (Blk.new _ _ _) _) _
  have hBY : Blk W0 (w.heap.size + 1) 36 #[.int .u8 yk, .int .i64 yi, .string ys, .bool r] := by rw [← hW0]; exact Blk.alloc (Blk.newAt (by simp)) _
  have hBR : Blk W0 (w.heap.size + 1 + 1) 36 #[.int .u8 0, .int .i64 0, .string ⟨#[]⟩, .bool false] := by rw [← hW0]; exact Blk.newAt (by simp)
  have hS : Hid (∀ W, Below W0.heap.size W0 W → W.cell? ⟨w.heap.size, 0, none⟩ = some (.int .u8 xk) ∧ W.cell? ⟨w.heap.size, 1, none⟩ = some (.int .i64 xi) ∧ W.cell? ⟨w.heap.size, 2, none⟩ = some (.string xs) ∧ W.cell? ⟨w.heap.size, 3, none⟩ = some (.bool p) ∧ W.cell? ⟨w.heap.size + 1, 0, none⟩ = some (.int .u8 yk) ∧ W.cell? ⟨w.heap.size + 1, 1, none⟩ = some (.int .i64 yi) ∧ W.cell? ⟨w.heap.size + 1, 2, none⟩ = some (.string ys) ∧ W.cell? ⟨w.heap.size + 1, 3, none⟩ = some (.bool r) ∧ Below W0.heap.size W0 W) := Lib.hid fun W hW => ⟨(hW.cell (p := ⟨w.heap.size, 0, none⟩) hBX.lt).trans (hBX.cell 0), (hW.cell (p := ⟨w.heap.size, 1, none⟩) hBX.lt).trans (hBX.cell 1), (hW.cell (p := ⟨w.heap.size, 2, none⟩) hBX.lt).trans (hBX.cell 2), (hW.cell (p := ⟨w.heap.size, 3, none⟩) hBX.lt).trans (hBX.cell 3), (hW.cell (p := ⟨w.heap.size + 1, 0, none⟩) hBY.lt).trans (hBY.cell 0), (hW.cell (p := ⟨w.heap.size + 1, 1, none⟩) hBY.lt).trans (hBY.cell 1), (hW.cell (p := ⟨w.heap.size + 1, 2, none⟩) hBY.lt).trans (hBY.cell 2), (hW.cell (p := ⟨w.heap.size + 1, 3, none⟩) hBY.lt).trans (hBY.cell 3), hW⟩
  go_enter Try.func24, Try.ntmps24
  go_wp2_with fail
  try rw [hW0]
  clear hW0
  go_region_held3 (fun W => W.cell? ⟨w.heap.size, 0, none⟩ = some (.int .u8 xk) ∧ W.cell? ⟨w.heap.size, 1, none⟩ = some (.int .i64 xi) ∧ W.cell? ⟨w.heap.size, 2, none⟩ = some (.string xs) ∧ W.cell? ⟨w.heap.size, 3, none⟩ = some (.bool p) ∧ W.cell? ⟨w.heap.size + 1, 0, none⟩ = some (.int .u8 yk) ∧ W.cell? ⟨w.heap.size + 1, 1, none⟩ = some (.int .i64 yi) ∧ W.cell? ⟨w.heap.size + 1, 2, none⟩ = some (.string ys) ∧ W.cell? ⟨w.heap.size + 1, 3, none⟩ = some (.bool r) ∧ Below W0.heap.size W0 W)
    (first | exact hS.out _ (by (with_reducible repeat (first | exact Below.refl _ _ | assumption | refine bto0 ?_ (by assumption) | refine ball ?_ _ | refine bdr ?_ _ | refine Below.drew ?_))) | assumption)
    (first | (go_at_call 13; first | ((with_reducible refine (HA.out _).mono ?_); rintro e w1 ⟨rfl, hb1⟩) | ((with_reducible refine (HB.out _).mono ?_); rintro e w2 ⟨rfl, hb2⟩)))
  have hbA : Below W0.heap.size W0 w2 := by with_reducible repeat (first | exact Below.refl _ _ | exact hb2 | exact hb1 | refine bto0 ?_ hb2 | refine bto0 ?_ hb1 | refine bdr ?_ _ | refine Below.drew ?_)
  have hbw2 : Below w.heap.size w w2 := bto0 hbw0 hbA
  have hX2 := blkUp hbA hBX
  have hY2 := blkUp hbA hBY
  have hR2 := blkUp hbA hBR
  have hRd : Reads (w2.alloc (.cells #[.int .i64 ta, .int .i64 tb] 3)) (w2.alloc (.cells #[.int .i64 ta, .int .i64 tb] 3)).heap.size 1 (some ⟨w2.heap.size, 0, none⟩) 2 (vI64 ([ta, tb].map kn)) := by
    refine reads_of_blk (Blk.new w2 3 _) ?_ (by simp [vI64])
    simp [vI64, kn]
    omega
  clear hRd hS HA HB hBX hBY hBR hb1 hb2
  have hb5 : Below w.heap.size w (w2.alloc (.cells #[.int .i64 ta, .int .i64 tb] 3)) := ball hbw2 _
  obtain ⟨W2, hW2⟩ : ∃ W2, w2.alloc (.cells #[.int .i64 ta, .int .i64 tb] 3) = W2 := ⟨_, rfl⟩
  have hX3 : Blk W2 w.heap.size 36 #[.int .u8 xk, .int .i64 xi, .string xs, .bool p] := by rw [← hW2]; exact Blk.alloc hX2 _
  have hY3 : Blk W2 (w.heap.size + 1) 36 #[.int .u8 yk, .int .i64 yi, .string ys, .bool r] := by rw [← hW2]; exact Blk.alloc hY2 _
  have hR3 : Blk W2 (w.heap.size + 1 + 1) 36 #[.int .u8 0, .int .i64 0, .string ⟨#[]⟩, .bool false] := by rw [← hW2]; exact Blk.alloc hR2 _
  rw [hW2] at hb5
  try rw [hW2]
  clear hW2 hX2 hY2 hR2
  have hX3_0 : (W2).cell? ⟨w.heap.size, 0, none⟩ = some (.int .u8 xk) := hX3.cell 0
  have hX3_1 : (W2).cell? ⟨w.heap.size, 1, none⟩ = some (.int .i64 xi) := hX3.cell 1
  have hX3_2 : (W2).cell? ⟨w.heap.size, 2, none⟩ = some (.string xs) := hX3.cell 2
  have hX3_3 : (W2).cell? ⟨w.heap.size, 3, none⟩ = some (.bool p) := hX3.cell 3
  have hY3_0 : (W2).cell? ⟨w.heap.size + 1, 0, none⟩ = some (.int .u8 yk) := hY3.cell 0
  have hY3_1 : (W2).cell? ⟨w.heap.size + 1, 1, none⟩ = some (.int .i64 yi) := hY3.cell 1
  have hY3_2 : (W2).cell? ⟨w.heap.size + 1, 2, none⟩ = some (.string ys) := hY3.cell 2
  have hY3_3 : (W2).cell? ⟨w.heap.size + 1, 3, none⟩ = some (.bool r) := hY3.cell 3
  go_wp2_with fail
  refine (HD.out _).mono ?_
  rintro e w3 ⟨rfl, hb3⟩
  have hX4 := hX3.below hb3 hX3.lt
  have hY4 := hY3.below hb3 hY3.lt
  have hR4 := hR3.below hb3 hR3.lt
  have hX4_0 : (w3).cell? ⟨w.heap.size, 0, none⟩ = some (.int .u8 xk) := hX4.cell 0
  have hX4_1 : (w3).cell? ⟨w.heap.size, 1, none⟩ = some (.int .i64 xi) := hX4.cell 1
  have hX4_2 : (w3).cell? ⟨w.heap.size, 2, none⟩ = some (.string xs) := hX4.cell 2
  have hX4_3 : (w3).cell? ⟨w.heap.size, 3, none⟩ = some (.bool p) := hX4.cell 3
  have hY4_0 : (w3).cell? ⟨w.heap.size + 1, 0, none⟩ = some (.int .u8 yk) := hY4.cell 0
  have hY4_1 : (w3).cell? ⟨w.heap.size + 1, 1, none⟩ = some (.int .i64 yi) := hY4.cell 1
  have hY4_2 : (w3).cell? ⟨w.heap.size + 1, 2, none⟩ = some (.string ys) := hY4.cell 2
  have hY4_3 : (w3).cell? ⟨w.heap.size + 1, 3, none⟩ = some (.bool r) := hY4.cell 3
  have l1 := hX4.lt
  have l2 := hY4.lt
  cases d2 <;> cases p <;> cases r
  all_goals
    simp only [Bool.and_true, Bool.true_and, Bool.and_false, Bool.false_and, Bool.not_true, Bool.not_false, if_true, if_false, Bool.false_eq_true, reduceIte] at hne
    subst hne
    go_wp2_with fail
    refine (HS.out _ _).mono ?_
    rintro e w4 ⟨rfl, hb4⟩
    have hbw : Below w.heap.size w w4 := bto0 (ball (bto0 hb5 hb3) _) hb4
    have hB : Blk w4 (w.heap.size + 1 + 1) 36 #[.int .u8 0, .int .i64 0, .string ⟨#[]⟩, .bool false] := blkUp hb4 (Blk.alloc hR4 _)
    have hB_0 : (w4).cell? ⟨w.heap.size + 1 + 1, 0, none⟩ = some (.int .u8 0) := hB.cell 0
    have hB_1 : (w4).cell? ⟨w.heap.size + 1 + 1, 1, none⟩ = some (.int .i64 0) := hB.cell 1
    have hB_2 : (w4).cell? ⟨w.heap.size + 1 + 1, 2, none⟩ = some (.string ⟨#[]⟩) := hB.cell 2
    have hB_3 : (w4).cell? ⟨w.heap.size + 1 + 1, 3, none⟩ = some (.bool false) := hB.cell 3
    have hz := hB.lt
    have f0 := hB.frozen 0
    have f1 := hB.frozen 1
    have f2 := hB.frozen 2
    have f3 := hB.frozen 3
    simp only [retR, rV, if_true, if_false, Bool.false_eq_true, reduceIte, Option.getD, Option.isNone, zV]
    go_wp2_with fail
    first
      | exact rtwo_end (R := w.heap.size + 1 + 1) (o := none) (by (with_reducible repeat (first | refine Blk.alloc ?_ _ | refine Blk.drew ?_ | refine Blk.drewN ?_ _)); exact blk4 hB) (by simp) ⟨rfl, by with_reducible repeat (first | exact Below.refl _ _ | exact hbw | refine ball ?_ _ | refine bset ?_ (by first | exact Nat.le_add_right _ _ | exact Nat.le_refl _ | (simp; omega)) _ | refine bdr ?_ _ | refine Below.drew ?_)⟩
      | exact rtwo_end (R := w.heap.size + 1 + 1) (o := (some ⟨dk, di, ds⟩)) (by (with_reducible repeat (first | refine Blk.alloc ?_ _ | refine Blk.drew ?_ | refine Blk.drewN ?_ _)); exact blk4 hB) (by simp) ⟨rfl, by with_reducible repeat (first | exact Below.refl _ _ | exact hbw | refine ball ?_ _ | refine bset ?_ (by first | exact Nat.le_add_right _ _ | exact Nat.le_refl _ | (simp; omega)) _ | refine bdr ?_ _ | refine Below.drew ?_)⟩

set_option maxRecDepth 100000 in
set_option maxHeartbeats 8000000 in
theorem rtwo_star (op : ByteArray) (a b : Option Vl) (w : World) (hop : op.toList = [42]) (hoa : okO a) (hob : okO b) : Calls Try.prog 24 #[.string op, retR a, retR b] w (RetB w (retR (numO op.toList a b))) := by
  have HD := Lib.hid fun W => rdo_any op (a.getD zV) (b.getD zV) (getD_ok hoa) (getD_ok hob) W
  have e0 : (op.toList == [65, 78, 68]) = false := by rw [hop]; decide
  have e1 : (op.toList == [79, 82]) = false := by rw [hop]; decide
  have e2 : (op.toList == [43]) = false := by rw [hop]; decide
  have e3 : (op.toList == [45]) = false := by rw [hop]; decide
  have e4 : (op.toList == [42]) = true := by rw [hop]; decide
  have e5 : (op.toList == [61]) = false := by rw [hop]; decide
  have e6 : (op.toList == [60, 62]) = false := by rw [hop]; decide
  have e7 : (op.toList == [60]) = false := by rw [hop]; decide
  have e8 : (op.toList == [60, 61]) = false := by rw [hop]; decide
  have e9 : (op.toList == [62]) = false := by rw [hop]; decide
  have e10 : (op.toList == [62, 61]) = false := by rw [hop]; decide
  clear hop
  have HA := Lib.hid fun W => rtruth_any a W
  have HB := Lib.hid fun W => rtruth_any b W
  unfold retR at HA HB ⊢
  obtain ⟨h0a, h3a'⟩ := truO_bd a
  obtain ⟨h0b, h3b'⟩ := truO_bd b
  have h3a : ¬ 3 < truO a := by omega
  have h3b : ¬ 3 < truO b := by omega
  clear h3a' h3b'
  obtain ⟨x, hx⟩ : ∃ x, a.getD zV = x := ⟨_, rfl⟩
  obtain ⟨p, hp⟩ : ∃ p, a.isNone = p := ⟨_, rfl⟩
  obtain ⟨y, hy⟩ : ∃ y, b.getD zV = y := ⟨_, rfl⟩
  obtain ⟨r, hr⟩ : ∃ r, b.isNone = r := ⟨_, rfl⟩
  obtain ⟨ta, hta⟩ : ∃ t, truO a = t := ⟨_, rfl⟩
  obtain ⟨tb, htb⟩ : ∃ t, truO b = t := ⟨_, rfl⟩
  rw [hx, hp, hta] at HA
  rw [hy, hr, htb] at HB
  rw [hta] at h0a h3a
  rw [htb] at h0b h3b
  rw [hx, hp, hy, hr]
  rw [hx, hy] at HD
  show Calls _ _ _ _ (RetB w (retR (numO op.toList a b)))
  have hne := num_eq op.toList a b x y p r hx hp hy hr
  have HS := Lib.hid fun (Z : Bool) W => rsure_any (doV op.toList x y).1 Z W
  obtain ⟨D, hD⟩ : ∃ D, doV op.toList x y = D := ⟨_, rfl⟩
  rw [hD] at HD HS hne
  obtain ⟨d1, d2⟩ := D
  obtain ⟨dk, di, ds⟩ := d1
  simp only at HD HS hne
  obtain ⟨q, hq⟩ : ∃ q, numO op.toList a b = q := ⟨_, rfl⟩
  rw [hq] at hne ⊢
  clear hx hp hy hr hta htb hq hD hoa hob
  obtain ⟨xk, xi, xs⟩ := x
  obtain ⟨yk, yi, ys⟩ := y
  simp only [rV] at HA HB ⊢
  obtain ⟨W0, hW0⟩ : ∃ W0, (((w.alloc (.cells #[.int .u8 xk, .int .i64 xi, .string xs, .bool p] 36)).alloc (.cells #[.int .u8 yk, .int .i64 yi, .string ys, .bool r] 36)).alloc (.cells #[.int .u8 0, .int .i64 0, .string ⟨#[]⟩, .bool false] 36)) = W0 := ⟨_, rfl⟩
  have hbw0 : Below w.heap.size w W0 := by rw [← hW0]; exact ball (ball (ball (Below.refl _ _) _) _) _
  have hBX : Blk W0 w.heap.size 36 #[.int .u8 xk, .int .i64 xi, .string xs, .bool p] := by rw [← hW0]; exact Blk.alloc (Blk.alloc (Blk.new _ _ _) _) _
  have hBY : Blk W0 (w.heap.size + 1) 36 #[.int .u8 yk, .int .i64 yi, .string ys, .bool r] := by rw [← hW0]; exact Blk.alloc (Blk.newAt (by simp)) _
  have hBR : Blk W0 (w.heap.size + 1 + 1) 36 #[.int .u8 0, .int .i64 0, .string ⟨#[]⟩, .bool false] := by rw [← hW0]; exact Blk.newAt (by simp)
  have hS : Hid (∀ W, Below W0.heap.size W0 W → W.cell? ⟨w.heap.size, 0, none⟩ = some (.int .u8 xk) ∧ W.cell? ⟨w.heap.size, 1, none⟩ = some (.int .i64 xi) ∧ W.cell? ⟨w.heap.size, 2, none⟩ = some (.string xs) ∧ W.cell? ⟨w.heap.size, 3, none⟩ = some (.bool p) ∧ W.cell? ⟨w.heap.size + 1, 0, none⟩ = some (.int .u8 yk) ∧ W.cell? ⟨w.heap.size + 1, 1, none⟩ = some (.int .i64 yi) ∧ W.cell? ⟨w.heap.size + 1, 2, none⟩ = some (.string ys) ∧ W.cell? ⟨w.heap.size + 1, 3, none⟩ = some (.bool r) ∧ Below W0.heap.size W0 W) := Lib.hid fun W hW => ⟨(hW.cell (p := ⟨w.heap.size, 0, none⟩) hBX.lt).trans (hBX.cell 0), (hW.cell (p := ⟨w.heap.size, 1, none⟩) hBX.lt).trans (hBX.cell 1), (hW.cell (p := ⟨w.heap.size, 2, none⟩) hBX.lt).trans (hBX.cell 2), (hW.cell (p := ⟨w.heap.size, 3, none⟩) hBX.lt).trans (hBX.cell 3), (hW.cell (p := ⟨w.heap.size + 1, 0, none⟩) hBY.lt).trans (hBY.cell 0), (hW.cell (p := ⟨w.heap.size + 1, 1, none⟩) hBY.lt).trans (hBY.cell 1), (hW.cell (p := ⟨w.heap.size + 1, 2, none⟩) hBY.lt).trans (hBY.cell 2), (hW.cell (p := ⟨w.heap.size + 1, 3, none⟩) hBY.lt).trans (hBY.cell 3), hW⟩
  go_enter Try.func24, Try.ntmps24
  go_wp2_with fail
  try rw [hW0]
  clear hW0
  go_region_held3 (fun W => W.cell? ⟨w.heap.size, 0, none⟩ = some (.int .u8 xk) ∧ W.cell? ⟨w.heap.size, 1, none⟩ = some (.int .i64 xi) ∧ W.cell? ⟨w.heap.size, 2, none⟩ = some (.string xs) ∧ W.cell? ⟨w.heap.size, 3, none⟩ = some (.bool p) ∧ W.cell? ⟨w.heap.size + 1, 0, none⟩ = some (.int .u8 yk) ∧ W.cell? ⟨w.heap.size + 1, 1, none⟩ = some (.int .i64 yi) ∧ W.cell? ⟨w.heap.size + 1, 2, none⟩ = some (.string ys) ∧ W.cell? ⟨w.heap.size + 1, 3, none⟩ = some (.bool r) ∧ Below W0.heap.size W0 W)
    (first | exact hS.out _ (by (with_reducible repeat (first | exact Below.refl _ _ | assumption | refine bto0 ?_ (by assumption) | refine ball ?_ _ | refine bdr ?_ _ | refine Below.drew ?_))) | assumption)
    (first | (go_at_call 13; first | ((with_reducible refine (HA.out _).mono ?_); rintro e w1 ⟨rfl, hb1⟩) | ((with_reducible refine (HB.out _).mono ?_); rintro e w2 ⟨rfl, hb2⟩)))
  have hbA : Below W0.heap.size W0 w2 := by with_reducible repeat (first | exact Below.refl _ _ | exact hb2 | exact hb1 | refine bto0 ?_ hb2 | refine bto0 ?_ hb1 | refine bdr ?_ _ | refine Below.drew ?_)
  have hbw2 : Below w.heap.size w w2 := bto0 hbw0 hbA
  have hX2 := blkUp hbA hBX
  have hY2 := blkUp hbA hBY
  have hR2 := blkUp hbA hBR
  have hRd : Reads (w2.alloc (.cells #[.int .i64 ta, .int .i64 tb] 3)) (w2.alloc (.cells #[.int .i64 ta, .int .i64 tb] 3)).heap.size 1 (some ⟨w2.heap.size, 0, none⟩) 2 (vI64 ([ta, tb].map kn)) := by
    refine reads_of_blk (Blk.new w2 3 _) ?_ (by simp [vI64])
    simp [vI64, kn]
    omega
  clear hRd hS HA HB hBX hBY hBR hb1 hb2
  have hb5 : Below w.heap.size w (w2.alloc (.cells #[.int .i64 ta, .int .i64 tb] 3)) := ball hbw2 _
  obtain ⟨W2, hW2⟩ : ∃ W2, w2.alloc (.cells #[.int .i64 ta, .int .i64 tb] 3) = W2 := ⟨_, rfl⟩
  have hX3 : Blk W2 w.heap.size 36 #[.int .u8 xk, .int .i64 xi, .string xs, .bool p] := by rw [← hW2]; exact Blk.alloc hX2 _
  have hY3 : Blk W2 (w.heap.size + 1) 36 #[.int .u8 yk, .int .i64 yi, .string ys, .bool r] := by rw [← hW2]; exact Blk.alloc hY2 _
  have hR3 : Blk W2 (w.heap.size + 1 + 1) 36 #[.int .u8 0, .int .i64 0, .string ⟨#[]⟩, .bool false] := by rw [← hW2]; exact Blk.alloc hR2 _
  rw [hW2] at hb5
  try rw [hW2]
  clear hW2 hX2 hY2 hR2
  have hX3_0 : (W2).cell? ⟨w.heap.size, 0, none⟩ = some (.int .u8 xk) := hX3.cell 0
  have hX3_1 : (W2).cell? ⟨w.heap.size, 1, none⟩ = some (.int .i64 xi) := hX3.cell 1
  have hX3_2 : (W2).cell? ⟨w.heap.size, 2, none⟩ = some (.string xs) := hX3.cell 2
  have hX3_3 : (W2).cell? ⟨w.heap.size, 3, none⟩ = some (.bool p) := hX3.cell 3
  have hY3_0 : (W2).cell? ⟨w.heap.size + 1, 0, none⟩ = some (.int .u8 yk) := hY3.cell 0
  have hY3_1 : (W2).cell? ⟨w.heap.size + 1, 1, none⟩ = some (.int .i64 yi) := hY3.cell 1
  have hY3_2 : (W2).cell? ⟨w.heap.size + 1, 2, none⟩ = some (.string ys) := hY3.cell 2
  have hY3_3 : (W2).cell? ⟨w.heap.size + 1, 3, none⟩ = some (.bool r) := hY3.cell 3
  go_wp2_with fail
  refine (HD.out _).mono ?_
  rintro e w3 ⟨rfl, hb3⟩
  have hX4 := hX3.below hb3 hX3.lt
  have hY4 := hY3.below hb3 hY3.lt
  have hR4 := hR3.below hb3 hR3.lt
  have hX4_0 : (w3).cell? ⟨w.heap.size, 0, none⟩ = some (.int .u8 xk) := hX4.cell 0
  have hX4_1 : (w3).cell? ⟨w.heap.size, 1, none⟩ = some (.int .i64 xi) := hX4.cell 1
  have hX4_2 : (w3).cell? ⟨w.heap.size, 2, none⟩ = some (.string xs) := hX4.cell 2
  have hX4_3 : (w3).cell? ⟨w.heap.size, 3, none⟩ = some (.bool p) := hX4.cell 3
  have hY4_0 : (w3).cell? ⟨w.heap.size + 1, 0, none⟩ = some (.int .u8 yk) := hY4.cell 0
  have hY4_1 : (w3).cell? ⟨w.heap.size + 1, 1, none⟩ = some (.int .i64 yi) := hY4.cell 1
  have hY4_2 : (w3).cell? ⟨w.heap.size + 1, 2, none⟩ = some (.string ys) := hY4.cell 2
  have hY4_3 : (w3).cell? ⟨w.heap.size + 1, 3, none⟩ = some (.bool r) := hY4.cell 3
  have l1 := hX4.lt
  have l2 := hY4.lt
  cases d2 <;> cases p <;> cases r
  all_goals
    simp only [Bool.and_true, Bool.true_and, Bool.and_false, Bool.false_and, Bool.not_true, Bool.not_false, if_true, if_false, Bool.false_eq_true, reduceIte] at hne
    subst hne
    go_wp2_with fail
    refine (HS.out _ _).mono ?_
    rintro e w4 ⟨rfl, hb4⟩
    have hbw : Below w.heap.size w w4 := bto0 (ball (bto0 hb5 hb3) _) hb4
    have hB : Blk w4 (w.heap.size + 1 + 1) 36 #[.int .u8 0, .int .i64 0, .string ⟨#[]⟩, .bool false] := blkUp hb4 (Blk.alloc hR4 _)
    have hB_0 : (w4).cell? ⟨w.heap.size + 1 + 1, 0, none⟩ = some (.int .u8 0) := hB.cell 0
    have hB_1 : (w4).cell? ⟨w.heap.size + 1 + 1, 1, none⟩ = some (.int .i64 0) := hB.cell 1
    have hB_2 : (w4).cell? ⟨w.heap.size + 1 + 1, 2, none⟩ = some (.string ⟨#[]⟩) := hB.cell 2
    have hB_3 : (w4).cell? ⟨w.heap.size + 1 + 1, 3, none⟩ = some (.bool false) := hB.cell 3
    have hz := hB.lt
    have f0 := hB.frozen 0
    have f1 := hB.frozen 1
    have f2 := hB.frozen 2
    have f3 := hB.frozen 3
    simp only [retR, rV, if_true, if_false, Bool.false_eq_true, reduceIte, Option.getD, Option.isNone, zV]
    go_wp2_with fail
    first
      | exact rtwo_end (R := w.heap.size + 1 + 1) (o := none) (by (with_reducible repeat (first | refine Blk.alloc ?_ _ | refine Blk.drew ?_ | refine Blk.drewN ?_ _)); exact blk4 hB) (by simp) ⟨rfl, by with_reducible repeat (first | exact Below.refl _ _ | exact hbw | refine ball ?_ _ | refine bset ?_ (by first | exact Nat.le_add_right _ _ | exact Nat.le_refl _ | (simp; omega)) _ | refine bdr ?_ _ | refine Below.drew ?_)⟩
      | exact rtwo_end (R := w.heap.size + 1 + 1) (o := (some ⟨dk, di, ds⟩)) (by (with_reducible repeat (first | refine Blk.alloc ?_ _ | refine Blk.drew ?_ | refine Blk.drewN ?_ _)); exact blk4 hB) (by simp) ⟨rfl, by with_reducible repeat (first | exact Below.refl _ _ | exact hbw | refine ball ?_ _ | refine bset ?_ (by first | exact Nat.le_add_right _ _ | exact Nat.le_refl _ | (simp; omega)) _ | refine bdr ?_ _ | refine Below.drew ?_)⟩

theorem getD_sz {o : Option Vl} (h : okO o) : (o.getD zV).s.size ≤ 1000000 := by
  cases o with
  | none => exact okV_zero.2
  | some v => exact (h v rfl).2
theorem cmp_eq (op : ByteArray) (a b : Option Vl) (x y : Vl) (p r : Bool) (hx : a.getD zV = x) (hp : a.isNone = p) (hy : b.getD zV = y) (hr : b.isNone = r) : (if (p || r) = true then none else valT (testV op x y)) = valT (cmpO op a b) := by
  subst hx hp hy hr
  cases a <;> cases b <;> rfl
set_option maxRecDepth 100000 in
set_option maxHeartbeats 8000000 in
theorem rtwo_eq (op : ByteArray) (a b : Option Vl) (w : World) (hop : op.toList = [61]) (hoa : okO a) (hob : okO b) : Calls Try.prog 24 #[.string op, retR a, retR b] w (RetB w (retR (valT (cmpO op a b)))) := by
  have HD := Lib.hid fun W => rtest_any op (a.getD zV) (b.getD zV) W (getD_sz hoa) (getD_sz hob)
  have e0 : (op.toList == [65, 78, 68]) = false := by rw [hop]; decide
  have e1 : (op.toList == [79, 82]) = false := by rw [hop]; decide
  have e2 : (op.toList == [43]) = false := by rw [hop]; decide
  have e3 : (op.toList == [45]) = false := by rw [hop]; decide
  have e4 : (op.toList == [42]) = false := by rw [hop]; decide
  have e5 : (op.toList == [61]) = true := by rw [hop]; decide
  have e6 : (op.toList == [60, 62]) = false := by rw [hop]; decide
  have e7 : (op.toList == [60]) = false := by rw [hop]; decide
  have e8 : (op.toList == [60, 61]) = false := by rw [hop]; decide
  have e9 : (op.toList == [62]) = false := by rw [hop]; decide
  have e10 : (op.toList == [62, 61]) = false := by rw [hop]; decide
  clear hop
  have HA := Lib.hid fun W => rtruth_any a W
  have HB := Lib.hid fun W => rtruth_any b W
  unfold retR at HA HB ⊢
  obtain ⟨h0a, h3a'⟩ := truO_bd a
  obtain ⟨h0b, h3b'⟩ := truO_bd b
  have h3a : ¬ 3 < truO a := by omega
  have h3b : ¬ 3 < truO b := by omega
  clear h3a' h3b'
  obtain ⟨x, hx⟩ : ∃ x, a.getD zV = x := ⟨_, rfl⟩
  obtain ⟨p, hp⟩ : ∃ p, a.isNone = p := ⟨_, rfl⟩
  obtain ⟨y, hy⟩ : ∃ y, b.getD zV = y := ⟨_, rfl⟩
  obtain ⟨r, hr⟩ : ∃ r, b.isNone = r := ⟨_, rfl⟩
  obtain ⟨ta, hta⟩ : ∃ t, truO a = t := ⟨_, rfl⟩
  obtain ⟨tb, htb⟩ : ∃ t, truO b = t := ⟨_, rfl⟩
  rw [hx, hp, hta] at HA
  rw [hy, hr, htb] at HB
  rw [hta] at h0a h3a
  rw [htb] at h0b h3b
  rw [hx, hp, hy, hr]
  rw [hx, hy] at HD
  show Calls _ _ _ _ (RetB w (retR (valT (cmpO op a b))))
  have hne := cmp_eq op a b x y p r hx hp hy hr
  have HS := Lib.hid fun W => rvalue_any (testV op x y) W
  obtain ⟨D, hD⟩ : ∃ D, testV op x y = D := ⟨_, rfl⟩
  rw [hD] at HD HS hne
  obtain ⟨q, hq⟩ : ∃ q, valT (cmpO op a b) = q := ⟨_, rfl⟩
  rw [hq] at hne ⊢
  clear hx hp hy hr hta htb hq hD hoa hob
  obtain ⟨xk, xi, xs⟩ := x
  obtain ⟨yk, yi, ys⟩ := y
  simp only [rV] at HA HB ⊢
  obtain ⟨W0, hW0⟩ : ∃ W0, (((w.alloc (.cells #[.int .u8 xk, .int .i64 xi, .string xs, .bool p] 36)).alloc (.cells #[.int .u8 yk, .int .i64 yi, .string ys, .bool r] 36)).alloc (.cells #[.int .u8 0, .int .i64 0, .string ⟨#[]⟩, .bool false] 36)) = W0 := ⟨_, rfl⟩
  have hbw0 : Below w.heap.size w W0 := by rw [← hW0]; exact ball (ball (ball (Below.refl _ _) _) _) _
  have hBX : Blk W0 w.heap.size 36 #[.int .u8 xk, .int .i64 xi, .string xs, .bool p] := by rw [← hW0]; exact Blk.alloc (Blk.alloc (Blk.new _ _ _) _) _
  have hBY : Blk W0 (w.heap.size + 1) 36 #[.int .u8 yk, .int .i64 yi, .string ys, .bool r] := by rw [← hW0]; exact Blk.alloc (Blk.newAt (by simp)) _
  have hBR : Blk W0 (w.heap.size + 1 + 1) 36 #[.int .u8 0, .int .i64 0, .string ⟨#[]⟩, .bool false] := by rw [← hW0]; exact Blk.newAt (by simp)
  have hS : Hid (∀ W, Below W0.heap.size W0 W → W.cell? ⟨w.heap.size, 0, none⟩ = some (.int .u8 xk) ∧ W.cell? ⟨w.heap.size, 1, none⟩ = some (.int .i64 xi) ∧ W.cell? ⟨w.heap.size, 2, none⟩ = some (.string xs) ∧ W.cell? ⟨w.heap.size, 3, none⟩ = some (.bool p) ∧ W.cell? ⟨w.heap.size + 1, 0, none⟩ = some (.int .u8 yk) ∧ W.cell? ⟨w.heap.size + 1, 1, none⟩ = some (.int .i64 yi) ∧ W.cell? ⟨w.heap.size + 1, 2, none⟩ = some (.string ys) ∧ W.cell? ⟨w.heap.size + 1, 3, none⟩ = some (.bool r) ∧ Below W0.heap.size W0 W) := Lib.hid fun W hW => ⟨(hW.cell (p := ⟨w.heap.size, 0, none⟩) hBX.lt).trans (hBX.cell 0), (hW.cell (p := ⟨w.heap.size, 1, none⟩) hBX.lt).trans (hBX.cell 1), (hW.cell (p := ⟨w.heap.size, 2, none⟩) hBX.lt).trans (hBX.cell 2), (hW.cell (p := ⟨w.heap.size, 3, none⟩) hBX.lt).trans (hBX.cell 3), (hW.cell (p := ⟨w.heap.size + 1, 0, none⟩) hBY.lt).trans (hBY.cell 0), (hW.cell (p := ⟨w.heap.size + 1, 1, none⟩) hBY.lt).trans (hBY.cell 1), (hW.cell (p := ⟨w.heap.size + 1, 2, none⟩) hBY.lt).trans (hBY.cell 2), (hW.cell (p := ⟨w.heap.size + 1, 3, none⟩) hBY.lt).trans (hBY.cell 3), hW⟩
  go_enter Try.func24, Try.ntmps24
  go_wp2_with fail
  try rw [hW0]
  clear hW0
  go_region_held3 (fun W => W.cell? ⟨w.heap.size, 0, none⟩ = some (.int .u8 xk) ∧ W.cell? ⟨w.heap.size, 1, none⟩ = some (.int .i64 xi) ∧ W.cell? ⟨w.heap.size, 2, none⟩ = some (.string xs) ∧ W.cell? ⟨w.heap.size, 3, none⟩ = some (.bool p) ∧ W.cell? ⟨w.heap.size + 1, 0, none⟩ = some (.int .u8 yk) ∧ W.cell? ⟨w.heap.size + 1, 1, none⟩ = some (.int .i64 yi) ∧ W.cell? ⟨w.heap.size + 1, 2, none⟩ = some (.string ys) ∧ W.cell? ⟨w.heap.size + 1, 3, none⟩ = some (.bool r) ∧ Below W0.heap.size W0 W)
    (first | exact hS.out _ (by (with_reducible repeat (first | exact Below.refl _ _ | assumption | refine bto0 ?_ (by assumption) | refine ball ?_ _ | refine bdr ?_ _ | refine Below.drew ?_))) | assumption)
    (first | (go_at_call 13; first | ((with_reducible refine (HA.out _).mono ?_); rintro e w1 ⟨rfl, hb1⟩) | ((with_reducible refine (HB.out _).mono ?_); rintro e w2 ⟨rfl, hb2⟩)))
  have hbA : Below W0.heap.size W0 w2 := by with_reducible repeat (first | exact Below.refl _ _ | exact hb2 | exact hb1 | refine bto0 ?_ hb2 | refine bto0 ?_ hb1 | refine bdr ?_ _ | refine Below.drew ?_)
  have hbw2 : Below w.heap.size w w2 := bto0 hbw0 hbA
  have hX2 := blkUp hbA hBX
  have hY2 := blkUp hbA hBY
  have hR2 := blkUp hbA hBR
  have hRd : Reads (w2.alloc (.cells #[.int .i64 ta, .int .i64 tb] 3)) (w2.alloc (.cells #[.int .i64 ta, .int .i64 tb] 3)).heap.size 1 (some ⟨w2.heap.size, 0, none⟩) 2 (vI64 ([ta, tb].map kn)) := by
    refine reads_of_blk (Blk.new w2 3 _) ?_ (by simp [vI64])
    simp [vI64, kn]
    omega
  clear hRd hS HA HB hBX hBY hBR hb1 hb2
  have hbw : Below w.heap.size w (w2.alloc (.cells #[.int .i64 ta, .int .i64 tb] 3)) := ball hbw2 _
  obtain ⟨W2, hW2⟩ : ∃ W2, w2.alloc (.cells #[.int .i64 ta, .int .i64 tb] 3) = W2 := ⟨_, rfl⟩
  have hX3 : Blk W2 w.heap.size 36 #[.int .u8 xk, .int .i64 xi, .string xs, .bool p] := by rw [← hW2]; exact Blk.alloc hX2 _
  have hY3 : Blk W2 (w.heap.size + 1) 36 #[.int .u8 yk, .int .i64 yi, .string ys, .bool r] := by rw [← hW2]; exact Blk.alloc hY2 _
  have hR3 : Blk W2 (w.heap.size + 1 + 1) 36 #[.int .u8 0, .int .i64 0, .string ⟨#[]⟩, .bool false] := by rw [← hW2]; exact Blk.alloc hR2 _
  rw [hW2] at hbw
  try rw [hW2]
  clear hW2 hX2 hY2 hR2
  have hX3_0 : (W2).cell? ⟨w.heap.size, 0, none⟩ = some (.int .u8 xk) := hX3.cell 0
  have hX3_1 : (W2).cell? ⟨w.heap.size, 1, none⟩ = some (.int .i64 xi) := hX3.cell 1
  have hX3_2 : (W2).cell? ⟨w.heap.size, 2, none⟩ = some (.string xs) := hX3.cell 2
  have hX3_3 : (W2).cell? ⟨w.heap.size, 3, none⟩ = some (.bool p) := hX3.cell 3
  have hY3_0 : (W2).cell? ⟨w.heap.size + 1, 0, none⟩ = some (.int .u8 yk) := hY3.cell 0
  have hY3_1 : (W2).cell? ⟨w.heap.size + 1, 1, none⟩ = some (.int .i64 yi) := hY3.cell 1
  have hY3_2 : (W2).cell? ⟨w.heap.size + 1, 2, none⟩ = some (.string ys) := hY3.cell 2
  have hY3_3 : (W2).cell? ⟨w.heap.size + 1, 3, none⟩ = some (.bool r) := hY3.cell 3
  cases p
  · cases r
    · simp only [Bool.or_self, Bool.false_eq_true, reduceIte] at hne
      rw [hne] at HS
      clear hne
      go_wp2_with fail
      refine (HD.out _).mono ?_
      rintro e w3 ⟨rfl, hb3⟩
      have hR4 := hR3.below hb3 hR3.lt
      go_wp2_with fail
      refine (HS.out _).mono ?_
      rintro e w4 ⟨rfl, hb4⟩
      have hbw := bto0 (bto0 hbw hb3) hb4
      have hB : Blk w4 (w.heap.size + 1 + 1) 36 #[.int .u8 0, .int .i64 0, .string ⟨#[]⟩, .bool false] := blkUp hb4 (hR4)
      have hB_0 : (w4).cell? ⟨w.heap.size + 1 + 1, 0, none⟩ = some (.int .u8 0) := hB.cell 0
      have hB_1 : (w4).cell? ⟨w.heap.size + 1 + 1, 1, none⟩ = some (.int .i64 0) := hB.cell 1
      have hB_2 : (w4).cell? ⟨w.heap.size + 1 + 1, 2, none⟩ = some (.string ⟨#[]⟩) := hB.cell 2
      have hB_3 : (w4).cell? ⟨w.heap.size + 1 + 1, 3, none⟩ = some (.bool false) := hB.cell 3
      have hz := hB.lt
      have f0 := hB.frozen 0
      have f1 := hB.frozen 1
      have f2 := hB.frozen 2
      have f3 := hB.frozen 3
      cases q with
      | none =>
        simp only [retR, rV, Option.getD, Option.isNone, zV]
        go_wp2_with fail
        exact rtwo_end (R := w.heap.size + 1 + 1) (o := none) (by (with_reducible repeat (first | refine Blk.alloc ?_ _ | refine Blk.drew ?_ | refine Blk.drewN ?_ _)); exact blk4 hB) (by simp) ⟨rfl, by with_reducible repeat (first | exact Below.refl _ _ | exact hbw | refine ball ?_ _ | refine bset ?_ (by first | exact Nat.le_add_right _ _ | exact Nat.le_refl _ | (simp; omega)) _ | refine bdr ?_ _ | refine Below.drew ?_)⟩
      | some u =>
        obtain ⟨uk, ui, us⟩ := u
        simp only [retR, rV, Option.getD, Option.isNone]
        go_wp2_with fail
        exact rtwo_end (R := w.heap.size + 1 + 1) (o := (some ⟨uk, ui, us⟩)) (by (with_reducible repeat (first | refine Blk.alloc ?_ _ | refine Blk.drew ?_ | refine Blk.drewN ?_ _)); exact blk4 hB) (by simp) ⟨rfl, by with_reducible repeat (first | exact Below.refl _ _ | exact hbw | refine ball ?_ _ | refine bset ?_ (by first | exact Nat.le_add_right _ _ | exact Nat.le_refl _ | (simp; omega)) _ | refine bdr ?_ _ | refine Below.drew ?_)⟩
    · simp only [Bool.or_true, reduceIte] at hne
      subst hne
      have hR3_0 : (W2).cell? ⟨w.heap.size + 1 + 1, 0, none⟩ = some (.int .u8 0) := hR3.cell 0
      have hR3_1 : (W2).cell? ⟨w.heap.size + 1 + 1, 1, none⟩ = some (.int .i64 0) := hR3.cell 1
      have hR3_2 : (W2).cell? ⟨w.heap.size + 1 + 1, 2, none⟩ = some (.string ⟨#[]⟩) := hR3.cell 2
      have hR3_3 : (W2).cell? ⟨w.heap.size + 1 + 1, 3, none⟩ = some (.bool false) := hR3.cell 3
      have hz := hR3.lt
      have f0 := hR3.frozen 0
      have f1 := hR3.frozen 1
      have f2 := hR3.frozen 2
      have f3 := hR3.frozen 3
      go_wp2_with fail
      exact rtwo_end (R := w.heap.size + 1 + 1) (o := none) (by (with_reducible repeat (first | refine Blk.alloc ?_ _ | refine Blk.drew ?_ | refine Blk.drewN ?_ _)); exact blk4 hR3) (by simp) ⟨rfl, by with_reducible repeat (first | exact Below.refl _ _ | exact hbw | refine ball ?_ _ | refine bset ?_ (by first | exact Nat.le_add_right _ _ | exact Nat.le_refl _ | (simp; omega)) _ | refine bdr ?_ _ | refine Below.drew ?_)⟩
  · simp only [Bool.true_or, reduceIte] at hne
    subst hne
    have hR3_0 : (W2).cell? ⟨w.heap.size + 1 + 1, 0, none⟩ = some (.int .u8 0) := hR3.cell 0
    have hR3_1 : (W2).cell? ⟨w.heap.size + 1 + 1, 1, none⟩ = some (.int .i64 0) := hR3.cell 1
    have hR3_2 : (W2).cell? ⟨w.heap.size + 1 + 1, 2, none⟩ = some (.string ⟨#[]⟩) := hR3.cell 2
    have hR3_3 : (W2).cell? ⟨w.heap.size + 1 + 1, 3, none⟩ = some (.bool false) := hR3.cell 3
    have hz := hR3.lt
    have f0 := hR3.frozen 0
    have f1 := hR3.frozen 1
    have f2 := hR3.frozen 2
    have f3 := hR3.frozen 3
    go_wp2_with fail
    exact rtwo_end (R := w.heap.size + 1 + 1) (o := none) (by (with_reducible repeat (first | refine Blk.alloc ?_ _ | refine Blk.drew ?_ | refine Blk.drewN ?_ _)); exact blk4 hR3) (by simp) ⟨rfl, by with_reducible repeat (first | exact Below.refl _ _ | exact hbw | refine ball ?_ _ | refine bset ?_ (by first | exact Nat.le_add_right _ _ | exact Nat.le_refl _ | (simp; omega)) _ | refine bdr ?_ _ | refine Below.drew ?_)⟩

set_option maxRecDepth 100000 in
set_option maxHeartbeats 8000000 in
theorem rtwo_ne (op : ByteArray) (a b : Option Vl) (w : World) (hop : op.toList = [60, 62]) (hoa : okO a) (hob : okO b) : Calls Try.prog 24 #[.string op, retR a, retR b] w (RetB w (retR (valT (cmpO op a b)))) := by
  have HD := Lib.hid fun W => rtest_any op (a.getD zV) (b.getD zV) W (getD_sz hoa) (getD_sz hob)
  have e0 : (op.toList == [65, 78, 68]) = false := by rw [hop]; decide
  have e1 : (op.toList == [79, 82]) = false := by rw [hop]; decide
  have e2 : (op.toList == [43]) = false := by rw [hop]; decide
  have e3 : (op.toList == [45]) = false := by rw [hop]; decide
  have e4 : (op.toList == [42]) = false := by rw [hop]; decide
  have e5 : (op.toList == [61]) = false := by rw [hop]; decide
  have e6 : (op.toList == [60, 62]) = true := by rw [hop]; decide
  have e7 : (op.toList == [60]) = false := by rw [hop]; decide
  have e8 : (op.toList == [60, 61]) = false := by rw [hop]; decide
  have e9 : (op.toList == [62]) = false := by rw [hop]; decide
  have e10 : (op.toList == [62, 61]) = false := by rw [hop]; decide
  clear hop
  have HA := Lib.hid fun W => rtruth_any a W
  have HB := Lib.hid fun W => rtruth_any b W
  unfold retR at HA HB ⊢
  obtain ⟨h0a, h3a'⟩ := truO_bd a
  obtain ⟨h0b, h3b'⟩ := truO_bd b
  have h3a : ¬ 3 < truO a := by omega
  have h3b : ¬ 3 < truO b := by omega
  clear h3a' h3b'
  obtain ⟨x, hx⟩ : ∃ x, a.getD zV = x := ⟨_, rfl⟩
  obtain ⟨p, hp⟩ : ∃ p, a.isNone = p := ⟨_, rfl⟩
  obtain ⟨y, hy⟩ : ∃ y, b.getD zV = y := ⟨_, rfl⟩
  obtain ⟨r, hr⟩ : ∃ r, b.isNone = r := ⟨_, rfl⟩
  obtain ⟨ta, hta⟩ : ∃ t, truO a = t := ⟨_, rfl⟩
  obtain ⟨tb, htb⟩ : ∃ t, truO b = t := ⟨_, rfl⟩
  rw [hx, hp, hta] at HA
  rw [hy, hr, htb] at HB
  rw [hta] at h0a h3a
  rw [htb] at h0b h3b
  rw [hx, hp, hy, hr]
  rw [hx, hy] at HD
  show Calls _ _ _ _ (RetB w (retR (valT (cmpO op a b))))
  have hne := cmp_eq op a b x y p r hx hp hy hr
  have HS := Lib.hid fun W => rvalue_any (testV op x y) W
  obtain ⟨D, hD⟩ : ∃ D, testV op x y = D := ⟨_, rfl⟩
  rw [hD] at HD HS hne
  obtain ⟨q, hq⟩ : ∃ q, valT (cmpO op a b) = q := ⟨_, rfl⟩
  rw [hq] at hne ⊢
  clear hx hp hy hr hta htb hq hD hoa hob
  obtain ⟨xk, xi, xs⟩ := x
  obtain ⟨yk, yi, ys⟩ := y
  simp only [rV] at HA HB ⊢
  obtain ⟨W0, hW0⟩ : ∃ W0, (((w.alloc (.cells #[.int .u8 xk, .int .i64 xi, .string xs, .bool p] 36)).alloc (.cells #[.int .u8 yk, .int .i64 yi, .string ys, .bool r] 36)).alloc (.cells #[.int .u8 0, .int .i64 0, .string ⟨#[]⟩, .bool false] 36)) = W0 := ⟨_, rfl⟩
  have hbw0 : Below w.heap.size w W0 := by rw [← hW0]; exact ball (ball (ball (Below.refl _ _) _) _) _
  have hBX : Blk W0 w.heap.size 36 #[.int .u8 xk, .int .i64 xi, .string xs, .bool p] := by rw [← hW0]; exact Blk.alloc (Blk.alloc (Blk.new _ _ _) _) _
  have hBY : Blk W0 (w.heap.size + 1) 36 #[.int .u8 yk, .int .i64 yi, .string ys, .bool r] := by rw [← hW0]; exact Blk.alloc (Blk.newAt (by simp)) _
  have hBR : Blk W0 (w.heap.size + 1 + 1) 36 #[.int .u8 0, .int .i64 0, .string ⟨#[]⟩, .bool false] := by rw [← hW0]; exact Blk.newAt (by simp)
  have hS : Hid (∀ W, Below W0.heap.size W0 W → W.cell? ⟨w.heap.size, 0, none⟩ = some (.int .u8 xk) ∧ W.cell? ⟨w.heap.size, 1, none⟩ = some (.int .i64 xi) ∧ W.cell? ⟨w.heap.size, 2, none⟩ = some (.string xs) ∧ W.cell? ⟨w.heap.size, 3, none⟩ = some (.bool p) ∧ W.cell? ⟨w.heap.size + 1, 0, none⟩ = some (.int .u8 yk) ∧ W.cell? ⟨w.heap.size + 1, 1, none⟩ = some (.int .i64 yi) ∧ W.cell? ⟨w.heap.size + 1, 2, none⟩ = some (.string ys) ∧ W.cell? ⟨w.heap.size + 1, 3, none⟩ = some (.bool r) ∧ Below W0.heap.size W0 W) := Lib.hid fun W hW => ⟨(hW.cell (p := ⟨w.heap.size, 0, none⟩) hBX.lt).trans (hBX.cell 0), (hW.cell (p := ⟨w.heap.size, 1, none⟩) hBX.lt).trans (hBX.cell 1), (hW.cell (p := ⟨w.heap.size, 2, none⟩) hBX.lt).trans (hBX.cell 2), (hW.cell (p := ⟨w.heap.size, 3, none⟩) hBX.lt).trans (hBX.cell 3), (hW.cell (p := ⟨w.heap.size + 1, 0, none⟩) hBY.lt).trans (hBY.cell 0), (hW.cell (p := ⟨w.heap.size + 1, 1, none⟩) hBY.lt).trans (hBY.cell 1), (hW.cell (p := ⟨w.heap.size + 1, 2, none⟩) hBY.lt).trans (hBY.cell 2), (hW.cell (p := ⟨w.heap.size + 1, 3, none⟩) hBY.lt).trans (hBY.cell 3), hW⟩
  go_enter Try.func24, Try.ntmps24
  go_wp2_with fail
  try rw [hW0]
  clear hW0
  go_region_held3 (fun W => W.cell? ⟨w.heap.size, 0, none⟩ = some (.int .u8 xk) ∧ W.cell? ⟨w.heap.size, 1, none⟩ = some (.int .i64 xi) ∧ W.cell? ⟨w.heap.size, 2, none⟩ = some (.string xs) ∧ W.cell? ⟨w.heap.size, 3, none⟩ = some (.bool p) ∧ W.cell? ⟨w.heap.size + 1, 0, none⟩ = some (.int .u8 yk) ∧ W.cell? ⟨w.heap.size + 1, 1, none⟩ = some (.int .i64 yi) ∧ W.cell? ⟨w.heap.size + 1, 2, none⟩ = some (.string ys) ∧ W.cell? ⟨w.heap.size + 1, 3, none⟩ = some (.bool r) ∧ Below W0.heap.size W0 W)
    (first | exact hS.out _ (by (with_reducible repeat (first | exact Below.refl _ _ | assumption | refine bto0 ?_ (by assumption) | refine ball ?_ _ | refine bdr ?_ _ | refine Below.drew ?_))) | assumption)
    (first | (go_at_call 13; first | ((with_reducible refine (HA.out _).mono ?_); rintro e w1 ⟨rfl, hb1⟩) | ((with_reducible refine (HB.out _).mono ?_); rintro e w2 ⟨rfl, hb2⟩)))
  have hbA : Below W0.heap.size W0 w2 := by with_reducible repeat (first | exact Below.refl _ _ | exact hb2 | exact hb1 | refine bto0 ?_ hb2 | refine bto0 ?_ hb1 | refine bdr ?_ _ | refine Below.drew ?_)
  have hbw2 : Below w.heap.size w w2 := bto0 hbw0 hbA
  have hX2 := blkUp hbA hBX
  have hY2 := blkUp hbA hBY
  have hR2 := blkUp hbA hBR
  have hRd : Reads (w2.alloc (.cells #[.int .i64 ta, .int .i64 tb] 3)) (w2.alloc (.cells #[.int .i64 ta, .int .i64 tb] 3)).heap.size 1 (some ⟨w2.heap.size, 0, none⟩) 2 (vI64 ([ta, tb].map kn)) := by
    refine reads_of_blk (Blk.new w2 3 _) ?_ (by simp [vI64])
    simp [vI64, kn]
    omega
  clear hRd hS HA HB hBX hBY hBR hb1 hb2
  have hbw : Below w.heap.size w (w2.alloc (.cells #[.int .i64 ta, .int .i64 tb] 3)) := ball hbw2 _
  obtain ⟨W2, hW2⟩ : ∃ W2, w2.alloc (.cells #[.int .i64 ta, .int .i64 tb] 3) = W2 := ⟨_, rfl⟩
  have hX3 : Blk W2 w.heap.size 36 #[.int .u8 xk, .int .i64 xi, .string xs, .bool p] := by rw [← hW2]; exact Blk.alloc hX2 _
  have hY3 : Blk W2 (w.heap.size + 1) 36 #[.int .u8 yk, .int .i64 yi, .string ys, .bool r] := by rw [← hW2]; exact Blk.alloc hY2 _
  have hR3 : Blk W2 (w.heap.size + 1 + 1) 36 #[.int .u8 0, .int .i64 0, .string ⟨#[]⟩, .bool false] := by rw [← hW2]; exact Blk.alloc hR2 _
  rw [hW2] at hbw
  try rw [hW2]
  clear hW2 hX2 hY2 hR2
  have hX3_0 : (W2).cell? ⟨w.heap.size, 0, none⟩ = some (.int .u8 xk) := hX3.cell 0
  have hX3_1 : (W2).cell? ⟨w.heap.size, 1, none⟩ = some (.int .i64 xi) := hX3.cell 1
  have hX3_2 : (W2).cell? ⟨w.heap.size, 2, none⟩ = some (.string xs) := hX3.cell 2
  have hX3_3 : (W2).cell? ⟨w.heap.size, 3, none⟩ = some (.bool p) := hX3.cell 3
  have hY3_0 : (W2).cell? ⟨w.heap.size + 1, 0, none⟩ = some (.int .u8 yk) := hY3.cell 0
  have hY3_1 : (W2).cell? ⟨w.heap.size + 1, 1, none⟩ = some (.int .i64 yi) := hY3.cell 1
  have hY3_2 : (W2).cell? ⟨w.heap.size + 1, 2, none⟩ = some (.string ys) := hY3.cell 2
  have hY3_3 : (W2).cell? ⟨w.heap.size + 1, 3, none⟩ = some (.bool r) := hY3.cell 3
  cases p
  · cases r
    · simp only [Bool.or_self, Bool.false_eq_true, reduceIte] at hne
      rw [hne] at HS
      clear hne
      go_wp2_with fail
      refine (HD.out _).mono ?_
      rintro e w3 ⟨rfl, hb3⟩
      have hR4 := hR3.below hb3 hR3.lt
      go_wp2_with fail
      refine (HS.out _).mono ?_
      rintro e w4 ⟨rfl, hb4⟩
      have hbw := bto0 (bto0 hbw hb3) hb4
      have hB : Blk w4 (w.heap.size + 1 + 1) 36 #[.int .u8 0, .int .i64 0, .string ⟨#[]⟩, .bool false] := blkUp hb4 (hR4)
      have hB_0 : (w4).cell? ⟨w.heap.size + 1 + 1, 0, none⟩ = some (.int .u8 0) := hB.cell 0
      have hB_1 : (w4).cell? ⟨w.heap.size + 1 + 1, 1, none⟩ = some (.int .i64 0) := hB.cell 1
      have hB_2 : (w4).cell? ⟨w.heap.size + 1 + 1, 2, none⟩ = some (.string ⟨#[]⟩) := hB.cell 2
      have hB_3 : (w4).cell? ⟨w.heap.size + 1 + 1, 3, none⟩ = some (.bool false) := hB.cell 3
      have hz := hB.lt
      have f0 := hB.frozen 0
      have f1 := hB.frozen 1
      have f2 := hB.frozen 2
      have f3 := hB.frozen 3
      cases q with
      | none =>
        simp only [retR, rV, Option.getD, Option.isNone, zV]
        go_wp2_with fail
        exact rtwo_end (R := w.heap.size + 1 + 1) (o := none) (by (with_reducible repeat (first | refine Blk.alloc ?_ _ | refine Blk.drew ?_ | refine Blk.drewN ?_ _)); exact blk4 hB) (by simp) ⟨rfl, by with_reducible repeat (first | exact Below.refl _ _ | exact hbw | refine ball ?_ _ | refine bset ?_ (by first | exact Nat.le_add_right _ _ | exact Nat.le_refl _ | (simp; omega)) _ | refine bdr ?_ _ | refine Below.drew ?_)⟩
      | some u =>
        obtain ⟨uk, ui, us⟩ := u
        simp only [retR, rV, Option.getD, Option.isNone]
        go_wp2_with fail
        exact rtwo_end (R := w.heap.size + 1 + 1) (o := (some ⟨uk, ui, us⟩)) (by (with_reducible repeat (first | refine Blk.alloc ?_ _ | refine Blk.drew ?_ | refine Blk.drewN ?_ _)); exact blk4 hB) (by simp) ⟨rfl, by with_reducible repeat (first | exact Below.refl _ _ | exact hbw | refine ball ?_ _ | refine bset ?_ (by first | exact Nat.le_add_right _ _ | exact Nat.le_refl _ | (simp; omega)) _ | refine bdr ?_ _ | refine Below.drew ?_)⟩
    · simp only [Bool.or_true, reduceIte] at hne
      subst hne
      have hR3_0 : (W2).cell? ⟨w.heap.size + 1 + 1, 0, none⟩ = some (.int .u8 0) := hR3.cell 0
      have hR3_1 : (W2).cell? ⟨w.heap.size + 1 + 1, 1, none⟩ = some (.int .i64 0) := hR3.cell 1
      have hR3_2 : (W2).cell? ⟨w.heap.size + 1 + 1, 2, none⟩ = some (.string ⟨#[]⟩) := hR3.cell 2
      have hR3_3 : (W2).cell? ⟨w.heap.size + 1 + 1, 3, none⟩ = some (.bool false) := hR3.cell 3
      have hz := hR3.lt
      have f0 := hR3.frozen 0
      have f1 := hR3.frozen 1
      have f2 := hR3.frozen 2
      have f3 := hR3.frozen 3
      go_wp2_with fail
      exact rtwo_end (R := w.heap.size + 1 + 1) (o := none) (by (with_reducible repeat (first | refine Blk.alloc ?_ _ | refine Blk.drew ?_ | refine Blk.drewN ?_ _)); exact blk4 hR3) (by simp) ⟨rfl, by with_reducible repeat (first | exact Below.refl _ _ | exact hbw | refine ball ?_ _ | refine bset ?_ (by first | exact Nat.le_add_right _ _ | exact Nat.le_refl _ | (simp; omega)) _ | refine bdr ?_ _ | refine Below.drew ?_)⟩
  · simp only [Bool.true_or, reduceIte] at hne
    subst hne
    have hR3_0 : (W2).cell? ⟨w.heap.size + 1 + 1, 0, none⟩ = some (.int .u8 0) := hR3.cell 0
    have hR3_1 : (W2).cell? ⟨w.heap.size + 1 + 1, 1, none⟩ = some (.int .i64 0) := hR3.cell 1
    have hR3_2 : (W2).cell? ⟨w.heap.size + 1 + 1, 2, none⟩ = some (.string ⟨#[]⟩) := hR3.cell 2
    have hR3_3 : (W2).cell? ⟨w.heap.size + 1 + 1, 3, none⟩ = some (.bool false) := hR3.cell 3
    have hz := hR3.lt
    have f0 := hR3.frozen 0
    have f1 := hR3.frozen 1
    have f2 := hR3.frozen 2
    have f3 := hR3.frozen 3
    go_wp2_with fail
    exact rtwo_end (R := w.heap.size + 1 + 1) (o := none) (by (with_reducible repeat (first | refine Blk.alloc ?_ _ | refine Blk.drew ?_ | refine Blk.drewN ?_ _)); exact blk4 hR3) (by simp) ⟨rfl, by with_reducible repeat (first | exact Below.refl _ _ | exact hbw | refine ball ?_ _ | refine bset ?_ (by first | exact Nat.le_add_right _ _ | exact Nat.le_refl _ | (simp; omega)) _ | refine bdr ?_ _ | refine Below.drew ?_)⟩

set_option maxRecDepth 100000 in
set_option maxHeartbeats 8000000 in
theorem rtwo_lt (op : ByteArray) (a b : Option Vl) (w : World) (hop : op.toList = [60]) (hoa : okO a) (hob : okO b) : Calls Try.prog 24 #[.string op, retR a, retR b] w (RetB w (retR (valT (cmpO op a b)))) := by
  have HD := Lib.hid fun W => rtest_any op (a.getD zV) (b.getD zV) W (getD_sz hoa) (getD_sz hob)
  have e0 : (op.toList == [65, 78, 68]) = false := by rw [hop]; decide
  have e1 : (op.toList == [79, 82]) = false := by rw [hop]; decide
  have e2 : (op.toList == [43]) = false := by rw [hop]; decide
  have e3 : (op.toList == [45]) = false := by rw [hop]; decide
  have e4 : (op.toList == [42]) = false := by rw [hop]; decide
  have e5 : (op.toList == [61]) = false := by rw [hop]; decide
  have e6 : (op.toList == [60, 62]) = false := by rw [hop]; decide
  have e7 : (op.toList == [60]) = true := by rw [hop]; decide
  have e8 : (op.toList == [60, 61]) = false := by rw [hop]; decide
  have e9 : (op.toList == [62]) = false := by rw [hop]; decide
  have e10 : (op.toList == [62, 61]) = false := by rw [hop]; decide
  clear hop
  have HA := Lib.hid fun W => rtruth_any a W
  have HB := Lib.hid fun W => rtruth_any b W
  unfold retR at HA HB ⊢
  obtain ⟨h0a, h3a'⟩ := truO_bd a
  obtain ⟨h0b, h3b'⟩ := truO_bd b
  have h3a : ¬ 3 < truO a := by omega
  have h3b : ¬ 3 < truO b := by omega
  clear h3a' h3b'
  obtain ⟨x, hx⟩ : ∃ x, a.getD zV = x := ⟨_, rfl⟩
  obtain ⟨p, hp⟩ : ∃ p, a.isNone = p := ⟨_, rfl⟩
  obtain ⟨y, hy⟩ : ∃ y, b.getD zV = y := ⟨_, rfl⟩
  obtain ⟨r, hr⟩ : ∃ r, b.isNone = r := ⟨_, rfl⟩
  obtain ⟨ta, hta⟩ : ∃ t, truO a = t := ⟨_, rfl⟩
  obtain ⟨tb, htb⟩ : ∃ t, truO b = t := ⟨_, rfl⟩
  rw [hx, hp, hta] at HA
  rw [hy, hr, htb] at HB
  rw [hta] at h0a h3a
  rw [htb] at h0b h3b
  rw [hx, hp, hy, hr]
  rw [hx, hy] at HD
  show Calls _ _ _ _ (RetB w (retR (valT (cmpO op a b))))
  have hne := cmp_eq op a b x y p r hx hp hy hr
  have HS := Lib.hid fun W => rvalue_any (testV op x y) W
  obtain ⟨D, hD⟩ : ∃ D, testV op x y = D := ⟨_, rfl⟩
  rw [hD] at HD HS hne
  obtain ⟨q, hq⟩ : ∃ q, valT (cmpO op a b) = q := ⟨_, rfl⟩
  rw [hq] at hne ⊢
  clear hx hp hy hr hta htb hq hD hoa hob
  obtain ⟨xk, xi, xs⟩ := x
  obtain ⟨yk, yi, ys⟩ := y
  simp only [rV] at HA HB ⊢
  obtain ⟨W0, hW0⟩ : ∃ W0, (((w.alloc (.cells #[.int .u8 xk, .int .i64 xi, .string xs, .bool p] 36)).alloc (.cells #[.int .u8 yk, .int .i64 yi, .string ys, .bool r] 36)).alloc (.cells #[.int .u8 0, .int .i64 0, .string ⟨#[]⟩, .bool false] 36)) = W0 := ⟨_, rfl⟩
  have hbw0 : Below w.heap.size w W0 := by rw [← hW0]; exact ball (ball (ball (Below.refl _ _) _) _) _
  have hBX : Blk W0 w.heap.size 36 #[.int .u8 xk, .int .i64 xi, .string xs, .bool p] := by rw [← hW0]; exact Blk.alloc (Blk.alloc (Blk.new _ _ _) _) _
  have hBY : Blk W0 (w.heap.size + 1) 36 #[.int .u8 yk, .int .i64 yi, .string ys, .bool r] := by rw [← hW0]; exact Blk.alloc (Blk.newAt (by simp)) _
  have hBR : Blk W0 (w.heap.size + 1 + 1) 36 #[.int .u8 0, .int .i64 0, .string ⟨#[]⟩, .bool false] := by rw [← hW0]; exact Blk.newAt (by simp)
  have hS : Hid (∀ W, Below W0.heap.size W0 W → W.cell? ⟨w.heap.size, 0, none⟩ = some (.int .u8 xk) ∧ W.cell? ⟨w.heap.size, 1, none⟩ = some (.int .i64 xi) ∧ W.cell? ⟨w.heap.size, 2, none⟩ = some (.string xs) ∧ W.cell? ⟨w.heap.size, 3, none⟩ = some (.bool p) ∧ W.cell? ⟨w.heap.size + 1, 0, none⟩ = some (.int .u8 yk) ∧ W.cell? ⟨w.heap.size + 1, 1, none⟩ = some (.int .i64 yi) ∧ W.cell? ⟨w.heap.size + 1, 2, none⟩ = some (.string ys) ∧ W.cell? ⟨w.heap.size + 1, 3, none⟩ = some (.bool r) ∧ Below W0.heap.size W0 W) := Lib.hid fun W hW => ⟨(hW.cell (p := ⟨w.heap.size, 0, none⟩) hBX.lt).trans (hBX.cell 0), (hW.cell (p := ⟨w.heap.size, 1, none⟩) hBX.lt).trans (hBX.cell 1), (hW.cell (p := ⟨w.heap.size, 2, none⟩) hBX.lt).trans (hBX.cell 2), (hW.cell (p := ⟨w.heap.size, 3, none⟩) hBX.lt).trans (hBX.cell 3), (hW.cell (p := ⟨w.heap.size + 1, 0, none⟩) hBY.lt).trans (hBY.cell 0), (hW.cell (p := ⟨w.heap.size + 1, 1, none⟩) hBY.lt).trans (hBY.cell 1), (hW.cell (p := ⟨w.heap.size + 1, 2, none⟩) hBY.lt).trans (hBY.cell 2), (hW.cell (p := ⟨w.heap.size + 1, 3, none⟩) hBY.lt).trans (hBY.cell 3), hW⟩
  go_enter Try.func24, Try.ntmps24
  go_wp2_with fail
  try rw [hW0]
  clear hW0
  go_region_held3 (fun W => W.cell? ⟨w.heap.size, 0, none⟩ = some (.int .u8 xk) ∧ W.cell? ⟨w.heap.size, 1, none⟩ = some (.int .i64 xi) ∧ W.cell? ⟨w.heap.size, 2, none⟩ = some (.string xs) ∧ W.cell? ⟨w.heap.size, 3, none⟩ = some (.bool p) ∧ W.cell? ⟨w.heap.size + 1, 0, none⟩ = some (.int .u8 yk) ∧ W.cell? ⟨w.heap.size + 1, 1, none⟩ = some (.int .i64 yi) ∧ W.cell? ⟨w.heap.size + 1, 2, none⟩ = some (.string ys) ∧ W.cell? ⟨w.heap.size + 1, 3, none⟩ = some (.bool r) ∧ Below W0.heap.size W0 W)
    (first | exact hS.out _ (by (with_reducible repeat (first | exact Below.refl _ _ | assumption | refine bto0 ?_ (by assumption) | refine ball ?_ _ | refine bdr ?_ _ | refine Below.drew ?_))) | assumption)
    (first | (go_at_call 13; first | ((with_reducible refine (HA.out _).mono ?_); rintro e w1 ⟨rfl, hb1⟩) | ((with_reducible refine (HB.out _).mono ?_); rintro e w2 ⟨rfl, hb2⟩)))
  have hbA : Below W0.heap.size W0 w2 := by with_reducible repeat (first | exact Below.refl _ _ | exact hb2 | exact hb1 | refine bto0 ?_ hb2 | refine bto0 ?_ hb1 | refine bdr ?_ _ | refine Below.drew ?_)
  have hbw2 : Below w.heap.size w w2 := bto0 hbw0 hbA
  have hX2 := blkUp hbA hBX
  have hY2 := blkUp hbA hBY
  have hR2 := blkUp hbA hBR
  have hRd : Reads (w2.alloc (.cells #[.int .i64 ta, .int .i64 tb] 3)) (w2.alloc (.cells #[.int .i64 ta, .int .i64 tb] 3)).heap.size 1 (some ⟨w2.heap.size, 0, none⟩) 2 (vI64 ([ta, tb].map kn)) := by
    refine reads_of_blk (Blk.new w2 3 _) ?_ (by simp [vI64])
    simp [vI64, kn]
    omega
  clear hRd hS HA HB hBX hBY hBR hb1 hb2
  have hbw : Below w.heap.size w (w2.alloc (.cells #[.int .i64 ta, .int .i64 tb] 3)) := ball hbw2 _
  obtain ⟨W2, hW2⟩ : ∃ W2, w2.alloc (.cells #[.int .i64 ta, .int .i64 tb] 3) = W2 := ⟨_, rfl⟩
  have hX3 : Blk W2 w.heap.size 36 #[.int .u8 xk, .int .i64 xi, .string xs, .bool p] := by rw [← hW2]; exact Blk.alloc hX2 _
  have hY3 : Blk W2 (w.heap.size + 1) 36 #[.int .u8 yk, .int .i64 yi, .string ys, .bool r] := by rw [← hW2]; exact Blk.alloc hY2 _
  have hR3 : Blk W2 (w.heap.size + 1 + 1) 36 #[.int .u8 0, .int .i64 0, .string ⟨#[]⟩, .bool false] := by rw [← hW2]; exact Blk.alloc hR2 _
  rw [hW2] at hbw
  try rw [hW2]
  clear hW2 hX2 hY2 hR2
  have hX3_0 : (W2).cell? ⟨w.heap.size, 0, none⟩ = some (.int .u8 xk) := hX3.cell 0
  have hX3_1 : (W2).cell? ⟨w.heap.size, 1, none⟩ = some (.int .i64 xi) := hX3.cell 1
  have hX3_2 : (W2).cell? ⟨w.heap.size, 2, none⟩ = some (.string xs) := hX3.cell 2
  have hX3_3 : (W2).cell? ⟨w.heap.size, 3, none⟩ = some (.bool p) := hX3.cell 3
  have hY3_0 : (W2).cell? ⟨w.heap.size + 1, 0, none⟩ = some (.int .u8 yk) := hY3.cell 0
  have hY3_1 : (W2).cell? ⟨w.heap.size + 1, 1, none⟩ = some (.int .i64 yi) := hY3.cell 1
  have hY3_2 : (W2).cell? ⟨w.heap.size + 1, 2, none⟩ = some (.string ys) := hY3.cell 2
  have hY3_3 : (W2).cell? ⟨w.heap.size + 1, 3, none⟩ = some (.bool r) := hY3.cell 3
  cases p
  · cases r
    · simp only [Bool.or_self, Bool.false_eq_true, reduceIte] at hne
      rw [hne] at HS
      clear hne
      go_wp2_with fail
      refine (HD.out _).mono ?_
      rintro e w3 ⟨rfl, hb3⟩
      have hR4 := hR3.below hb3 hR3.lt
      go_wp2_with fail
      refine (HS.out _).mono ?_
      rintro e w4 ⟨rfl, hb4⟩
      have hbw := bto0 (bto0 hbw hb3) hb4
      have hB : Blk w4 (w.heap.size + 1 + 1) 36 #[.int .u8 0, .int .i64 0, .string ⟨#[]⟩, .bool false] := blkUp hb4 (hR4)
      have hB_0 : (w4).cell? ⟨w.heap.size + 1 + 1, 0, none⟩ = some (.int .u8 0) := hB.cell 0
      have hB_1 : (w4).cell? ⟨w.heap.size + 1 + 1, 1, none⟩ = some (.int .i64 0) := hB.cell 1
      have hB_2 : (w4).cell? ⟨w.heap.size + 1 + 1, 2, none⟩ = some (.string ⟨#[]⟩) := hB.cell 2
      have hB_3 : (w4).cell? ⟨w.heap.size + 1 + 1, 3, none⟩ = some (.bool false) := hB.cell 3
      have hz := hB.lt
      have f0 := hB.frozen 0
      have f1 := hB.frozen 1
      have f2 := hB.frozen 2
      have f3 := hB.frozen 3
      cases q with
      | none =>
        simp only [retR, rV, Option.getD, Option.isNone, zV]
        go_wp2_with fail
        exact rtwo_end (R := w.heap.size + 1 + 1) (o := none) (by (with_reducible repeat (first | refine Blk.alloc ?_ _ | refine Blk.drew ?_ | refine Blk.drewN ?_ _)); exact blk4 hB) (by simp) ⟨rfl, by with_reducible repeat (first | exact Below.refl _ _ | exact hbw | refine ball ?_ _ | refine bset ?_ (by first | exact Nat.le_add_right _ _ | exact Nat.le_refl _ | (simp; omega)) _ | refine bdr ?_ _ | refine Below.drew ?_)⟩
      | some u =>
        obtain ⟨uk, ui, us⟩ := u
        simp only [retR, rV, Option.getD, Option.isNone]
        go_wp2_with fail
        exact rtwo_end (R := w.heap.size + 1 + 1) (o := (some ⟨uk, ui, us⟩)) (by (with_reducible repeat (first | refine Blk.alloc ?_ _ | refine Blk.drew ?_ | refine Blk.drewN ?_ _)); exact blk4 hB) (by simp) ⟨rfl, by with_reducible repeat (first | exact Below.refl _ _ | exact hbw | refine ball ?_ _ | refine bset ?_ (by first | exact Nat.le_add_right _ _ | exact Nat.le_refl _ | (simp; omega)) _ | refine bdr ?_ _ | refine Below.drew ?_)⟩
    · simp only [Bool.or_true, reduceIte] at hne
      subst hne
      have hR3_0 : (W2).cell? ⟨w.heap.size + 1 + 1, 0, none⟩ = some (.int .u8 0) := hR3.cell 0
      have hR3_1 : (W2).cell? ⟨w.heap.size + 1 + 1, 1, none⟩ = some (.int .i64 0) := hR3.cell 1
      have hR3_2 : (W2).cell? ⟨w.heap.size + 1 + 1, 2, none⟩ = some (.string ⟨#[]⟩) := hR3.cell 2
      have hR3_3 : (W2).cell? ⟨w.heap.size + 1 + 1, 3, none⟩ = some (.bool false) := hR3.cell 3
      have hz := hR3.lt
      have f0 := hR3.frozen 0
      have f1 := hR3.frozen 1
      have f2 := hR3.frozen 2
      have f3 := hR3.frozen 3
      go_wp2_with fail
      exact rtwo_end (R := w.heap.size + 1 + 1) (o := none) (by (with_reducible repeat (first | refine Blk.alloc ?_ _ | refine Blk.drew ?_ | refine Blk.drewN ?_ _)); exact blk4 hR3) (by simp) ⟨rfl, by with_reducible repeat (first | exact Below.refl _ _ | exact hbw | refine ball ?_ _ | refine bset ?_ (by first | exact Nat.le_add_right _ _ | exact Nat.le_refl _ | (simp; omega)) _ | refine bdr ?_ _ | refine Below.drew ?_)⟩
  · simp only [Bool.true_or, reduceIte] at hne
    subst hne
    have hR3_0 : (W2).cell? ⟨w.heap.size + 1 + 1, 0, none⟩ = some (.int .u8 0) := hR3.cell 0
    have hR3_1 : (W2).cell? ⟨w.heap.size + 1 + 1, 1, none⟩ = some (.int .i64 0) := hR3.cell 1
    have hR3_2 : (W2).cell? ⟨w.heap.size + 1 + 1, 2, none⟩ = some (.string ⟨#[]⟩) := hR3.cell 2
    have hR3_3 : (W2).cell? ⟨w.heap.size + 1 + 1, 3, none⟩ = some (.bool false) := hR3.cell 3
    have hz := hR3.lt
    have f0 := hR3.frozen 0
    have f1 := hR3.frozen 1
    have f2 := hR3.frozen 2
    have f3 := hR3.frozen 3
    go_wp2_with fail
    exact rtwo_end (R := w.heap.size + 1 + 1) (o := none) (by (with_reducible repeat (first | refine Blk.alloc ?_ _ | refine Blk.drew ?_ | refine Blk.drewN ?_ _)); exact blk4 hR3) (by simp) ⟨rfl, by with_reducible repeat (first | exact Below.refl _ _ | exact hbw | refine ball ?_ _ | refine bset ?_ (by first | exact Nat.le_add_right _ _ | exact Nat.le_refl _ | (simp; omega)) _ | refine bdr ?_ _ | refine Below.drew ?_)⟩

set_option maxRecDepth 100000 in
set_option maxHeartbeats 8000000 in
theorem rtwo_le (op : ByteArray) (a b : Option Vl) (w : World) (hop : op.toList = [60, 61]) (hoa : okO a) (hob : okO b) : Calls Try.prog 24 #[.string op, retR a, retR b] w (RetB w (retR (valT (cmpO op a b)))) := by
  have HD := Lib.hid fun W => rtest_any op (a.getD zV) (b.getD zV) W (getD_sz hoa) (getD_sz hob)
  have e0 : (op.toList == [65, 78, 68]) = false := by rw [hop]; decide
  have e1 : (op.toList == [79, 82]) = false := by rw [hop]; decide
  have e2 : (op.toList == [43]) = false := by rw [hop]; decide
  have e3 : (op.toList == [45]) = false := by rw [hop]; decide
  have e4 : (op.toList == [42]) = false := by rw [hop]; decide
  have e5 : (op.toList == [61]) = false := by rw [hop]; decide
  have e6 : (op.toList == [60, 62]) = false := by rw [hop]; decide
  have e7 : (op.toList == [60]) = false := by rw [hop]; decide
  have e8 : (op.toList == [60, 61]) = true := by rw [hop]; decide
  have e9 : (op.toList == [62]) = false := by rw [hop]; decide
  have e10 : (op.toList == [62, 61]) = false := by rw [hop]; decide
  clear hop
  have HA := Lib.hid fun W => rtruth_any a W
  have HB := Lib.hid fun W => rtruth_any b W
  unfold retR at HA HB ⊢
  obtain ⟨h0a, h3a'⟩ := truO_bd a
  obtain ⟨h0b, h3b'⟩ := truO_bd b
  have h3a : ¬ 3 < truO a := by omega
  have h3b : ¬ 3 < truO b := by omega
  clear h3a' h3b'
  obtain ⟨x, hx⟩ : ∃ x, a.getD zV = x := ⟨_, rfl⟩
  obtain ⟨p, hp⟩ : ∃ p, a.isNone = p := ⟨_, rfl⟩
  obtain ⟨y, hy⟩ : ∃ y, b.getD zV = y := ⟨_, rfl⟩
  obtain ⟨r, hr⟩ : ∃ r, b.isNone = r := ⟨_, rfl⟩
  obtain ⟨ta, hta⟩ : ∃ t, truO a = t := ⟨_, rfl⟩
  obtain ⟨tb, htb⟩ : ∃ t, truO b = t := ⟨_, rfl⟩
  rw [hx, hp, hta] at HA
  rw [hy, hr, htb] at HB
  rw [hta] at h0a h3a
  rw [htb] at h0b h3b
  rw [hx, hp, hy, hr]
  rw [hx, hy] at HD
  show Calls _ _ _ _ (RetB w (retR (valT (cmpO op a b))))
  have hne := cmp_eq op a b x y p r hx hp hy hr
  have HS := Lib.hid fun W => rvalue_any (testV op x y) W
  obtain ⟨D, hD⟩ : ∃ D, testV op x y = D := ⟨_, rfl⟩
  rw [hD] at HD HS hne
  obtain ⟨q, hq⟩ : ∃ q, valT (cmpO op a b) = q := ⟨_, rfl⟩
  rw [hq] at hne ⊢
  clear hx hp hy hr hta htb hq hD hoa hob
  obtain ⟨xk, xi, xs⟩ := x
  obtain ⟨yk, yi, ys⟩ := y
  simp only [rV] at HA HB ⊢
  obtain ⟨W0, hW0⟩ : ∃ W0, (((w.alloc (.cells #[.int .u8 xk, .int .i64 xi, .string xs, .bool p] 36)).alloc (.cells #[.int .u8 yk, .int .i64 yi, .string ys, .bool r] 36)).alloc (.cells #[.int .u8 0, .int .i64 0, .string ⟨#[]⟩, .bool false] 36)) = W0 := ⟨_, rfl⟩
  have hbw0 : Below w.heap.size w W0 := by rw [← hW0]; exact ball (ball (ball (Below.refl _ _) _) _) _
  have hBX : Blk W0 w.heap.size 36 #[.int .u8 xk, .int .i64 xi, .string xs, .bool p] := by rw [← hW0]; exact Blk.alloc (Blk.alloc (Blk.new _ _ _) _) _
  have hBY : Blk W0 (w.heap.size + 1) 36 #[.int .u8 yk, .int .i64 yi, .string ys, .bool r] := by rw [← hW0]; exact Blk.alloc (Blk.newAt (by simp)) _
  have hBR : Blk W0 (w.heap.size + 1 + 1) 36 #[.int .u8 0, .int .i64 0, .string ⟨#[]⟩, .bool false] := by rw [← hW0]; exact Blk.newAt (by simp)
  have hS : Hid (∀ W, Below W0.heap.size W0 W → W.cell? ⟨w.heap.size, 0, none⟩ = some (.int .u8 xk) ∧ W.cell? ⟨w.heap.size, 1, none⟩ = some (.int .i64 xi) ∧ W.cell? ⟨w.heap.size, 2, none⟩ = some (.string xs) ∧ W.cell? ⟨w.heap.size, 3, none⟩ = some (.bool p) ∧ W.cell? ⟨w.heap.size + 1, 0, none⟩ = some (.int .u8 yk) ∧ W.cell? ⟨w.heap.size + 1, 1, none⟩ = some (.int .i64 yi) ∧ W.cell? ⟨w.heap.size + 1, 2, none⟩ = some (.string ys) ∧ W.cell? ⟨w.heap.size + 1, 3, none⟩ = some (.bool r) ∧ Below W0.heap.size W0 W) := Lib.hid fun W hW => ⟨(hW.cell (p := ⟨w.heap.size, 0, none⟩) hBX.lt).trans (hBX.cell 0), (hW.cell (p := ⟨w.heap.size, 1, none⟩) hBX.lt).trans (hBX.cell 1), (hW.cell (p := ⟨w.heap.size, 2, none⟩) hBX.lt).trans (hBX.cell 2), (hW.cell (p := ⟨w.heap.size, 3, none⟩) hBX.lt).trans (hBX.cell 3), (hW.cell (p := ⟨w.heap.size + 1, 0, none⟩) hBY.lt).trans (hBY.cell 0), (hW.cell (p := ⟨w.heap.size + 1, 1, none⟩) hBY.lt).trans (hBY.cell 1), (hW.cell (p := ⟨w.heap.size + 1, 2, none⟩) hBY.lt).trans (hBY.cell 2), (hW.cell (p := ⟨w.heap.size + 1, 3, none⟩) hBY.lt).trans (hBY.cell 3), hW⟩
  go_enter Try.func24, Try.ntmps24
  go_wp2_with fail
  try rw [hW0]
  clear hW0
  go_region_held3 (fun W => W.cell? ⟨w.heap.size, 0, none⟩ = some (.int .u8 xk) ∧ W.cell? ⟨w.heap.size, 1, none⟩ = some (.int .i64 xi) ∧ W.cell? ⟨w.heap.size, 2, none⟩ = some (.string xs) ∧ W.cell? ⟨w.heap.size, 3, none⟩ = some (.bool p) ∧ W.cell? ⟨w.heap.size + 1, 0, none⟩ = some (.int .u8 yk) ∧ W.cell? ⟨w.heap.size + 1, 1, none⟩ = some (.int .i64 yi) ∧ W.cell? ⟨w.heap.size + 1, 2, none⟩ = some (.string ys) ∧ W.cell? ⟨w.heap.size + 1, 3, none⟩ = some (.bool r) ∧ Below W0.heap.size W0 W)
    (first | exact hS.out _ (by (with_reducible repeat (first | exact Below.refl _ _ | assumption | refine bto0 ?_ (by assumption) | refine ball ?_ _ | refine bdr ?_ _ | refine Below.drew ?_))) | assumption)
    (first | (go_at_call 13; first | ((with_reducible refine (HA.out _).mono ?_); rintro e w1 ⟨rfl, hb1⟩) | ((with_reducible refine (HB.out _).mono ?_); rintro e w2 ⟨rfl, hb2⟩)))
  have hbA : Below W0.heap.size W0 w2 := by with_reducible repeat (first | exact Below.refl _ _ | exact hb2 | exact hb1 | refine bto0 ?_ hb2 | refine bto0 ?_ hb1 | refine bdr ?_ _ | refine Below.drew ?_)
  have hbw2 : Below w.heap.size w w2 := bto0 hbw0 hbA
  have hX2 := blkUp hbA hBX
  have hY2 := blkUp hbA hBY
  have hR2 := blkUp hbA hBR
  have hRd : Reads (w2.alloc (.cells #[.int .i64 ta, .int .i64 tb] 3)) (w2.alloc (.cells #[.int .i64 ta, .int .i64 tb] 3)).heap.size 1 (some ⟨w2.heap.size, 0, none⟩) 2 (vI64 ([ta, tb].map kn)) := by
    refine reads_of_blk (Blk.new w2 3 _) ?_ (by simp [vI64])
    simp [vI64, kn]
    omega
  clear hRd hS HA HB hBX hBY hBR hb1 hb2
  have hbw : Below w.heap.size w (w2.alloc (.cells #[.int .i64 ta, .int .i64 tb] 3)) := ball hbw2 _
  obtain ⟨W2, hW2⟩ : ∃ W2, w2.alloc (.cells #[.int .i64 ta, .int .i64 tb] 3) = W2 := ⟨_, rfl⟩
  have hX3 : Blk W2 w.heap.size 36 #[.int .u8 xk, .int .i64 xi, .string xs, .bool p] := by rw [← hW2]; exact Blk.alloc hX2 _
  have hY3 : Blk W2 (w.heap.size + 1) 36 #[.int .u8 yk, .int .i64 yi, .string ys, .bool r] := by rw [← hW2]; exact Blk.alloc hY2 _
  have hR3 : Blk W2 (w.heap.size + 1 + 1) 36 #[.int .u8 0, .int .i64 0, .string ⟨#[]⟩, .bool false] := by rw [← hW2]; exact Blk.alloc hR2 _
  rw [hW2] at hbw
  try rw [hW2]
  clear hW2 hX2 hY2 hR2
  have hX3_0 : (W2).cell? ⟨w.heap.size, 0, none⟩ = some (.int .u8 xk) := hX3.cell 0
  have hX3_1 : (W2).cell? ⟨w.heap.size, 1, none⟩ = some (.int .i64 xi) := hX3.cell 1
  have hX3_2 : (W2).cell? ⟨w.heap.size, 2, none⟩ = some (.string xs) := hX3.cell 2
  have hX3_3 : (W2).cell? ⟨w.heap.size, 3, none⟩ = some (.bool p) := hX3.cell 3
  have hY3_0 : (W2).cell? ⟨w.heap.size + 1, 0, none⟩ = some (.int .u8 yk) := hY3.cell 0
  have hY3_1 : (W2).cell? ⟨w.heap.size + 1, 1, none⟩ = some (.int .i64 yi) := hY3.cell 1
  have hY3_2 : (W2).cell? ⟨w.heap.size + 1, 2, none⟩ = some (.string ys) := hY3.cell 2
  have hY3_3 : (W2).cell? ⟨w.heap.size + 1, 3, none⟩ = some (.bool r) := hY3.cell 3
  cases p
  · cases r
    · simp only [Bool.or_self, Bool.false_eq_true, reduceIte] at hne
      rw [hne] at HS
      clear hne
      go_wp2_with fail
      refine (HD.out _).mono ?_
      rintro e w3 ⟨rfl, hb3⟩
      have hR4 := hR3.below hb3 hR3.lt
      go_wp2_with fail
      refine (HS.out _).mono ?_
      rintro e w4 ⟨rfl, hb4⟩
      have hbw := bto0 (bto0 hbw hb3) hb4
      have hB : Blk w4 (w.heap.size + 1 + 1) 36 #[.int .u8 0, .int .i64 0, .string ⟨#[]⟩, .bool false] := blkUp hb4 (hR4)
      have hB_0 : (w4).cell? ⟨w.heap.size + 1 + 1, 0, none⟩ = some (.int .u8 0) := hB.cell 0
      have hB_1 : (w4).cell? ⟨w.heap.size + 1 + 1, 1, none⟩ = some (.int .i64 0) := hB.cell 1
      have hB_2 : (w4).cell? ⟨w.heap.size + 1 + 1, 2, none⟩ = some (.string ⟨#[]⟩) := hB.cell 2
      have hB_3 : (w4).cell? ⟨w.heap.size + 1 + 1, 3, none⟩ = some (.bool false) := hB.cell 3
      have hz := hB.lt
      have f0 := hB.frozen 0
      have f1 := hB.frozen 1
      have f2 := hB.frozen 2
      have f3 := hB.frozen 3
      cases q with
      | none =>
        simp only [retR, rV, Option.getD, Option.isNone, zV]
        go_wp2_with fail
        exact rtwo_end (R := w.heap.size + 1 + 1) (o := none) (by (with_reducible repeat (first | refine Blk.alloc ?_ _ | refine Blk.drew ?_ | refine Blk.drewN ?_ _)); exact blk4 hB) (by simp) ⟨rfl, by with_reducible repeat (first | exact Below.refl _ _ | exact hbw | refine ball ?_ _ | refine bset ?_ (by first | exact Nat.le_add_right _ _ | exact Nat.le_refl _ | (simp; omega)) _ | refine bdr ?_ _ | refine Below.drew ?_)⟩
      | some u =>
        obtain ⟨uk, ui, us⟩ := u
        simp only [retR, rV, Option.getD, Option.isNone]
        go_wp2_with fail
        exact rtwo_end (R := w.heap.size + 1 + 1) (o := (some ⟨uk, ui, us⟩)) (by (with_reducible repeat (first | refine Blk.alloc ?_ _ | refine Blk.drew ?_ | refine Blk.drewN ?_ _)); exact blk4 hB) (by simp) ⟨rfl, by with_reducible repeat (first | exact Below.refl _ _ | exact hbw | refine ball ?_ _ | refine bset ?_ (by first | exact Nat.le_add_right _ _ | exact Nat.le_refl _ | (simp; omega)) _ | refine bdr ?_ _ | refine Below.drew ?_)⟩
    · simp only [Bool.or_true, reduceIte] at hne
      subst hne
      have hR3_0 : (W2).cell? ⟨w.heap.size + 1 + 1, 0, none⟩ = some (.int .u8 0) := hR3.cell 0
      have hR3_1 : (W2).cell? ⟨w.heap.size + 1 + 1, 1, none⟩ = some (.int .i64 0) := hR3.cell 1
      have hR3_2 : (W2).cell? ⟨w.heap.size + 1 + 1, 2, none⟩ = some (.string ⟨#[]⟩) := hR3.cell 2
      have hR3_3 : (W2).cell? ⟨w.heap.size + 1 + 1, 3, none⟩ = some (.bool false) := hR3.cell 3
      have hz := hR3.lt
      have f0 := hR3.frozen 0
      have f1 := hR3.frozen 1
      have f2 := hR3.frozen 2
      have f3 := hR3.frozen 3
      go_wp2_with fail
      exact rtwo_end (R := w.heap.size + 1 + 1) (o := none) (by (with_reducible repeat (first | refine Blk.alloc ?_ _ | refine Blk.drew ?_ | refine Blk.drewN ?_ _)); exact blk4 hR3) (by simp) ⟨rfl, by with_reducible repeat (first | exact Below.refl _ _ | exact hbw | refine ball ?_ _ | refine bset ?_ (by first | exact Nat.le_add_right _ _ | exact Nat.le_refl _ | (simp; omega)) _ | refine bdr ?_ _ | refine Below.drew ?_)⟩
  · simp only [Bool.true_or, reduceIte] at hne
    subst hne
    have hR3_0 : (W2).cell? ⟨w.heap.size + 1 + 1, 0, none⟩ = some (.int .u8 0) := hR3.cell 0
    have hR3_1 : (W2).cell? ⟨w.heap.size + 1 + 1, 1, none⟩ = some (.int .i64 0) := hR3.cell 1
    have hR3_2 : (W2).cell? ⟨w.heap.size + 1 + 1, 2, none⟩ = some (.string ⟨#[]⟩) := hR3.cell 2
    have hR3_3 : (W2).cell? ⟨w.heap.size + 1 + 1, 3, none⟩ = some (.bool false) := hR3.cell 3
    have hz := hR3.lt
    have f0 := hR3.frozen 0
    have f1 := hR3.frozen 1
    have f2 := hR3.frozen 2
    have f3 := hR3.frozen 3
    go_wp2_with fail
    exact rtwo_end (R := w.heap.size + 1 + 1) (o := none) (by (with_reducible repeat (first | refine Blk.alloc ?_ _ | refine Blk.drew ?_ | refine Blk.drewN ?_ _)); exact blk4 hR3) (by simp) ⟨rfl, by with_reducible repeat (first | exact Below.refl _ _ | exact hbw | refine ball ?_ _ | refine bset ?_ (by first | exact Nat.le_add_right _ _ | exact Nat.le_refl _ | (simp; omega)) _ | refine bdr ?_ _ | refine Below.drew ?_)⟩

set_option maxRecDepth 100000 in
set_option maxHeartbeats 8000000 in
theorem rtwo_gt (op : ByteArray) (a b : Option Vl) (w : World) (hop : op.toList = [62]) (hoa : okO a) (hob : okO b) : Calls Try.prog 24 #[.string op, retR a, retR b] w (RetB w (retR (valT (cmpO op a b)))) := by
  have HD := Lib.hid fun W => rtest_any op (a.getD zV) (b.getD zV) W (getD_sz hoa) (getD_sz hob)
  have e0 : (op.toList == [65, 78, 68]) = false := by rw [hop]; decide
  have e1 : (op.toList == [79, 82]) = false := by rw [hop]; decide
  have e2 : (op.toList == [43]) = false := by rw [hop]; decide
  have e3 : (op.toList == [45]) = false := by rw [hop]; decide
  have e4 : (op.toList == [42]) = false := by rw [hop]; decide
  have e5 : (op.toList == [61]) = false := by rw [hop]; decide
  have e6 : (op.toList == [60, 62]) = false := by rw [hop]; decide
  have e7 : (op.toList == [60]) = false := by rw [hop]; decide
  have e8 : (op.toList == [60, 61]) = false := by rw [hop]; decide
  have e9 : (op.toList == [62]) = true := by rw [hop]; decide
  have e10 : (op.toList == [62, 61]) = false := by rw [hop]; decide
  clear hop
  have HA := Lib.hid fun W => rtruth_any a W
  have HB := Lib.hid fun W => rtruth_any b W
  unfold retR at HA HB ⊢
  obtain ⟨h0a, h3a'⟩ := truO_bd a
  obtain ⟨h0b, h3b'⟩ := truO_bd b
  have h3a : ¬ 3 < truO a := by omega
  have h3b : ¬ 3 < truO b := by omega
  clear h3a' h3b'
  obtain ⟨x, hx⟩ : ∃ x, a.getD zV = x := ⟨_, rfl⟩
  obtain ⟨p, hp⟩ : ∃ p, a.isNone = p := ⟨_, rfl⟩
  obtain ⟨y, hy⟩ : ∃ y, b.getD zV = y := ⟨_, rfl⟩
  obtain ⟨r, hr⟩ : ∃ r, b.isNone = r := ⟨_, rfl⟩
  obtain ⟨ta, hta⟩ : ∃ t, truO a = t := ⟨_, rfl⟩
  obtain ⟨tb, htb⟩ : ∃ t, truO b = t := ⟨_, rfl⟩
  rw [hx, hp, hta] at HA
  rw [hy, hr, htb] at HB
  rw [hta] at h0a h3a
  rw [htb] at h0b h3b
  rw [hx, hp, hy, hr]
  rw [hx, hy] at HD
  show Calls _ _ _ _ (RetB w (retR (valT (cmpO op a b))))
  have hne := cmp_eq op a b x y p r hx hp hy hr
  have HS := Lib.hid fun W => rvalue_any (testV op x y) W
  obtain ⟨D, hD⟩ : ∃ D, testV op x y = D := ⟨_, rfl⟩
  rw [hD] at HD HS hne
  obtain ⟨q, hq⟩ : ∃ q, valT (cmpO op a b) = q := ⟨_, rfl⟩
  rw [hq] at hne ⊢
  clear hx hp hy hr hta htb hq hD hoa hob
  obtain ⟨xk, xi, xs⟩ := x
  obtain ⟨yk, yi, ys⟩ := y
  simp only [rV] at HA HB ⊢
  obtain ⟨W0, hW0⟩ : ∃ W0, (((w.alloc (.cells #[.int .u8 xk, .int .i64 xi, .string xs, .bool p] 36)).alloc (.cells #[.int .u8 yk, .int .i64 yi, .string ys, .bool r] 36)).alloc (.cells #[.int .u8 0, .int .i64 0, .string ⟨#[]⟩, .bool false] 36)) = W0 := ⟨_, rfl⟩
  have hbw0 : Below w.heap.size w W0 := by rw [← hW0]; exact ball (ball (ball (Below.refl _ _) _) _) _
  have hBX : Blk W0 w.heap.size 36 #[.int .u8 xk, .int .i64 xi, .string xs, .bool p] := by rw [← hW0]; exact Blk.alloc (Blk.alloc (Blk.new _ _ _) _) _
  have hBY : Blk W0 (w.heap.size + 1) 36 #[.int .u8 yk, .int .i64 yi, .string ys, .bool r] := by rw [← hW0]; exact Blk.alloc (Blk.newAt (by simp)) _
  have hBR : Blk W0 (w.heap.size + 1 + 1) 36 #[.int .u8 0, .int .i64 0, .string ⟨#[]⟩, .bool false] := by rw [← hW0]; exact Blk.newAt (by simp)
  have hS : Hid (∀ W, Below W0.heap.size W0 W → W.cell? ⟨w.heap.size, 0, none⟩ = some (.int .u8 xk) ∧ W.cell? ⟨w.heap.size, 1, none⟩ = some (.int .i64 xi) ∧ W.cell? ⟨w.heap.size, 2, none⟩ = some (.string xs) ∧ W.cell? ⟨w.heap.size, 3, none⟩ = some (.bool p) ∧ W.cell? ⟨w.heap.size + 1, 0, none⟩ = some (.int .u8 yk) ∧ W.cell? ⟨w.heap.size + 1, 1, none⟩ = some (.int .i64 yi) ∧ W.cell? ⟨w.heap.size + 1, 2, none⟩ = some (.string ys) ∧ W.cell? ⟨w.heap.size + 1, 3, none⟩ = some (.bool r) ∧ Below W0.heap.size W0 W) := Lib.hid fun W hW => ⟨(hW.cell (p := ⟨w.heap.size, 0, none⟩) hBX.lt).trans (hBX.cell 0), (hW.cell (p := ⟨w.heap.size, 1, none⟩) hBX.lt).trans (hBX.cell 1), (hW.cell (p := ⟨w.heap.size, 2, none⟩) hBX.lt).trans (hBX.cell 2), (hW.cell (p := ⟨w.heap.size, 3, none⟩) hBX.lt).trans (hBX.cell 3), (hW.cell (p := ⟨w.heap.size + 1, 0, none⟩) hBY.lt).trans (hBY.cell 0), (hW.cell (p := ⟨w.heap.size + 1, 1, none⟩) hBY.lt).trans (hBY.cell 1), (hW.cell (p := ⟨w.heap.size + 1, 2, none⟩) hBY.lt).trans (hBY.cell 2), (hW.cell (p := ⟨w.heap.size + 1, 3, none⟩) hBY.lt).trans (hBY.cell 3), hW⟩
  go_enter Try.func24, Try.ntmps24
  go_wp2_with fail
  try rw [hW0]
  clear hW0
  go_region_held3 (fun W => W.cell? ⟨w.heap.size, 0, none⟩ = some (.int .u8 xk) ∧ W.cell? ⟨w.heap.size, 1, none⟩ = some (.int .i64 xi) ∧ W.cell? ⟨w.heap.size, 2, none⟩ = some (.string xs) ∧ W.cell? ⟨w.heap.size, 3, none⟩ = some (.bool p) ∧ W.cell? ⟨w.heap.size + 1, 0, none⟩ = some (.int .u8 yk) ∧ W.cell? ⟨w.heap.size + 1, 1, none⟩ = some (.int .i64 yi) ∧ W.cell? ⟨w.heap.size + 1, 2, none⟩ = some (.string ys) ∧ W.cell? ⟨w.heap.size + 1, 3, none⟩ = some (.bool r) ∧ Below W0.heap.size W0 W)
    (first | exact hS.out _ (by (with_reducible repeat (first | exact Below.refl _ _ | assumption | refine bto0 ?_ (by assumption) | refine ball ?_ _ | refine bdr ?_ _ | refine Below.drew ?_))) | assumption)
    (first | (go_at_call 13; first | ((with_reducible refine (HA.out _).mono ?_); rintro e w1 ⟨rfl, hb1⟩) | ((with_reducible refine (HB.out _).mono ?_); rintro e w2 ⟨rfl, hb2⟩)))
  have hbA : Below W0.heap.size W0 w2 := by with_reducible repeat (first | exact Below.refl _ _ | exact hb2 | exact hb1 | refine bto0 ?_ hb2 | refine bto0 ?_ hb1 | refine bdr ?_ _ | refine Below.drew ?_)
  have hbw2 : Below w.heap.size w w2 := bto0 hbw0 hbA
  have hX2 := blkUp hbA hBX
  have hY2 := blkUp hbA hBY
  have hR2 := blkUp hbA hBR
  have hRd : Reads (w2.alloc (.cells #[.int .i64 ta, .int .i64 tb] 3)) (w2.alloc (.cells #[.int .i64 ta, .int .i64 tb] 3)).heap.size 1 (some ⟨w2.heap.size, 0, none⟩) 2 (vI64 ([ta, tb].map kn)) := by
    refine reads_of_blk (Blk.new w2 3 _) ?_ (by simp [vI64])
    simp [vI64, kn]
    omega
  clear hRd hS HA HB hBX hBY hBR hb1 hb2
  have hbw : Below w.heap.size w (w2.alloc (.cells #[.int .i64 ta, .int .i64 tb] 3)) := ball hbw2 _
  obtain ⟨W2, hW2⟩ : ∃ W2, w2.alloc (.cells #[.int .i64 ta, .int .i64 tb] 3) = W2 := ⟨_, rfl⟩
  have hX3 : Blk W2 w.heap.size 36 #[.int .u8 xk, .int .i64 xi, .string xs, .bool p] := by rw [← hW2]; exact Blk.alloc hX2 _
  have hY3 : Blk W2 (w.heap.size + 1) 36 #[.int .u8 yk, .int .i64 yi, .string ys, .bool r] := by rw [← hW2]; exact Blk.alloc hY2 _
  have hR3 : Blk W2 (w.heap.size + 1 + 1) 36 #[.int .u8 0, .int .i64 0, .string ⟨#[]⟩, .bool false] := by rw [← hW2]; exact Blk.alloc hR2 _
  rw [hW2] at hbw
  try rw [hW2]
  clear hW2 hX2 hY2 hR2
  have hX3_0 : (W2).cell? ⟨w.heap.size, 0, none⟩ = some (.int .u8 xk) := hX3.cell 0
  have hX3_1 : (W2).cell? ⟨w.heap.size, 1, none⟩ = some (.int .i64 xi) := hX3.cell 1
  have hX3_2 : (W2).cell? ⟨w.heap.size, 2, none⟩ = some (.string xs) := hX3.cell 2
  have hX3_3 : (W2).cell? ⟨w.heap.size, 3, none⟩ = some (.bool p) := hX3.cell 3
  have hY3_0 : (W2).cell? ⟨w.heap.size + 1, 0, none⟩ = some (.int .u8 yk) := hY3.cell 0
  have hY3_1 : (W2).cell? ⟨w.heap.size + 1, 1, none⟩ = some (.int .i64 yi) := hY3.cell 1
  have hY3_2 : (W2).cell? ⟨w.heap.size + 1, 2, none⟩ = some (.string ys) := hY3.cell 2
  have hY3_3 : (W2).cell? ⟨w.heap.size + 1, 3, none⟩ = some (.bool r) := hY3.cell 3
  cases p
  · cases r
    · simp only [Bool.or_self, Bool.false_eq_true, reduceIte] at hne
      rw [hne] at HS
      clear hne
      go_wp2_with fail
      refine (HD.out _).mono ?_
      rintro e w3 ⟨rfl, hb3⟩
      have hR4 := hR3.below hb3 hR3.lt
      go_wp2_with fail
      refine (HS.out _).mono ?_
      rintro e w4 ⟨rfl, hb4⟩
      have hbw := bto0 (bto0 hbw hb3) hb4
      have hB : Blk w4 (w.heap.size + 1 + 1) 36 #[.int .u8 0, .int .i64 0, .string ⟨#[]⟩, .bool false] := blkUp hb4 (hR4)
      have hB_0 : (w4).cell? ⟨w.heap.size + 1 + 1, 0, none⟩ = some (.int .u8 0) := hB.cell 0
      have hB_1 : (w4).cell? ⟨w.heap.size + 1 + 1, 1, none⟩ = some (.int .i64 0) := hB.cell 1
      have hB_2 : (w4).cell? ⟨w.heap.size + 1 + 1, 2, none⟩ = some (.string ⟨#[]⟩) := hB.cell 2
      have hB_3 : (w4).cell? ⟨w.heap.size + 1 + 1, 3, none⟩ = some (.bool false) := hB.cell 3
      have hz := hB.lt
      have f0 := hB.frozen 0
      have f1 := hB.frozen 1
      have f2 := hB.frozen 2
      have f3 := hB.frozen 3
      cases q with
      | none =>
        simp only [retR, rV, Option.getD, Option.isNone, zV]
        go_wp2_with fail
        exact rtwo_end (R := w.heap.size + 1 + 1) (o := none) (by (with_reducible repeat (first | refine Blk.alloc ?_ _ | refine Blk.drew ?_ | refine Blk.drewN ?_ _)); exact blk4 hB) (by simp) ⟨rfl, by with_reducible repeat (first | exact Below.refl _ _ | exact hbw | refine ball ?_ _ | refine bset ?_ (by first | exact Nat.le_add_right _ _ | exact Nat.le_refl _ | (simp; omega)) _ | refine bdr ?_ _ | refine Below.drew ?_)⟩
      | some u =>
        obtain ⟨uk, ui, us⟩ := u
        simp only [retR, rV, Option.getD, Option.isNone]
        go_wp2_with fail
        exact rtwo_end (R := w.heap.size + 1 + 1) (o := (some ⟨uk, ui, us⟩)) (by (with_reducible repeat (first | refine Blk.alloc ?_ _ | refine Blk.drew ?_ | refine Blk.drewN ?_ _)); exact blk4 hB) (by simp) ⟨rfl, by with_reducible repeat (first | exact Below.refl _ _ | exact hbw | refine ball ?_ _ | refine bset ?_ (by first | exact Nat.le_add_right _ _ | exact Nat.le_refl _ | (simp; omega)) _ | refine bdr ?_ _ | refine Below.drew ?_)⟩
    · simp only [Bool.or_true, reduceIte] at hne
      subst hne
      have hR3_0 : (W2).cell? ⟨w.heap.size + 1 + 1, 0, none⟩ = some (.int .u8 0) := hR3.cell 0
      have hR3_1 : (W2).cell? ⟨w.heap.size + 1 + 1, 1, none⟩ = some (.int .i64 0) := hR3.cell 1
      have hR3_2 : (W2).cell? ⟨w.heap.size + 1 + 1, 2, none⟩ = some (.string ⟨#[]⟩) := hR3.cell 2
      have hR3_3 : (W2).cell? ⟨w.heap.size + 1 + 1, 3, none⟩ = some (.bool false) := hR3.cell 3
      have hz := hR3.lt
      have f0 := hR3.frozen 0
      have f1 := hR3.frozen 1
      have f2 := hR3.frozen 2
      have f3 := hR3.frozen 3
      go_wp2_with fail
      exact rtwo_end (R := w.heap.size + 1 + 1) (o := none) (by (with_reducible repeat (first | refine Blk.alloc ?_ _ | refine Blk.drew ?_ | refine Blk.drewN ?_ _)); exact blk4 hR3) (by simp) ⟨rfl, by with_reducible repeat (first | exact Below.refl _ _ | exact hbw | refine ball ?_ _ | refine bset ?_ (by first | exact Nat.le_add_right _ _ | exact Nat.le_refl _ | (simp; omega)) _ | refine bdr ?_ _ | refine Below.drew ?_)⟩
  · simp only [Bool.true_or, reduceIte] at hne
    subst hne
    have hR3_0 : (W2).cell? ⟨w.heap.size + 1 + 1, 0, none⟩ = some (.int .u8 0) := hR3.cell 0
    have hR3_1 : (W2).cell? ⟨w.heap.size + 1 + 1, 1, none⟩ = some (.int .i64 0) := hR3.cell 1
    have hR3_2 : (W2).cell? ⟨w.heap.size + 1 + 1, 2, none⟩ = some (.string ⟨#[]⟩) := hR3.cell 2
    have hR3_3 : (W2).cell? ⟨w.heap.size + 1 + 1, 3, none⟩ = some (.bool false) := hR3.cell 3
    have hz := hR3.lt
    have f0 := hR3.frozen 0
    have f1 := hR3.frozen 1
    have f2 := hR3.frozen 2
    have f3 := hR3.frozen 3
    go_wp2_with fail
    exact rtwo_end (R := w.heap.size + 1 + 1) (o := none) (by (with_reducible repeat (first | refine Blk.alloc ?_ _ | refine Blk.drew ?_ | refine Blk.drewN ?_ _)); exact blk4 hR3) (by simp) ⟨rfl, by with_reducible repeat (first | exact Below.refl _ _ | exact hbw | refine ball ?_ _ | refine bset ?_ (by first | exact Nat.le_add_right _ _ | exact Nat.le_refl _ | (simp; omega)) _ | refine bdr ?_ _ | refine Below.drew ?_)⟩

set_option maxRecDepth 100000 in
set_option maxHeartbeats 8000000 in
theorem rtwo_ge (op : ByteArray) (a b : Option Vl) (w : World) (hop : op.toList = [62, 61]) (hoa : okO a) (hob : okO b) : Calls Try.prog 24 #[.string op, retR a, retR b] w (RetB w (retR (valT (cmpO op a b)))) := by
  have HD := Lib.hid fun W => rtest_any op (a.getD zV) (b.getD zV) W (getD_sz hoa) (getD_sz hob)
  have e0 : (op.toList == [65, 78, 68]) = false := by rw [hop]; decide
  have e1 : (op.toList == [79, 82]) = false := by rw [hop]; decide
  have e2 : (op.toList == [43]) = false := by rw [hop]; decide
  have e3 : (op.toList == [45]) = false := by rw [hop]; decide
  have e4 : (op.toList == [42]) = false := by rw [hop]; decide
  have e5 : (op.toList == [61]) = false := by rw [hop]; decide
  have e6 : (op.toList == [60, 62]) = false := by rw [hop]; decide
  have e7 : (op.toList == [60]) = false := by rw [hop]; decide
  have e8 : (op.toList == [60, 61]) = false := by rw [hop]; decide
  have e9 : (op.toList == [62]) = false := by rw [hop]; decide
  have e10 : (op.toList == [62, 61]) = true := by rw [hop]; decide
  clear hop
  have HA := Lib.hid fun W => rtruth_any a W
  have HB := Lib.hid fun W => rtruth_any b W
  unfold retR at HA HB ⊢
  obtain ⟨h0a, h3a'⟩ := truO_bd a
  obtain ⟨h0b, h3b'⟩ := truO_bd b
  have h3a : ¬ 3 < truO a := by omega
  have h3b : ¬ 3 < truO b := by omega
  clear h3a' h3b'
  obtain ⟨x, hx⟩ : ∃ x, a.getD zV = x := ⟨_, rfl⟩
  obtain ⟨p, hp⟩ : ∃ p, a.isNone = p := ⟨_, rfl⟩
  obtain ⟨y, hy⟩ : ∃ y, b.getD zV = y := ⟨_, rfl⟩
  obtain ⟨r, hr⟩ : ∃ r, b.isNone = r := ⟨_, rfl⟩
  obtain ⟨ta, hta⟩ : ∃ t, truO a = t := ⟨_, rfl⟩
  obtain ⟨tb, htb⟩ : ∃ t, truO b = t := ⟨_, rfl⟩
  rw [hx, hp, hta] at HA
  rw [hy, hr, htb] at HB
  rw [hta] at h0a h3a
  rw [htb] at h0b h3b
  rw [hx, hp, hy, hr]
  rw [hx, hy] at HD
  show Calls _ _ _ _ (RetB w (retR (valT (cmpO op a b))))
  have hne := cmp_eq op a b x y p r hx hp hy hr
  have HS := Lib.hid fun W => rvalue_any (testV op x y) W
  obtain ⟨D, hD⟩ : ∃ D, testV op x y = D := ⟨_, rfl⟩
  rw [hD] at HD HS hne
  obtain ⟨q, hq⟩ : ∃ q, valT (cmpO op a b) = q := ⟨_, rfl⟩
  rw [hq] at hne ⊢
  clear hx hp hy hr hta htb hq hD hoa hob
  obtain ⟨xk, xi, xs⟩ := x
  obtain ⟨yk, yi, ys⟩ := y
  simp only [rV] at HA HB ⊢
  obtain ⟨W0, hW0⟩ : ∃ W0, (((w.alloc (.cells #[.int .u8 xk, .int .i64 xi, .string xs, .bool p] 36)).alloc (.cells #[.int .u8 yk, .int .i64 yi, .string ys, .bool r] 36)).alloc (.cells #[.int .u8 0, .int .i64 0, .string ⟨#[]⟩, .bool false] 36)) = W0 := ⟨_, rfl⟩
  have hbw0 : Below w.heap.size w W0 := by rw [← hW0]; exact ball (ball (ball (Below.refl _ _) _) _) _
  have hBX : Blk W0 w.heap.size 36 #[.int .u8 xk, .int .i64 xi, .string xs, .bool p] := by rw [← hW0]; exact Blk.alloc (Blk.alloc (Blk.new _ _ _) _) _
  have hBY : Blk W0 (w.heap.size + 1) 36 #[.int .u8 yk, .int .i64 yi, .string ys, .bool r] := by rw [← hW0]; exact Blk.alloc (Blk.newAt (by simp)) _
  have hBR : Blk W0 (w.heap.size + 1 + 1) 36 #[.int .u8 0, .int .i64 0, .string ⟨#[]⟩, .bool false] := by rw [← hW0]; exact Blk.newAt (by simp)
  have hS : Hid (∀ W, Below W0.heap.size W0 W → W.cell? ⟨w.heap.size, 0, none⟩ = some (.int .u8 xk) ∧ W.cell? ⟨w.heap.size, 1, none⟩ = some (.int .i64 xi) ∧ W.cell? ⟨w.heap.size, 2, none⟩ = some (.string xs) ∧ W.cell? ⟨w.heap.size, 3, none⟩ = some (.bool p) ∧ W.cell? ⟨w.heap.size + 1, 0, none⟩ = some (.int .u8 yk) ∧ W.cell? ⟨w.heap.size + 1, 1, none⟩ = some (.int .i64 yi) ∧ W.cell? ⟨w.heap.size + 1, 2, none⟩ = some (.string ys) ∧ W.cell? ⟨w.heap.size + 1, 3, none⟩ = some (.bool r) ∧ Below W0.heap.size W0 W) := Lib.hid fun W hW => ⟨(hW.cell (p := ⟨w.heap.size, 0, none⟩) hBX.lt).trans (hBX.cell 0), (hW.cell (p := ⟨w.heap.size, 1, none⟩) hBX.lt).trans (hBX.cell 1), (hW.cell (p := ⟨w.heap.size, 2, none⟩) hBX.lt).trans (hBX.cell 2), (hW.cell (p := ⟨w.heap.size, 3, none⟩) hBX.lt).trans (hBX.cell 3), (hW.cell (p := ⟨w.heap.size + 1, 0, none⟩) hBY.lt).trans (hBY.cell 0), (hW.cell (p := ⟨w.heap.size + 1, 1, none⟩) hBY.lt).trans (hBY.cell 1), (hW.cell (p := ⟨w.heap.size + 1, 2, none⟩) hBY.lt).trans (hBY.cell 2), (hW.cell (p := ⟨w.heap.size + 1, 3, none⟩) hBY.lt).trans (hBY.cell 3), hW⟩
  go_enter Try.func24, Try.ntmps24
  go_wp2_with fail
  try rw [hW0]
  clear hW0
  go_region_held3 (fun W => W.cell? ⟨w.heap.size, 0, none⟩ = some (.int .u8 xk) ∧ W.cell? ⟨w.heap.size, 1, none⟩ = some (.int .i64 xi) ∧ W.cell? ⟨w.heap.size, 2, none⟩ = some (.string xs) ∧ W.cell? ⟨w.heap.size, 3, none⟩ = some (.bool p) ∧ W.cell? ⟨w.heap.size + 1, 0, none⟩ = some (.int .u8 yk) ∧ W.cell? ⟨w.heap.size + 1, 1, none⟩ = some (.int .i64 yi) ∧ W.cell? ⟨w.heap.size + 1, 2, none⟩ = some (.string ys) ∧ W.cell? ⟨w.heap.size + 1, 3, none⟩ = some (.bool r) ∧ Below W0.heap.size W0 W)
    (first | exact hS.out _ (by (with_reducible repeat (first | exact Below.refl _ _ | assumption | refine bto0 ?_ (by assumption) | refine ball ?_ _ | refine bdr ?_ _ | refine Below.drew ?_))) | assumption)
    (first | (go_at_call 13; first | ((with_reducible refine (HA.out _).mono ?_); rintro e w1 ⟨rfl, hb1⟩) | ((with_reducible refine (HB.out _).mono ?_); rintro e w2 ⟨rfl, hb2⟩)))
  have hbA : Below W0.heap.size W0 w2 := by with_reducible repeat (first | exact Below.refl _ _ | exact hb2 | exact hb1 | refine bto0 ?_ hb2 | refine bto0 ?_ hb1 | refine bdr ?_ _ | refine Below.drew ?_)
  have hbw2 : Below w.heap.size w w2 := bto0 hbw0 hbA
  have hX2 := blkUp hbA hBX
  have hY2 := blkUp hbA hBY
  have hR2 := blkUp hbA hBR
  have hRd : Reads (w2.alloc (.cells #[.int .i64 ta, .int .i64 tb] 3)) (w2.alloc (.cells #[.int .i64 ta, .int .i64 tb] 3)).heap.size 1 (some ⟨w2.heap.size, 0, none⟩) 2 (vI64 ([ta, tb].map kn)) := by
    refine reads_of_blk (Blk.new w2 3 _) ?_ (by simp [vI64])
    simp [vI64, kn]
    omega
  clear hRd hS HA HB hBX hBY hBR hb1 hb2
  have hbw : Below w.heap.size w (w2.alloc (.cells #[.int .i64 ta, .int .i64 tb] 3)) := ball hbw2 _
  obtain ⟨W2, hW2⟩ : ∃ W2, w2.alloc (.cells #[.int .i64 ta, .int .i64 tb] 3) = W2 := ⟨_, rfl⟩
  have hX3 : Blk W2 w.heap.size 36 #[.int .u8 xk, .int .i64 xi, .string xs, .bool p] := by rw [← hW2]; exact Blk.alloc hX2 _
  have hY3 : Blk W2 (w.heap.size + 1) 36 #[.int .u8 yk, .int .i64 yi, .string ys, .bool r] := by rw [← hW2]; exact Blk.alloc hY2 _
  have hR3 : Blk W2 (w.heap.size + 1 + 1) 36 #[.int .u8 0, .int .i64 0, .string ⟨#[]⟩, .bool false] := by rw [← hW2]; exact Blk.alloc hR2 _
  rw [hW2] at hbw
  try rw [hW2]
  clear hW2 hX2 hY2 hR2
  have hX3_0 : (W2).cell? ⟨w.heap.size, 0, none⟩ = some (.int .u8 xk) := hX3.cell 0
  have hX3_1 : (W2).cell? ⟨w.heap.size, 1, none⟩ = some (.int .i64 xi) := hX3.cell 1
  have hX3_2 : (W2).cell? ⟨w.heap.size, 2, none⟩ = some (.string xs) := hX3.cell 2
  have hX3_3 : (W2).cell? ⟨w.heap.size, 3, none⟩ = some (.bool p) := hX3.cell 3
  have hY3_0 : (W2).cell? ⟨w.heap.size + 1, 0, none⟩ = some (.int .u8 yk) := hY3.cell 0
  have hY3_1 : (W2).cell? ⟨w.heap.size + 1, 1, none⟩ = some (.int .i64 yi) := hY3.cell 1
  have hY3_2 : (W2).cell? ⟨w.heap.size + 1, 2, none⟩ = some (.string ys) := hY3.cell 2
  have hY3_3 : (W2).cell? ⟨w.heap.size + 1, 3, none⟩ = some (.bool r) := hY3.cell 3
  cases p
  · cases r
    · simp only [Bool.or_self, Bool.false_eq_true, reduceIte] at hne
      rw [hne] at HS
      clear hne
      go_wp2_with fail
      refine (HD.out _).mono ?_
      rintro e w3 ⟨rfl, hb3⟩
      have hR4 := hR3.below hb3 hR3.lt
      go_wp2_with fail
      refine (HS.out _).mono ?_
      rintro e w4 ⟨rfl, hb4⟩
      have hbw := bto0 (bto0 hbw hb3) hb4
      have hB : Blk w4 (w.heap.size + 1 + 1) 36 #[.int .u8 0, .int .i64 0, .string ⟨#[]⟩, .bool false] := blkUp hb4 (hR4)
      have hB_0 : (w4).cell? ⟨w.heap.size + 1 + 1, 0, none⟩ = some (.int .u8 0) := hB.cell 0
      have hB_1 : (w4).cell? ⟨w.heap.size + 1 + 1, 1, none⟩ = some (.int .i64 0) := hB.cell 1
      have hB_2 : (w4).cell? ⟨w.heap.size + 1 + 1, 2, none⟩ = some (.string ⟨#[]⟩) := hB.cell 2
      have hB_3 : (w4).cell? ⟨w.heap.size + 1 + 1, 3, none⟩ = some (.bool false) := hB.cell 3
      have hz := hB.lt
      have f0 := hB.frozen 0
      have f1 := hB.frozen 1
      have f2 := hB.frozen 2
      have f3 := hB.frozen 3
      cases q with
      | none =>
        simp only [retR, rV, Option.getD, Option.isNone, zV]
        go_wp2_with fail
        exact rtwo_end (R := w.heap.size + 1 + 1) (o := none) (by (with_reducible repeat (first | refine Blk.alloc ?_ _ | refine Blk.drew ?_ | refine Blk.drewN ?_ _)); exact blk4 hB) (by simp) ⟨rfl, by with_reducible repeat (first | exact Below.refl _ _ | exact hbw | refine ball ?_ _ | refine bset ?_ (by first | exact Nat.le_add_right _ _ | exact Nat.le_refl _ | (simp; omega)) _ | refine bdr ?_ _ | refine Below.drew ?_)⟩
      | some u =>
        obtain ⟨uk, ui, us⟩ := u
        simp only [retR, rV, Option.getD, Option.isNone]
        go_wp2_with fail
        exact rtwo_end (R := w.heap.size + 1 + 1) (o := (some ⟨uk, ui, us⟩)) (by (with_reducible repeat (first | refine Blk.alloc ?_ _ | refine Blk.drew ?_ | refine Blk.drewN ?_ _)); exact blk4 hB) (by simp) ⟨rfl, by with_reducible repeat (first | exact Below.refl _ _ | exact hbw | refine ball ?_ _ | refine bset ?_ (by first | exact Nat.le_add_right _ _ | exact Nat.le_refl _ | (simp; omega)) _ | refine bdr ?_ _ | refine Below.drew ?_)⟩
    · simp only [Bool.or_true, reduceIte] at hne
      subst hne
      have hR3_0 : (W2).cell? ⟨w.heap.size + 1 + 1, 0, none⟩ = some (.int .u8 0) := hR3.cell 0
      have hR3_1 : (W2).cell? ⟨w.heap.size + 1 + 1, 1, none⟩ = some (.int .i64 0) := hR3.cell 1
      have hR3_2 : (W2).cell? ⟨w.heap.size + 1 + 1, 2, none⟩ = some (.string ⟨#[]⟩) := hR3.cell 2
      have hR3_3 : (W2).cell? ⟨w.heap.size + 1 + 1, 3, none⟩ = some (.bool false) := hR3.cell 3
      have hz := hR3.lt
      have f0 := hR3.frozen 0
      have f1 := hR3.frozen 1
      have f2 := hR3.frozen 2
      have f3 := hR3.frozen 3
      go_wp2_with fail
      exact rtwo_end (R := w.heap.size + 1 + 1) (o := none) (by (with_reducible repeat (first | refine Blk.alloc ?_ _ | refine Blk.drew ?_ | refine Blk.drewN ?_ _)); exact blk4 hR3) (by simp) ⟨rfl, by with_reducible repeat (first | exact Below.refl _ _ | exact hbw | refine ball ?_ _ | refine bset ?_ (by first | exact Nat.le_add_right _ _ | exact Nat.le_refl _ | (simp; omega)) _ | refine bdr ?_ _ | refine Below.drew ?_)⟩
  · simp only [Bool.true_or, reduceIte] at hne
    subst hne
    have hR3_0 : (W2).cell? ⟨w.heap.size + 1 + 1, 0, none⟩ = some (.int .u8 0) := hR3.cell 0
    have hR3_1 : (W2).cell? ⟨w.heap.size + 1 + 1, 1, none⟩ = some (.int .i64 0) := hR3.cell 1
    have hR3_2 : (W2).cell? ⟨w.heap.size + 1 + 1, 2, none⟩ = some (.string ⟨#[]⟩) := hR3.cell 2
    have hR3_3 : (W2).cell? ⟨w.heap.size + 1 + 1, 3, none⟩ = some (.bool false) := hR3.cell 3
    have hz := hR3.lt
    have f0 := hR3.frozen 0
    have f1 := hR3.frozen 1
    have f2 := hR3.frozen 2
    have f3 := hR3.frozen 3
    go_wp2_with fail
    exact rtwo_end (R := w.heap.size + 1 + 1) (o := none) (by (with_reducible repeat (first | refine Blk.alloc ?_ _ | refine Blk.drew ?_ | refine Blk.drewN ?_ _)); exact blk4 hR3) (by simp) ⟨rfl, by with_reducible repeat (first | exact Below.refl _ _ | exact hbw | refine ball ?_ _ | refine bset ?_ (by first | exact Nat.le_add_right _ _ | exact Nat.le_refl _ | (simp; omega)) _ | refine bdr ?_ _ | refine Below.drew ?_)⟩

set_option maxRecDepth 100000 in
set_option maxHeartbeats 8000000 in
theorem rtwo_no (op : ByteArray) (a b : Option Vl) (w : World) (h0 : op.toList ≠ [65, 78, 68]) (h1 : op.toList ≠ [79, 82]) (h2 : op.toList ≠ [43]) (h3 : op.toList ≠ [45]) (h4 : op.toList ≠ [42]) (h5 : op.toList ≠ [61]) (h6 : op.toList ≠ [60, 62]) (h7 : op.toList ≠ [60]) (h8 : op.toList ≠ [60, 61]) (h9 : op.toList ≠ [62]) (h10 : op.toList ≠ [62, 61]) : Calls Try.prog 24 #[.string op, retR a, retR b] w (RetB w (retR none)) := by
  have e0 : (op.toList == [65, 78, 68]) = false := by simpa using h0
  have e1 : (op.toList == [79, 82]) = false := by simpa using h1
  have e2 : (op.toList == [43]) = false := by simpa using h2
  have e3 : (op.toList == [45]) = false := by simpa using h3
  have e4 : (op.toList == [42]) = false := by simpa using h4
  have e5 : (op.toList == [61]) = false := by simpa using h5
  have e6 : (op.toList == [60, 62]) = false := by simpa using h6
  have e7 : (op.toList == [60]) = false := by simpa using h7
  have e8 : (op.toList == [60, 61]) = false := by simpa using h8
  have e9 : (op.toList == [62]) = false := by simpa using h9
  have e10 : (op.toList == [62, 61]) = false := by simpa using h10
  clear h0 h1 h2 h3 h4 h5 h6 h7 h8 h9 h10
  have HA := Lib.hid fun W => rtruth_any a W
  have HB := Lib.hid fun W => rtruth_any b W
  unfold retR at HA HB ⊢
  obtain ⟨h0a, h3a'⟩ := truO_bd a
  obtain ⟨h0b, h3b'⟩ := truO_bd b
  have h3a : ¬ 3 < truO a := by omega
  have h3b : ¬ 3 < truO b := by omega
  clear h3a' h3b'
  obtain ⟨x, hx⟩ : ∃ x, a.getD zV = x := ⟨_, rfl⟩
  obtain ⟨p, hp⟩ : ∃ p, a.isNone = p := ⟨_, rfl⟩
  obtain ⟨y, hy⟩ : ∃ y, b.getD zV = y := ⟨_, rfl⟩
  obtain ⟨r, hr⟩ : ∃ r, b.isNone = r := ⟨_, rfl⟩
  obtain ⟨ta, hta⟩ : ∃ t, truO a = t := ⟨_, rfl⟩
  obtain ⟨tb, htb⟩ : ∃ t, truO b = t := ⟨_, rfl⟩
  rw [hx, hp, hta] at HA
  rw [hy, hr, htb] at HB
  rw [hta] at h0a h3a
  rw [htb] at h0b h3b
  rw [hx, hp, hy, hr]
  clear hx hp hy hr hta htb
  obtain ⟨xk, xi, xs⟩ := x
  obtain ⟨yk, yi, ys⟩ := y
  simp only [rV] at HA HB ⊢
  obtain ⟨W0, hW0⟩ : ∃ W0, (((w.alloc (.cells #[.int .u8 xk, .int .i64 xi, .string xs, .bool p] 36)).alloc (.cells #[.int .u8 yk, .int .i64 yi, .string ys, .bool r] 36)).alloc (.cells #[.int .u8 0, .int .i64 0, .string ⟨#[]⟩, .bool false] 36)) = W0 := ⟨_, rfl⟩
  have hbw0 : Below w.heap.size w W0 := by rw [← hW0]; exact ball (ball (ball (Below.refl _ _) _) _) _
  have hBX : Blk W0 w.heap.size 36 #[.int .u8 xk, .int .i64 xi, .string xs, .bool p] := by rw [← hW0]; exact Blk.alloc (Blk.alloc (Blk.new _ _ _) _) _
  have hBY : Blk W0 (w.heap.size + 1) 36 #[.int .u8 yk, .int .i64 yi, .string ys, .bool r] := by rw [← hW0]; exact Blk.alloc (Blk.newAt (by simp)) _
  have hBR : Blk W0 (w.heap.size + 1 + 1) 36 #[.int .u8 0, .int .i64 0, .string ⟨#[]⟩, .bool false] := by rw [← hW0]; exact Blk.newAt (by simp)
  have hS : Hid (∀ W, Below W0.heap.size W0 W → W.cell? ⟨w.heap.size, 0, none⟩ = some (.int .u8 xk) ∧ W.cell? ⟨w.heap.size, 1, none⟩ = some (.int .i64 xi) ∧ W.cell? ⟨w.heap.size, 2, none⟩ = some (.string xs) ∧ W.cell? ⟨w.heap.size, 3, none⟩ = some (.bool p) ∧ W.cell? ⟨w.heap.size + 1, 0, none⟩ = some (.int .u8 yk) ∧ W.cell? ⟨w.heap.size + 1, 1, none⟩ = some (.int .i64 yi) ∧ W.cell? ⟨w.heap.size + 1, 2, none⟩ = some (.string ys) ∧ W.cell? ⟨w.heap.size + 1, 3, none⟩ = some (.bool r) ∧ Below W0.heap.size W0 W) := Lib.hid fun W hW => ⟨(hW.cell (p := ⟨w.heap.size, 0, none⟩) hBX.lt).trans (hBX.cell 0), (hW.cell (p := ⟨w.heap.size, 1, none⟩) hBX.lt).trans (hBX.cell 1), (hW.cell (p := ⟨w.heap.size, 2, none⟩) hBX.lt).trans (hBX.cell 2), (hW.cell (p := ⟨w.heap.size, 3, none⟩) hBX.lt).trans (hBX.cell 3), (hW.cell (p := ⟨w.heap.size + 1, 0, none⟩) hBY.lt).trans (hBY.cell 0), (hW.cell (p := ⟨w.heap.size + 1, 1, none⟩) hBY.lt).trans (hBY.cell 1), (hW.cell (p := ⟨w.heap.size + 1, 2, none⟩) hBY.lt).trans (hBY.cell 2), (hW.cell (p := ⟨w.heap.size + 1, 3, none⟩) hBY.lt).trans (hBY.cell 3), hW⟩
  go_enter Try.func24, Try.ntmps24
  go_wp2_with fail
  try rw [hW0]
  clear hW0
  go_region_held3 (fun W => W.cell? ⟨w.heap.size, 0, none⟩ = some (.int .u8 xk) ∧ W.cell? ⟨w.heap.size, 1, none⟩ = some (.int .i64 xi) ∧ W.cell? ⟨w.heap.size, 2, none⟩ = some (.string xs) ∧ W.cell? ⟨w.heap.size, 3, none⟩ = some (.bool p) ∧ W.cell? ⟨w.heap.size + 1, 0, none⟩ = some (.int .u8 yk) ∧ W.cell? ⟨w.heap.size + 1, 1, none⟩ = some (.int .i64 yi) ∧ W.cell? ⟨w.heap.size + 1, 2, none⟩ = some (.string ys) ∧ W.cell? ⟨w.heap.size + 1, 3, none⟩ = some (.bool r) ∧ Below W0.heap.size W0 W)
    (first | exact hS.out _ (by (with_reducible repeat (first | exact Below.refl _ _ | assumption | refine bto0 ?_ (by assumption) | refine ball ?_ _ | refine bdr ?_ _ | refine Below.drew ?_))) | assumption)
    (first | (go_at_call 13; first | ((with_reducible refine (HA.out _).mono ?_); rintro e w1 ⟨rfl, hb1⟩) | ((with_reducible refine (HB.out _).mono ?_); rintro e w2 ⟨rfl, hb2⟩)))
  have hbA : Below W0.heap.size W0 w2 := by with_reducible repeat (first | exact Below.refl _ _ | exact hb2 | exact hb1 | refine bto0 ?_ hb2 | refine bto0 ?_ hb1 | refine bdr ?_ _ | refine Below.drew ?_)
  have hbw2 : Below w.heap.size w w2 := bto0 hbw0 hbA
  have hX2 := blkUp hbA hBX
  have hY2 := blkUp hbA hBY
  have hR2 := blkUp hbA hBR
  have hRd : Reads (w2.alloc (.cells #[.int .i64 ta, .int .i64 tb] 3)) (w2.alloc (.cells #[.int .i64 ta, .int .i64 tb] 3)).heap.size 1 (some ⟨w2.heap.size, 0, none⟩) 2 (vI64 ([ta, tb].map kn)) := by
    refine reads_of_blk (Blk.new w2 3 _) ?_ (by simp [vI64])
    simp [vI64, kn]
    omega
  clear hRd hS HA HB hBX hBY hBR hb1 hb2
  have hbw : Below w.heap.size w (w2.alloc (.cells #[.int .i64 ta, .int .i64 tb] 3)) := ball hbw2 _
  obtain ⟨W2, hW2⟩ : ∃ W2, w2.alloc (.cells #[.int .i64 ta, .int .i64 tb] 3) = W2 := ⟨_, rfl⟩
  have hR3 : Blk W2 (w.heap.size + 1 + 1) 36 #[.int .u8 0, .int .i64 0, .string ⟨#[]⟩, .bool false] := by rw [← hW2]; exact Blk.alloc hR2 _
  rw [hW2] at hbw
  try rw [hW2]
  clear hW2 hX2 hY2 hR2
  have hR3_0 : (W2).cell? ⟨w.heap.size + 1 + 1, 0, none⟩ = some (.int .u8 0) := hR3.cell 0
  have hR3_1 : (W2).cell? ⟨w.heap.size + 1 + 1, 1, none⟩ = some (.int .i64 0) := hR3.cell 1
  have hR3_2 : (W2).cell? ⟨w.heap.size + 1 + 1, 2, none⟩ = some (.string ⟨#[]⟩) := hR3.cell 2
  have hR3_3 : (W2).cell? ⟨w.heap.size + 1 + 1, 3, none⟩ = some (.bool false) := hR3.cell 3
  have hz := hR3.lt
  have f0 := hR3.frozen 0
  have f1 := hR3.frozen 1
  have f2 := hR3.frozen 2
  have f3 := hR3.frozen 3
  go_wp2_with fail
  exact rtwo_end (R := w.heap.size + 1 + 1) (o := none) (by (with_reducible repeat (first | refine Blk.alloc ?_ _ | refine Blk.drew ?_ | refine Blk.drewN ?_ _)); exact blk4 hR3) (by simp) ⟨rfl, by with_reducible repeat (first | exact Below.refl _ _ | exact hbw | refine ball ?_ _ | refine bset ?_ (by first | exact Nat.le_add_right _ _ | exact Nat.le_refl _ | (simp; omega)) _ | refine bdr ?_ _ | refine Below.drew ?_)⟩

theorem rtwo_any (op : ByteArray) (a b : Option Vl) (w : World) (hoa : okO a) (hob : okO b) : Calls Try.prog 24 #[.string op, retR a, retR b] w (RetB w (retR (twoK op a b))) := by
  unfold twoK
  by_cases h0 : op.toList = wNot
  · rw [if_pos h0]
    refine rtwo_no op a b w ?_ ?_ ?_ ?_ ?_ ?_ ?_ ?_ ?_ ?_ ?_
    all_goals (rw [h0]; decide)
  · rw [if_neg h0]
    by_cases h1 : isArith op.toList
    · rw [if_pos h1]
      rcases h1 with h1 | h1 | h1
      · exact rtwo_plus op a b w h1 hoa hob
      · exact rtwo_minus op a b w h1 hoa hob
      · exact rtwo_star op a b w h1 hoa hob
    · rw [if_neg h1]
      unfold conK
      by_cases h2 : op.toList = wAnd
      · rw [if_pos h2]; exact rtwo_and op a b w h2
      · rw [if_neg h2]
        by_cases h3 : op.toList = wOr
        · rw [if_pos h3]; exact rtwo_or op a b w h3
        · rw [if_neg h3]
          by_cases h4 : isCmp op.toList
          · rw [if_pos h4]
            rcases h4 with h4 | h4 | h4 | h4 | h4 | h4
            · exact rtwo_eq op a b w h4 hoa hob
            · exact rtwo_ne op a b w h4 hoa hob
            · exact rtwo_lt op a b w h4 hoa hob
            · exact rtwo_le op a b w h4 hoa hob
            · exact rtwo_gt op a b w h4 hoa hob
            · exact rtwo_ge op a b w h4 hoa hob
          · rw [if_neg h4]
            unfold isArith at h1
            unfold isCmp at h4
            simp only [not_or] at h1 h4
            exact rtwo_no op a b w h2 h3 h1.1 h1.2.1 h1.2.2 h4.1 h4.2.1 h4.2.2.1 h4.2.2.2.1 h4.2.2.2.2.1 h4.2.2.2.2.2
end
end Go.Proofs.Ytilopgfpifhccaa
