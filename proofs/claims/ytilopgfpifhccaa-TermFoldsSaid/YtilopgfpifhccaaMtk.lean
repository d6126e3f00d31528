/-
  Several texts in one: R9 R10 R11.
-/
import Derived.Test.YtilopgfpifhccaaMtj
import Derived.BigQuiet
/-
  The program's value: terms without rows.
-/
namespace Go.Proofs.Ytilopgfpifhccaa
section
set_option linter.unusedSimpArgs false
set_option linter.unusedVariables false
open Go.RowKit

theorem val_end {W : World} {R : Nat} {tm : Array Value} {Q : Ending → World → Prop} {o : Option Vl} (hR : Blk W R 23 #[.int .u8 (o.getD zV).k, .int .i64 (o.getD zV).i, .string (o.getD zV).s])
    (h4 : tm[4]? = some (.pointer (some ⟨R, 0, none⟩))) (h5 : tm[5]? = some (.bool o.isSome)) (h : Q (.returned (retO o)) W) :
    bodyPost Try.prog Try.f21 Q Exit.ret { tmps := tm, defers := [] } W := by
  have q0 : W.cell? ⟨R, 0, none⟩ = _ := hR.cell 0
  have q1 : W.cell? ⟨R, 1, none⟩ = _ := hR.cell 1
  have q2 : W.cell? ⟨R, 2, none⟩ = _ := hR.cell 2
  exact bodyPost_ret (v := retO o) (by simp [results, Try.results21, go_sem, h4, h5, q0, q1, q2, retO, Vl.agg]) rfl h

set_option maxRecDepth 100000 in
set_option maxHeartbeats 8000000 in
theorem val_1 (O : Nat) (h : TmH) (A0 : Option Addr) (n0 c0 : Nat) (w : World) (hk : h.k = 1)  :
    Calls Try.prog 21 #[.pointer (some ⟨O, 0, none⟩), h.agg A0 n0 c0] w (RetB w (retO (some h.v))) := by
  obtain ⟨k0, op0, no0, ⟨vk0, vi0, vs0⟩, of0, nm0, tb0, cl0⟩ := h
  simp only at hk
  subst hk
  have hb0 : Below w.heap.size w ((w.alloc (.cells #[.int .u8 1, .string op0, .bool no0, .int .u8 vk0, .int .i64 vi0, .string vs0, .string of0, .string nm0, .int .i64 tb0, .int .i64 cl0, .slice A0 n0 c0] 26)).alloc (.cells #[.int .u8 0, .int .i64 0, .string ⟨#[]⟩] 23)) := ball (ball (Below.refl _ _) _) _
  simp only [TmH.agg] at *
  go_enter Try.func21, Try.ntmps21
  go_wp2_with fail
  exact bodyPost_ret (v := retO (some ⟨vk0, vi0, vs0⟩)) (by simp [results, Try.results21, go_sem, retO, Vl.agg]) rfl ⟨rfl, by with_reducible repeat (first | exact Below.refl _ _ | refine ball ?_ _)⟩

set_option maxRecDepth 100000 in
set_option maxHeartbeats 8000000 in
theorem val_no (O : Nat) (h : TmH) (A0 : Option Addr) (n0 c0 : Nat) (w : World) (h1 : h.k ≠ 1) (h2 : h.k ≠ 2) (h3 : h.k ≠ 7) (h4 : h.k ≠ 3) (h5 : h.k ≠ 4) (h6 : h.k ≠ 5) (h7 : h.k ≠ 6) :
    Calls Try.prog 21 #[.pointer (some ⟨O, 0, none⟩), h.agg A0 n0 c0] w (RetB w (retO none)) := by
  obtain ⟨k0, op0, no0, ⟨vk0, vi0, vs0⟩, of0, nm0, tb0, cl0⟩ := h
  have hb0 : Below w.heap.size w ((w.alloc (.cells #[.int .u8 k0, .string op0, .bool no0, .int .u8 vk0, .int .i64 vi0, .string vs0, .string of0, .string nm0, .int .i64 tb0, .int .i64 cl0, .slice A0 n0 c0] 26)).alloc (.cells #[.int .u8 0, .int .i64 0, .string ⟨#[]⟩] 23)) := ball (ball (Below.refl _ _) _) _
  simp only [TmH.agg] at *
  have e1 : (k0 == 1) = false := by simpa using h1
  have e2 : (k0 == 2) = false := by simpa using h2
  have e3 : (k0 == 7) = false := by simpa using h3
  have e4 : (k0 == 3) = false := by simpa using h4
  have e5 : (k0 == 4) = false := by simpa using h5
  have e6 : (k0 == 5) = false := by simpa using h6
  have e7 : (k0 == 6) = false := by simpa using h7
  clear h1 h2 h3 h4 h5 h6 h7
  go_enter Try.func21, Try.ntmps21
  go_wp2_with fail
  exact bodyPost_ret (v := retO none) (by simp [results, Try.results21, go_sem, retO, zV, Vl.agg]) rfl ⟨rfl, by with_reducible repeat (first | exact Below.refl _ _ | refine ball ?_ _)⟩

set_option maxRecDepth 100000 in
set_option maxHeartbeats 8000000 in
theorem val_3 (O : Nat) (h : TmH) (A0 : Option Addr) (n0 c0 : Nat) (w : World) (hk : h.k = 3) (q : Option Vl) (HC : ∀ W, Below w.heap.size w W → Calls Try.prog 35 #[.pointer (some ⟨O, 0, none⟩), h.agg A0 n0 c0] W (RetB W (retO q))) :
    Calls Try.prog 21 #[.pointer (some ⟨O, 0, none⟩), h.agg A0 n0 c0] w (RetB w (retO q)) := by
  obtain ⟨k0, op0, no0, ⟨vk0, vi0, vs0⟩, of0, nm0, tb0, cl0⟩ := h
  simp only at hk
  subst hk
  have hb0 : Below w.heap.size w ((w.alloc (.cells #[.int .u8 3, .string op0, .bool no0, .int .u8 vk0, .int .i64 vi0, .string vs0, .string of0, .string nm0, .int .i64 tb0, .int .i64 cl0, .slice A0 n0 c0] 26)).alloc (.cells #[.int .u8 0, .int .i64 0, .string ⟨#[]⟩] 23)) := ball (ball (Below.refl _ _) _) _
  simp only [TmH.agg] at *
  have HCC := Lib.hid HC
  clear HC
  go_enter Try.func21, Try.ntmps21
  go_wp2_with fail
  refine (HCC.out _ hb0).mono ?_
  rintro e w1 ⟨rfl, hb1⟩
  have hbw := bto0 hb0 hb1
  have hB : Blk w1 (w.heap.size + 1) 23 #[.int .u8 0, .int .i64 0, .string ⟨#[]⟩] := blkOf hb1 (by simp) (Blk.newAt (by simp))
  have hB_0 : (w1).cell? ⟨w.heap.size + 1, 0, none⟩ = some (.int .u8 0) := hB.cell 0
  have hB_1 : (w1).cell? ⟨w.heap.size + 1, 1, none⟩ = some (.int .i64 0) := hB.cell 1
  have hB_2 : (w1).cell? ⟨w.heap.size + 1, 2, none⟩ = some (.string ⟨#[]⟩) := hB.cell 2
  have hz := hB.lt
  have f0 := hB.frozen 0
  have f1 := hB.frozen 1
  have f2 := hB.frozen 2
  cases q with
  | none =>
    simp only [retO, Option.getD, Option.isSome, zV, Vl.agg]
    go_wp2_with fail
    exact val_end (R := w.heap.size + 1) (o := none) (by (with_reducible repeat (first | refine Blk.alloc ?_ _ | refine Blk.drew ?_)); exact blk3 hB) (by simp) (by simp) ⟨rfl, by with_reducible repeat (first | exact Below.refl _ _ | exact hbw | exact hbw2 | refine ball ?_ _ | refine bset ?_ (Nat.le_add_right _ _) _ | refine Below.drew ?_)⟩
  | some u =>
    obtain ⟨uk, ui, us⟩ := u
    simp only [retO, Option.getD, Option.isSome, Vl.agg]
    go_wp2_with fail
    exact val_end (R := w.heap.size + 1) (o := (some ⟨uk, ui, us⟩)) (by (with_reducible repeat (first | refine Blk.alloc ?_ _ | refine Blk.drew ?_)); exact blk3 hB) (by simp) (by simp) ⟨rfl, by with_reducible repeat (first | exact Below.refl _ _ | exact hbw | exact hbw2 | refine ball ?_ _ | refine bset ?_ (Nat.le_add_right _ _) _ | refine Below.drew ?_)⟩


set_option maxRecDepth 100000 in
set_option maxHeartbeats 8000000 in
theorem val_4 (O : Nat) (h : TmH) (A0 : Option Addr) (n0 c0 : Nat) (w : World) (hk : h.k = 4) (q : Option Vl) (HC : ∀ W, Below w.heap.size w W → Calls Try.prog 35 #[.pointer (some ⟨O, 0, none⟩), h.agg A0 n0 c0] W (RetB W (retO q))) :
    Calls Try.prog 21 #[.pointer (some ⟨O, 0, none⟩), h.agg A0 n0 c0] w (RetB w (retO q)) := by
  obtain ⟨k0, op0, no0, ⟨vk0, vi0, vs0⟩, of0, nm0, tb0, cl0⟩ := h
  simp only at hk
  subst hk
  have hb0 : Below w.heap.size w ((w.alloc (.cells #[.int .u8 4, .string op0, .bool no0, .int .u8 vk0, .int .i64 vi0, .string vs0, .string of0, .string nm0, .int .i64 tb0, .int .i64 cl0, .slice A0 n0 c0] 26)).alloc (.cells #[.int .u8 0, .int .i64 0, .string ⟨#[]⟩] 23)) := ball (ball (Below.refl _ _) _) _
  simp only [TmH.agg] at *
  have HCC := Lib.hid HC
  clear HC
  go_enter Try.func21, Try.ntmps21
  go_wp2_with fail
  refine (HCC.out _ hb0).mono ?_
  rintro e w1 ⟨rfl, hb1⟩
  have hbw := bto0 hb0 hb1
  have hB : Blk w1 (w.heap.size + 1) 23 #[.int .u8 0, .int .i64 0, .string ⟨#[]⟩] := blkOf hb1 (by simp) (Blk.newAt (by simp))
  have hB_0 : (w1).cell? ⟨w.heap.size + 1, 0, none⟩ = some (.int .u8 0) := hB.cell 0
  have hB_1 : (w1).cell? ⟨w.heap.size + 1, 1, none⟩ = some (.int .i64 0) := hB.cell 1
  have hB_2 : (w1).cell? ⟨w.heap.size + 1, 2, none⟩ = some (.string ⟨#[]⟩) := hB.cell 2
  have hz := hB.lt
  have f0 := hB.frozen 0
  have f1 := hB.frozen 1
  have f2 := hB.frozen 2
  cases q with
  | none =>
    simp only [retO, Option.getD, Option.isSome, zV, Vl.agg]
    go_wp2_with fail
    exact val_end (R := w.heap.size + 1) (o := none) (by (with_reducible repeat (first | refine Blk.alloc ?_ _ | refine Blk.drew ?_)); exact blk3 hB) (by simp) (by simp) ⟨rfl, by with_reducible repeat (first | exact Below.refl _ _ | exact hbw | exact hbw2 | refine ball ?_ _ | refine bset ?_ (Nat.le_add_right _ _) _ | refine Below.drew ?_)⟩
  | some u =>
    obtain ⟨uk, ui, us⟩ := u
    simp only [retO, Option.getD, Option.isSome, Vl.agg]
    go_wp2_with fail
    exact val_end (R := w.heap.size + 1) (o := (some ⟨uk, ui, us⟩)) (by (with_reducible repeat (first | refine Blk.alloc ?_ _ | refine Blk.drew ?_)); exact blk3 hB) (by simp) (by simp) ⟨rfl, by with_reducible repeat (first | exact Below.refl _ _ | exact hbw | exact hbw2 | refine ball ?_ _ | refine bset ?_ (Nat.le_add_right _ _) _ | refine Below.drew ?_)⟩


set_option maxRecDepth 100000 in
set_option maxHeartbeats 8000000 in
theorem val_5 (O : Nat) (h : TmH) (A0 : Option Addr) (n0 c0 : Nat) (w : World) (hk : h.k = 5) (τ : Int) (hτ : 0 ≤ τ) (HC : ∀ W, Below w.heap.size w W → Calls Try.prog 37 #[.pointer (some ⟨O, 0, none⟩), h.agg A0 n0 c0] W (RetB W (.int .u8 τ))) :
    Calls Try.prog 21 #[.pointer (some ⟨O, 0, none⟩), h.agg A0 n0 c0] w (RetB w (retO (valT τ))) := by
  obtain ⟨k0, op0, no0, ⟨vk0, vi0, vs0⟩, of0, nm0, tb0, cl0⟩ := h
  simp only at hk
  subst hk
  have hb0 : Below w.heap.size w ((w.alloc (.cells #[.int .u8 5, .string op0, .bool no0, .int .u8 vk0, .int .i64 vi0, .string vs0, .string of0, .string nm0, .int .i64 tb0, .int .i64 cl0, .slice A0 n0 c0] 26)).alloc (.cells #[.int .u8 0, .int .i64 0, .string ⟨#[]⟩] 23)) := ball (ball (Below.refl _ _) _) _
  simp only [TmH.agg] at *
  have HCC := Lib.hid HC
  have HV := Lib.hid fun W => value_any τ hτ W
  rw [← retVal] at HV
  obtain ⟨q, hq⟩ : ∃ q, valT τ = q := ⟨_, rfl⟩
  rw [hq] at HV ⊢
  clear HC hq hτ
  go_enter Try.func21, Try.ntmps21
  go_wp2_with fail
  refine (HCC.out _ hb0).mono ?_
  rintro e w1 ⟨rfl, hb1⟩
  have hBA : Blk w1 (w.heap.size + 1) 23 #[.int .u8 0, .int .i64 0, .string ⟨#[]⟩] := blkOf hb1 (by simp) (Blk.newAt (by simp))
  have hBA_0 : (w1).cell? ⟨w.heap.size + 1, 0, none⟩ = some (.int .u8 0) := hBA.cell 0
  have hBA_1 : (w1).cell? ⟨w.heap.size + 1, 1, none⟩ = some (.int .i64 0) := hBA.cell 1
  have hBA_2 : (w1).cell? ⟨w.heap.size + 1, 2, none⟩ = some (.string ⟨#[]⟩) := hBA.cell 2
  have hzA := hBA.lt
  have f0A := hBA.frozen 0
  have f1A := hBA.frozen 1
  have f2A := hBA.frozen 2
  go_wp2_with fail
  refine (HV.out _).mono ?_
  rintro e w2 ⟨rfl, hb2⟩
  have hbw := bto0 (bto0 hb0 hb1) hb2
  have hB : Blk w2 (w.heap.size + 1) 23 #[.int .u8 0, .int .i64 0, .string ⟨#[]⟩] := hBA.below hb2 hBA.lt
  have hB_0 : (w2).cell? ⟨w.heap.size + 1, 0, none⟩ = some (.int .u8 0) := hB.cell 0
  have hB_1 : (w2).cell? ⟨w.heap.size + 1, 1, none⟩ = some (.int .i64 0) := hB.cell 1
  have hB_2 : (w2).cell? ⟨w.heap.size + 1, 2, none⟩ = some (.string ⟨#[]⟩) := hB.cell 2
  have hz := hB.lt
  have f0 := hB.frozen 0
  have f1 := hB.frozen 1
  have f2 := hB.frozen 2
  cases q with
  | none =>
    simp only [retO, Option.getD, Option.isSome, zV, Vl.agg]
    go_wp2_with fail
    exact val_end (R := w.heap.size + 1) (o := none) (by (with_reducible repeat (first | refine Blk.alloc ?_ _ | refine Blk.drew ?_)); exact blk3 hB) (by simp) (by simp) ⟨rfl, by with_reducible repeat (first | exact Below.refl _ _ | exact hbw | exact hbw2 | refine ball ?_ _ | refine bset ?_ (Nat.le_add_right _ _) _ | refine Below.drew ?_)⟩
  | some u =>
    obtain ⟨uk, ui, us⟩ := u
    simp only [retO, Option.getD, Option.isSome, Vl.agg]
    go_wp2_with fail
    exact val_end (R := w.heap.size + 1) (o := (some ⟨uk, ui, us⟩)) (by (with_reducible repeat (first | refine Blk.alloc ?_ _ | refine Blk.drew ?_)); exact blk3 hB) (by simp) (by simp) ⟨rfl, by with_reducible repeat (first | exact Below.refl _ _ | exact hbw | exact hbw2 | refine ball ?_ _ | refine bset ?_ (Nat.le_add_right _ _) _ | refine Below.drew ?_)⟩


set_option maxRecDepth 100000 in
set_option maxHeartbeats 8000000 in
theorem val_6 (O : Nat) (h : TmH) (A0 : Option Addr) (n0 c0 : Nat) (w : World) (hk : h.k = 6) (τ : Int) (hτ : 0 ≤ τ) (HC : ∀ W, Below w.heap.size w W → Calls Try.prog 37 #[.pointer (some ⟨O, 0, none⟩), h.agg A0 n0 c0] W (RetB W (.int .u8 τ))) :
    Calls Try.prog 21 #[.pointer (some ⟨O, 0, none⟩), h.agg A0 n0 c0] w (RetB w (retO (valT τ))) := by
  obtain ⟨k0, op0, no0, ⟨vk0, vi0, vs0⟩, of0, nm0, tb0, cl0⟩ := h
  simp only at hk
  subst hk
  have hb0 : Below w.heap.size w ((w.alloc (.cells #[.int .u8 6, .string op0, .bool no0, .int .u8 vk0, .int .i64 vi0, .string vs0, .string of0, .string nm0, .int .i64 tb0, .int .i64 cl0, .slice A0 n0 c0] 26)).alloc (.cells #[.int .u8 0, .int .i64 0, .string ⟨#[]⟩] 23)) := ball (ball (Below.refl _ _) _) _
  simp only [TmH.agg] at *
  have HCC := Lib.hid HC
  have HV := Lib.hid fun W => value_any τ hτ W
  rw [← retVal] at HV
  obtain ⟨q, hq⟩ : ∃ q, valT τ = q := ⟨_, rfl⟩
  rw [hq] at HV ⊢
  clear HC hq hτ
  go_enter Try.func21, Try.ntmps21
  go_wp2_with fail
  refine (HCC.out _ hb0).mono ?_
  rintro e w1 ⟨rfl, hb1⟩
  have hBA : Blk w1 (w.heap.size + 1) 23 #[.int .u8 0, .int .i64 0, .string ⟨#[]⟩] := blkOf hb1 (by simp) (Blk.newAt (by simp))
  have hBA_0 : (w1).cell? ⟨w.heap.size + 1, 0, none⟩ = some (.int .u8 0) := hBA.cell 0
  have hBA_1 : (w1).cell? ⟨w.heap.size + 1, 1, none⟩ = some (.int .i64 0) := hBA.cell 1
  have hBA_2 : (w1).cell? ⟨w.heap.size + 1, 2, none⟩ = some (.string ⟨#[]⟩) := hBA.cell 2
  have hzA := hBA.lt
  have f0A := hBA.frozen 0
  have f1A := hBA.frozen 1
  have f2A := hBA.frozen 2
  go_wp2_with fail
  refine (HV.out _).mono ?_
  rintro e w2 ⟨rfl, hb2⟩
  have hbw := bto0 (bto0 hb0 hb1) hb2
  have hB : Blk w2 (w.heap.size + 1) 23 #[.int .u8 0, .int .i64 0, .string ⟨#[]⟩] := hBA.below hb2 hBA.lt
  have hB_0 : (w2).cell? ⟨w.heap.size + 1, 0, none⟩ = some (.int .u8 0) := hB.cell 0
  have hB_1 : (w2).cell? ⟨w.heap.size + 1, 1, none⟩ = some (.int .i64 0) := hB.cell 1
  have hB_2 : (w2).cell? ⟨w.heap.size + 1, 2, none⟩ = some (.string ⟨#[]⟩) := hB.cell 2
  have hz := hB.lt
  have f0 := hB.frozen 0
  have f1 := hB.frozen 1
  have f2 := hB.frozen 2
  cases q with
  | none =>
    simp only [retO, Option.getD, Option.isSome, zV, Vl.agg]
    go_wp2_with fail
    exact val_end (R := w.heap.size + 1) (o := none) (by (with_reducible repeat (first | refine Blk.alloc ?_ _ | refine Blk.drew ?_)); exact blk3 hB) (by simp) (by simp) ⟨rfl, by with_reducible repeat (first | exact Below.refl _ _ | exact hbw | exact hbw2 | refine ball ?_ _ | refine bset ?_ (Nat.le_add_right _ _) _ | refine Below.drew ?_)⟩
  | some u =>
    obtain ⟨uk, ui, us⟩ := u
    simp only [retO, Option.getD, Option.isSome, Vl.agg]
    go_wp2_with fail
    exact val_end (R := w.heap.size + 1) (o := (some ⟨uk, ui, us⟩)) (by (with_reducible repeat (first | refine Blk.alloc ?_ _ | refine Blk.drew ?_)); exact blk3 hB) (by simp) (by simp) ⟨rfl, by with_reducible repeat (first | exact Below.refl _ _ | exact hbw | exact hbw2 | refine ball ?_ _ | refine bset ?_ (Nat.le_add_right _ _) _ | refine Below.drew ?_)⟩


set_option maxRecDepth 100000 in
set_option maxHeartbeats 8000000 in
theorem test_50 (O : Nat) (h : TmH) (A0 : Option Addr) (n0 c0 : Nat) (w : World) (hk : h.k = 5) (hn : (n0 : Int) ≠ 1) (hz : (n0 : Int) ≠ 0) :
    Calls Try.prog 37 #[.pointer (some ⟨O, 0, none⟩), h.agg A0 n0 c0] w (RetB w (.int .u8 2)) := by
  obtain ⟨k0, op0, no0, ⟨vk0, vi0, vs0⟩, of0, nm0, tb0, cl0⟩ := h
  simp only at hk
  subst hk
  have hb0 : Below w.heap.size w (w.alloc (.cells #[.int .u8 5, .string op0, .bool no0, .int .u8 vk0, .int .i64 vi0, .string vs0, .string of0, .string nm0, .int .i64 tb0, .int .i64 cl0, .slice A0 n0 c0] 26)) := ball (Below.refl _ _) _
  simp only [TmH.agg] at *
  have m0 : ((n0 : Int) == 0) = false := by simpa using hz
  have m1 : ((n0 : Int) != 1) = true := by simpa using hn
  clear hn hz
  go_enter Try.func37, Try.ntmps37
  go_wp2_with fail
  go_ret
  exact ⟨rfl, ball (Below.refl _ _) _⟩

set_option maxRecDepth 100000 in
set_option maxHeartbeats 8000000 in
theorem test_z5 (O : Nat) (h : TmH) (A0 : Option Addr) (n0 c0 : Nat) (w : World) (hk : h.k = 5) (hn : n0 = 0) :
    Calls Try.prog 37 #[.pointer (some ⟨O, 0, none⟩), h.agg A0 n0 c0] w (RetB w (.int .u8 2)) := by
  subst hn
  obtain ⟨k0, op0, no0, ⟨vk0, vi0, vs0⟩, of0, nm0, tb0, cl0⟩ := h
  simp only at hk
  subst hk
  have hb0 : Below w.heap.size w (w.alloc (.cells #[.int .u8 5, .string op0, .bool no0, .int .u8 vk0, .int .i64 vi0, .string vs0, .string of0, .string nm0, .int .i64 tb0, .int .i64 cl0, .slice A0 0 c0] 26)) := ball (Below.refl _ _) _
  simp only [TmH.agg] at *
  go_enter Try.func37, Try.ntmps37
  go_wp2_with fail
  go_ret
  exact ⟨rfl, ball (Below.refl _ _) _⟩

set_option maxRecDepth 100000 in
set_option maxHeartbeats 8000000 in
theorem test_z6 (O : Nat) (h : TmH) (A0 : Option Addr) (n0 c0 : Nat) (w : World) (hk : h.k = 6) (hn : n0 = 0) :
    Calls Try.prog 37 #[.pointer (some ⟨O, 0, none⟩), h.agg A0 n0 c0] w (RetB w (.int .u8 2)) := by
  subst hn
  obtain ⟨k0, op0, no0, ⟨vk0, vi0, vs0⟩, of0, nm0, tb0, cl0⟩ := h
  simp only at hk
  subst hk
  have hb0 : Below w.heap.size w (w.alloc (.cells #[.int .u8 6, .string op0, .bool no0, .int .u8 vk0, .int .i64 vi0, .string vs0, .string of0, .string nm0, .int .i64 tb0, .int .i64 cl0, .slice A0 0 c0] 26)) := ball (Below.refl _ _) _
  simp only [TmH.agg] at *
  go_enter Try.func37, Try.ntmps37
  go_wp2_with fail
  go_ret
  exact ⟨rfl, ball (Below.refl _ _) _⟩

/-- A test's truth, turned or not. -/
def testN (no : Bool) (t : Int) : Int := if no then nt t else t
def nullT : Option Vl → Int
  | none => 2
  | some v => if v.k = 0 then 3 else 0
set_option maxRecDepth 100000 in
set_option maxHeartbeats 8000000 in
theorem test_5 (O : Nat) (h : TmH) (A0 : Option Addr) (n0 c0 : Nat) (w : World) (hk : h.k = 5) (a : Tm) (o : Option Vl) (hrd : Reads w w.heap.size 11 A0 n0 (vT [a])) (ha : HVal w O a o) :
    Calls Try.prog 37 #[.pointer (some ⟨O, 0, none⟩), h.agg A0 n0 c0] w (RetB w (.int .u8 (testN h.no (nullT o)))) := by
  have hn : n0 = 1 := by have := hrd.1; rw [vT_len] at this; simp at this; omega
  subst hn
  obtain ⟨k0, op0, no0, ⟨vk0, vi0, vs0⟩, of0, nm0, tb0, cl0⟩ := h
  simp only at hk
  subst hk
  have hb0 : Below w.heap.size w (w.alloc (.cells #[.int .u8 5, .string op0, .bool no0, .int .u8 vk0, .int .i64 vi0, .string vs0, .string of0, .string nm0, .int .i64 tb0, .int .i64 cl0, .slice A0 1 c0] 26)) := ball (Below.refl _ _) _
  have HA := Lib.hid ha
  obtain ⟨ad, rfl, hab, hat⟩ := arg0 (hrd.below hb0)
  obtain ⟨⟨k1, op1, no1, ⟨vk1, vi1, vs1⟩, of1, nm1, tb1, cl1⟩, A1, n1, c1, l1⟩ := a
  obtain ⟨y0, y1, y2, y3, y4, y5, y6, y7, y8, y9, y10⟩ := hat
  unfold HVal at HA
  simp only [Tm.agg, TmH.agg, Tm.h, Tm.A, Tm.n, Tm.c] at HA y0 y1 y2 y3 y4 y5 y6 y7 y8 y9 y10 ⊢
  clear ha hrd
  go_enter Try.func37, Try.ntmps37
  go_wp2_with fail
  refine (HA.out _ hb0).mono ?_
  rintro e w1 ⟨rfl, hb1⟩
  have hbw := bto0 hb0 hb1
  have hC : Blk w1 w.heap.size 26 #[.int .u8 5, .string op0, .bool no0, .int .u8 vk0, .int .i64 vi0, .string vs0, .string of0, .string nm0, .int .i64 tb0, .int .i64 cl0, .slice (some ad) 1 c0] := blkOf hb1 (by simp) (Blk.new _ _ _)
  have hC_0 : (w1).cell? ⟨w.heap.size, 0, none⟩ = some (.int .u8 5) := hC.cell 0
  have hC_1 : (w1).cell? ⟨w.heap.size, 1, none⟩ = some (.string op0) := hC.cell 1
  have hC_2 : (w1).cell? ⟨w.heap.size, 2, none⟩ = some (.bool no0) := hC.cell 2
  have hC_3 : (w1).cell? ⟨w.heap.size, 3, none⟩ = some (.int .u8 vk0) := hC.cell 3
  have hC_4 : (w1).cell? ⟨w.heap.size, 4, none⟩ = some (.int .i64 vi0) := hC.cell 4
  have hC_5 : (w1).cell? ⟨w.heap.size, 5, none⟩ = some (.string vs0) := hC.cell 5
  have hC_6 : (w1).cell? ⟨w.heap.size, 6, none⟩ = some (.string of0) := hC.cell 6
  have hC_7 : (w1).cell? ⟨w.heap.size, 7, none⟩ = some (.string nm0) := hC.cell 7
  have hC_8 : (w1).cell? ⟨w.heap.size, 8, none⟩ = some (.int .i64 tb0) := hC.cell 8
  have hC_9 : (w1).cell? ⟨w.heap.size, 9, none⟩ = some (.int .i64 cl0) := hC.cell 9
  have hC_10 : (w1).cell? ⟨w.heap.size, 10, none⟩ = some (.slice (some ad) 1 c0) := hC.cell 10
  have hy := hC.lt
  cases o with
  | none =>
    simp only [retO, Option.getD, Option.isSome, zV, Vl.agg]
    cases no0
    all_goals
      go_wp2_with (go_at_call 54; refine (not_any _ _).mono ?_; rintro e w' ⟨rfl, rfl⟩)
      go_ret
      exact ⟨by unfold testN nullT; simp [*], ball hbw _⟩
  | some v =>
    obtain ⟨vk, vi, vs⟩ := v
    simp only [retO, Option.getD, Option.isSome, Vl.agg]
    by_cases hv : vk = 0
    · subst hv
      cases no0
      all_goals
        go_wp2_with (go_at_call 54; refine (not_any _ _).mono ?_; rintro e w' ⟨rfl, rfl⟩)
        go_ret
        exact ⟨by unfold testN nullT; simp [*], ball hbw _⟩
    · have ev : (vk == 0) = false := by simpa using hv
      cases no0
      all_goals
        go_wp2_with (go_at_call 54; refine (not_any _ _).mono ?_; rintro e w' ⟨rfl, rfl⟩)
        go_ret
        exact ⟨by unfold testN nullT; simp [*], ball hbw _⟩
end
end Go.Proofs.Ytilopgfpifhccaa
/-
  The program's value: rows, totals.
-/
namespace Go.Proofs.Ytilopgfpifhccaa
section
set_option linter.unusedSimpArgs false
set_option linter.unusedVariables false
open Go.RowKit

theorem blkUp {W w1 : World} {g : Nat} {t : TypeId} {cs : Array Value} (hb : Below W.heap.size W w1) (h : Blk W g t cs) : Blk w1 g t cs := h.below hb h.lt

set_option maxRecDepth 100000 in
set_option maxHeartbeats 8000000 in
theorem val_7 (O : Nat) (h : TmH) (A0 : Option Addr) (n0 c0 : Nat) (w : World) (hk : h.k = 7) (TA : Option Addr) (tn tc : Nat) (q : Option Vl) (hO : w.cell? ⟨O, 1, none⟩ = some (.slice TA tn tc)) (hOl : O < w.heap.size) (HC : ∀ W, Below w.heap.size w W → Calls Try.prog 34 #[.slice TA tn tc, .int .i64 h.cl] W (RetB W (retO q))) :
    Calls Try.prog 21 #[.pointer (some ⟨O, 0, none⟩), h.agg A0 n0 c0] w (RetB w (retO q)) := by
  obtain ⟨k0, op0, no0, ⟨vk0, vi0, vs0⟩, of0, nm0, tb0, cl0⟩ := h
  simp only at hk
  subst hk
  have hb0 : Below w.heap.size w ((w.alloc (.cells #[.int .u8 7, .string op0, .bool no0, .int .u8 vk0, .int .i64 vi0, .string vs0, .string of0, .string nm0, .int .i64 tb0, .int .i64 cl0, .slice A0 n0 c0] 26)).alloc (.cells #[.int .u8 0, .int .i64 0, .string ⟨#[]⟩] 23)) := ball (ball (Below.refl _ _) _) _
  simp only [TmH.agg] at *
  have HCC := Lib.hid HC
  clear HC
  have o1 : ((w.alloc (.cells #[.int .u8 7, .string op0, .bool no0, .int .u8 vk0, .int .i64 vi0, .string vs0, .string of0, .string nm0, .int .i64 tb0, .int .i64 cl0, .slice A0 n0 c0] 26)).alloc (.cells #[.int .u8 0, .int .i64 0, .string ⟨#[]⟩] 23)).cell? ⟨O, 1, none⟩ = some (.slice TA tn tc) := (hb0.cell (p := ⟨O, 1, none⟩) hOl).trans hO
  cases q with
  | none =>
    simp only [retO, Option.getD, Option.isSome, zV, Vl.agg] at HCC
    go_enter Try.func21, Try.ntmps21
    go_wp2_with fail
    go_region_with (go_at_call 34; (with_reducible refine (HCC.out _ (by (with_reducible repeat (first | exact hb0 | refine Below.drew ?_ | refine bdr ?_ _)))).mono ?_); rintro e w1 ⟨rfl, hb1⟩; have hB : Blk w1 (w.heap.size + 1) 23 #[.int .u8 0, .int .i64 0, .string ⟨#[]⟩] := blkUp hb1 (by with_reducible repeat (first | exact Blk.newAt (by simp) | refine Blk.drew ?_)); have hB_0 : (w1).cell? ⟨w.heap.size + 1, 0, none⟩ = some (.int .u8 0) := hB.cell 0; have hB_1 : (w1).cell? ⟨w.heap.size + 1, 1, none⟩ = some (.int .i64 0) := hB.cell 1; have hB_2 : (w1).cell? ⟨w.heap.size + 1, 2, none⟩ = some (.string ⟨#[]⟩) := hB.cell 2; have f0 := hB.frozen 0; have f1 := hB.frozen 1; have f2 := hB.frozen 2; have hbw := bto0 (Below.drew hb0) hb1)
    all_goals
      go_wp2_with fail
      exact val_end (R := w.heap.size + 1) (o := none) (by (with_reducible repeat (first | refine Blk.alloc ?_ _ | refine Blk.drew ?_)); exact blk3 hB) (by simp) (by simp) ⟨rfl, by with_reducible repeat (first | exact Below.refl _ _ | exact hbw | refine ball ?_ _ | refine bset ?_ (Nat.le_add_right _ _) _ | refine Below.drew ?_)⟩
  | some u =>
    obtain ⟨uk, ui, us⟩ := u
    simp only [retO, Option.getD, Option.isSome, Vl.agg] at HCC
    go_enter Try.func21, Try.ntmps21
    go_wp2_with fail
    go_region_with (go_at_call 34; (with_reducible refine (HCC.out _ (by (with_reducible repeat (first | exact hb0 | refine Below.drew ?_ | refine bdr ?_ _)))).mono ?_); rintro e w1 ⟨rfl, hb1⟩; have hB : Blk w1 (w.heap.size + 1) 23 #[.int .u8 0, .int .i64 0, .string ⟨#[]⟩] := blkUp hb1 (by with_reducible repeat (first | exact Blk.newAt (by simp) | refine Blk.drew ?_)); have hB_0 : (w1).cell? ⟨w.heap.size + 1, 0, none⟩ = some (.int .u8 0) := hB.cell 0; have hB_1 : (w1).cell? ⟨w.heap.size + 1, 1, none⟩ = some (.int .i64 0) := hB.cell 1; have hB_2 : (w1).cell? ⟨w.heap.size + 1, 2, none⟩ = some (.string ⟨#[]⟩) := hB.cell 2; have f0 := hB.frozen 0; have f1 := hB.frozen 1; have f2 := hB.frozen 2; have hbw := bto0 (Below.drew hb0) hb1)
    all_goals
      go_wp2_with fail
      exact val_end (R := w.heap.size + 1) (o := (some ⟨uk, ui, us⟩)) (by (with_reducible repeat (first | refine Blk.alloc ?_ _ | refine Blk.drew ?_)); exact blk3 hB) (by simp) (by simp) ⟨rfl, by with_reducible repeat (first | exact Below.refl _ _ | exact hbw | refine ball ?_ _ | refine bset ?_ (Nat.le_add_right _ _) _ | refine Below.drew ?_)⟩

set_option maxRecDepth 100000 in
set_option maxHeartbeats 8000000 in
theorem val_2lo (O : Nat) (h : TmH) (A0 : Option Addr) (n0 c0 : Nat) (w : World) (hk : h.k = 2) (RA : Option Addr) (rn rc : Nat) (hO : w.cell? ⟨O, 0, none⟩ = some (.slice RA rn rc)) (hOl : O < w.heap.size) (hrn : rn ≤ maxLen) (h1 : h.tb < 0) :
    Calls Try.prog 21 #[.pointer (some ⟨O, 0, none⟩), h.agg A0 n0 c0] w (RetB w (retO none)) := by
  obtain ⟨k0, op0, no0, ⟨vk0, vi0, vs0⟩, of0, nm0, tb0, cl0⟩ := h
  simp only at hk
  subst hk
  have hb0 : Below w.heap.size w ((w.alloc (.cells #[.int .u8 2, .string op0, .bool no0, .int .u8 vk0, .int .i64 vi0, .string vs0, .string of0, .string nm0, .int .i64 tb0, .int .i64 cl0, .slice A0 n0 c0] 26)).alloc (.cells #[.int .u8 0, .int .i64 0, .string ⟨#[]⟩] 23)) := ball (ball (Below.refl _ _) _) _
  simp only [TmH.agg] at *
  have g1 : decide (tb0 < 0) = true := decide_eq_true h1
  have o0 : ((w.alloc (.cells #[.int .u8 2, .string op0, .bool no0, .int .u8 vk0, .int .i64 vi0, .string vs0, .string of0, .string nm0, .int .i64 tb0, .int .i64 cl0, .slice A0 n0 c0] 26)).alloc (.cells #[.int .u8 0, .int .i64 0, .string ⟨#[]⟩] 23)).cell? ⟨O, 0, none⟩ = some (.slice RA rn rc) := (hb0.cell (p := ⟨O, 0, none⟩) hOl).trans hO
  unfold maxLen at hrn
  go_enter Try.func21, Try.ntmps21
  go_wp2_with fail
  go_quiet (fail)
  go_wp2_with fail
  exact bodyPost_ret (v := retO none) (by simp [results, Try.results21, go_sem, retO, zV, Vl.agg]) rfl ⟨rfl, by with_reducible repeat (first | exact Below.refl _ _ | refine ball ?_ _ | refine bset ?_ (Nat.le_add_right _ _) _ | refine bdr ?_ _ | refine Below.drew ?_)⟩

set_option maxRecDepth 100000 in
set_option maxHeartbeats 8000000 in
theorem val_2hi (O : Nat) (h : TmH) (A0 : Option Addr) (n0 c0 : Nat) (w : World) (hk : h.k = 2) (RA : Option Addr) (rn rc : Nat) (hO : w.cell? ⟨O, 0, none⟩ = some (.slice RA rn rc)) (hOl : O < w.heap.size) (hrn : rn ≤ maxLen) (h1 : 0 ≤ h.tb) (h2 : (rn : Int) ≤ h.tb) :
    Calls Try.prog 21 #[.pointer (some ⟨O, 0, none⟩), h.agg A0 n0 c0] w (RetB w (retO none)) := by
  obtain ⟨k0, op0, no0, ⟨vk0, vi0, vs0⟩, of0, nm0, tb0, cl0⟩ := h
  simp only at hk
  subst hk
  have hb0 : Below w.heap.size w ((w.alloc (.cells #[.int .u8 2, .string op0, .bool no0, .int .u8 vk0, .int .i64 vi0, .string vs0, .string of0, .string nm0, .int .i64 tb0, .int .i64 cl0, .slice A0 n0 c0] 26)).alloc (.cells #[.int .u8 0, .int .i64 0, .string ⟨#[]⟩] 23)) := ball (ball (Below.refl _ _) _) _
  simp only [TmH.agg] at *
  have g1 : decide (tb0 < 0) = false := decide_eq_false (by omega)
  have g2 : decide ((rn : Int) ≤ tb0) = true := decide_eq_true h2
  have o0 : ((w.alloc (.cells #[.int .u8 2, .string op0, .bool no0, .int .u8 vk0, .int .i64 vi0, .string vs0, .string of0, .string nm0, .int .i64 tb0, .int .i64 cl0, .slice A0 n0 c0] 26)).alloc (.cells #[.int .u8 0, .int .i64 0, .string ⟨#[]⟩] 23)).cell? ⟨O, 0, none⟩ = some (.slice RA rn rc) := (hb0.cell (p := ⟨O, 0, none⟩) hOl).trans hO
  unfold maxLen at hrn
  go_enter Try.func21, Try.ntmps21
  go_wp2_with fail
  go_quiet (fail)
  go_wp2_with fail
  exact bodyPost_ret (v := retO none) (by simp [results, Try.results21, go_sem, retO, zV, Vl.agg]) rfl ⟨rfl, by with_reducible repeat (first | exact Below.refl _ _ | refine ball ?_ _ | refine bset ?_ (Nat.le_add_right _ _) _ | refine bdr ?_ _ | refine Below.drew ?_)⟩

set_option maxRecDepth 100000 in
set_option maxHeartbeats 8000000 in
theorem val_2r (O : Nat) (h : TmH) (A0 : Option Addr) (n0 c0 : Nat) (w : World) (hk : h.k = 2) (ad : Addr) (rn rc T : Nat) (X : Option Addr) (xn xc : Nat) (q : Option Vl) (hO : w.cell? ⟨O, 0, none⟩ = some (.slice (some ad) rn rc)) (hOl : O < w.heap.size) (hrn : rn ≤ maxLen) (ht : h.tb = (T : Int)) (hT : T < rn) (hab : ad.block < w.heap.size) (hX : w.cell? (ad.add T) = some (.slice X xn xc)) (HC : ∀ W, Below w.heap.size w W → Calls Try.prog 34 #[.slice X xn xc, .int .i64 h.cl] W (RetB W (retO q))) :
    Calls Try.prog 21 #[.pointer (some ⟨O, 0, none⟩), h.agg A0 n0 c0] w (RetB w (retO q)) := by
  obtain ⟨k0, op0, no0, ⟨vk0, vi0, vs0⟩, of0, nm0, tb0, cl0⟩ := h
  simp only at hk
  subst hk
  have hb0 : Below w.heap.size w ((w.alloc (.cells #[.int .u8 2, .string op0, .bool no0, .int .u8 vk0, .int .i64 vi0, .string vs0, .string of0, .string nm0, .int .i64 tb0, .int .i64 cl0, .slice A0 n0 c0] 26)).alloc (.cells #[.int .u8 0, .int .i64 0, .string ⟨#[]⟩] 23)) := ball (ball (Below.refl _ _) _) _
  simp only [TmH.agg] at *
  subst ht
  have HCC := Lib.hid HC
  clear HC
  have g1 : decide ((T : Int) < 0) = false := decide_eq_false (by omega)
  have g2 : decide ((rn : Int) ≤ (T : Int)) = false := decide_eq_false (by omega)
  have t0 : (0 : Int) ≤ (T : Int) := by omega
  have t1 : (T : Int) < (rn : Int) := by omega
  have o0 : ((w.alloc (.cells #[.int .u8 2, .string op0, .bool no0, .int .u8 vk0, .int .i64 vi0, .string vs0, .string of0, .string nm0, .int .i64 (T : Int), .int .i64 cl0, .slice A0 n0 c0] 26)).alloc (.cells #[.int .u8 0, .int .i64 0, .string ⟨#[]⟩] 23)).cell? ⟨O, 0, none⟩ = some (.slice (some ad) rn rc) := (hb0.cell (p := ⟨O, 0, none⟩) hOl).trans hO
  have o1 : ((w.alloc (.cells #[.int .u8 2, .string op0, .bool no0, .int .u8 vk0, .int .i64 vi0, .string vs0, .string of0, .string nm0, .int .i64 (T : Int), .int .i64 cl0, .slice A0 n0 c0] 26)).alloc (.cells #[.int .u8 0, .int .i64 0, .string ⟨#[]⟩] 23)).cell? (ad.add T) = some (.slice X xn xc) := (hb0.cell (p := ad.add T) (by rw [block_of_add]; exact hab)).trans hX
  unfold maxLen at hrn
  cases q with
  | none =>
    simp only [retO, Option.getD, Option.isSome, zV, Vl.agg] at HCC
    go_enter Try.func21, Try.ntmps21
    go_wp2_with fail
    go_quiet (fail)
    go_wp2_with fail
    go_region_with (go_at_call 34; (with_reducible refine (HCC.out _ (by (with_reducible repeat (first | exact hb0 | assumption | refine Below.drew ?_ | refine bdr ?_ _)))).mono ?_); rintro e w1 ⟨rfl, hb1⟩; have hB : Blk w1 (w.heap.size + 1) 23 #[.int .u8 0, .int .i64 0, .string ⟨#[]⟩] := blkUp hb1 (by with_reducible repeat (first | exact Blk.newAt (by simp) | refine Blk.drewN ?_ _ | refine Blk.drew ?_)); have hB_0 : (w1).cell? ⟨w.heap.size + 1, 0, none⟩ = some (.int .u8 0) := hB.cell 0; have hB_1 : (w1).cell? ⟨w.heap.size + 1, 1, none⟩ = some (.int .i64 0) := hB.cell 1; have hB_2 : (w1).cell? ⟨w.heap.size + 1, 2, none⟩ = some (.string ⟨#[]⟩) := hB.cell 2; have f0 := hB.frozen 0; have f1 := hB.frozen 1; have f2 := hB.frozen 2; have hbw : Below w.heap.size w w1 := bto0 (by (with_reducible repeat (first | exact hb0 | refine Below.drew ?_ | refine bdr ?_ _))) hb1)
    all_goals
      go_wp2_with fail
      exact val_end (R := w.heap.size + 1) (o := none) (by (with_reducible repeat (first | refine Blk.alloc ?_ _ | refine Blk.drew ?_)); exact blk3 hB) (by simp) (by simp) ⟨rfl, by with_reducible repeat (first | exact Below.refl _ _ | exact hbw | refine ball ?_ _ | refine bset ?_ (Nat.le_add_right _ _) _ | refine Below.drew ?_)⟩
  | some u =>
    obtain ⟨uk, ui, us⟩ := u
    simp only [retO, Option.getD, Option.isSome, Vl.agg] at HCC
    go_enter Try.func21, Try.ntmps21
    go_wp2_with fail
    go_quiet (fail)
    go_wp2_with fail
    go_region_with (go_at_call 34; (with_reducible refine (HCC.out _ (by (with_reducible repeat (first | exact hb0 | assumption | refine Below.drew ?_ | refine bdr ?_ _)))).mono ?_); rintro e w1 ⟨rfl, hb1⟩; have hB : Blk w1 (w.heap.size + 1) 23 #[.int .u8 0, .int .i64 0, .string ⟨#[]⟩] := blkUp hb1 (by with_reducible repeat (first | exact Blk.newAt (by simp) | refine Blk.drewN ?_ _ | refine Blk.drew ?_)); have hB_0 : (w1).cell? ⟨w.heap.size + 1, 0, none⟩ = some (.int .u8 0) := hB.cell 0; have hB_1 : (w1).cell? ⟨w.heap.size + 1, 1, none⟩ = some (.int .i64 0) := hB.cell 1; have hB_2 : (w1).cell? ⟨w.heap.size + 1, 2, none⟩ = some (.string ⟨#[]⟩) := hB.cell 2; have f0 := hB.frozen 0; have f1 := hB.frozen 1; have f2 := hB.frozen 2; have hbw : Below w.heap.size w w1 := bto0 (by (with_reducible repeat (first | exact hb0 | refine Below.drew ?_ | refine bdr ?_ _))) hb1)
    all_goals
      go_wp2_with fail
      exact val_end (R := w.heap.size + 1) (o := (some ⟨uk, ui, us⟩)) (by (with_reducible repeat (first | refine Blk.alloc ?_ _ | refine Blk.drew ?_)); exact blk3 hB) (by simp) (by simp) ⟨rfl, by with_reducible repeat (first | exact Below.refl _ _ | exact hbw | refine ball ?_ _ | refine bset ?_ (Nat.le_add_right _ _) _ | refine Below.drew ?_)⟩
end
end Go.Proofs.Ytilopgfpifhccaa
/-
  The program's test of several arguments.
-/
namespace Go.Proofs.Ytilopgfpifhccaa
section
set_option linter.unusedSimpArgs false
set_option linter.unusedVariables false
open Go.RowKit

theorem Try.elemT : Try.prog.elem 24 = 26 := by kernel_rfl
theorem Try.sizeT (W : World) : (Go.sizeOf 26).run Try.prog W = .ok 11 W := by kernel_rfl
theorem Try.sliceT : Try.prog.underlying 24 = some (.slice (Try.prog.elem 24)) := by kernel_rfl
/-- Where what is left behind the first term begins. -/
def adT (ad : Addr) (c : Nat) : Addr := if c = 0 then ad else ⟨ad.block, ad.off + 11, none⟩
theorem cutT (ad : Addr) (m c : Nat) (h : m ≤ c) (W : World) : (Instr.slice 24 (.slice (some ad) (m + 1) (c + 1)) (some (.int .i64 1)) none none).run Try.prog W = .ok (.slice (some (adT ad c)) m c) W := by
  rw [run_slice_l W 24 (some ad) (m + 1) (c + 1) Try.sliceT .i64 1 (by omega) (by omega), Try.elemT, Try.sizeT]
  unfold adT
  by_cases h1 : c = 0
  · simp [sliced, Result.andThen, h1]
  · simp [sliced, Result.andThen, h1, Addr.add]
theorem tailT {w : World} {B : Nat} {ad : Addr} {m c : Nat} {a : Tm} {r : List Tm} (hr : Reads w B 11 (some ad) (m + 1) (vT (a :: r))) (hm : m ≤ c) : Reads w B 11 (some (adT ad c)) m (vT r) := by
  have h1 := hr.1
  rw [vT_len] at h1
  refine ⟨by rw [vT_len]; simp at h1; omega, fun h0 => ?_⟩
  obtain ⟨ad', e, hb, hc⟩ := hr.2 (by omega)
  injection e with e
  subst e
  have hc0 : ¬ c = 0 := by omega
  unfold adT
  rw [if_neg hc0]
  refine ⟨_, rfl, hb, fun j u hu => ?_⟩
  have hx : (vT (a :: r))[11 + j]? = some u := by
    have e : vT (a :: r) = a.cells ++ vT r := rfl
    rw [e, List.getElem?_append_right (by rw [Tm.len]; omega), Tm.len]
    simpa using hu
  have := hc (11 + j) u hx
  have ea : (⟨ad.block, ad.off + 11, none⟩ : Addr).add j = ad.add (11 + j) := by
    unfold Addr.add
    by_cases hj : j = 0
    · subst hj; simp
    · simp [hj, Nat.add_assoc]
  rw [ea]
  exact this
set_option maxRecDepth 100000 in
set_option maxHeartbeats 8000000 in
theorem test_6 (O : Nat) (h : TmH) (A0 : Option Addr) (n0 c0 : Nat) (w : World) (hk : h.k = 6) (a : Tm) (r : List Tm) (τ : Int) (hrd : Reads w w.heap.size 11 A0 n0 (vT (a :: r))) (hnc : n0 ≤ c0) (hc : c0 ≤ maxLen) (HC : ∀ W A n c, Below w.heap.size w W → Reads W W.heap.size 11 A n (vT r) → Calls Try.prog 53 #[.pointer (some ⟨O, 0, none⟩), a.agg, .slice A n c] W (RetB W (.int .u8 τ))) :
    Calls Try.prog 37 #[.pointer (some ⟨O, 0, none⟩), h.agg A0 n0 c0] w (RetB w (.int .u8 (testN h.no τ))) := by
  have hn : n0 = r.length + 1 := by have := hrd.1; rw [vT_len] at this; simp at this; omega
  obtain ⟨m, hm⟩ : ∃ m, r.length = m := ⟨_, rfl⟩
  obtain ⟨cc, rfl⟩ : ∃ cc, c0 = cc + 1 := ⟨c0 - 1, by omega⟩
  rw [hm] at hn
  subst hn
  obtain ⟨k0, op0, no0, ⟨vk0, vi0, vs0⟩, of0, nm0, tb0, cl0⟩ := h
  simp only at hk
  subst hk
  have hb0 : Below w.heap.size w (w.alloc (.cells #[.int .u8 6, .string op0, .bool no0, .int .u8 vk0, .int .i64 vi0, .string vs0, .string of0, .string nm0, .int .i64 tb0, .int .i64 cl0, .slice A0 (m + 1) (cc + 1)] 26)) := ball (Below.refl _ _) _
  have HA := Lib.hid HC
  obtain ⟨ad, rfl, hab, hat⟩ := arg0 (hrd.below hb0)
  obtain ⟨⟨k1, op1, no1, ⟨vk1, vi1, vs1⟩, of1, nm1, tb1, cl1⟩, A1, n1, c1, l1⟩ := a
  obtain ⟨y0, y1, y2, y3, y4, y5, y6, y7, y8, y9, y10⟩ := hat
  simp only [Tm.agg, TmH.agg, Tm.h, Tm.A, Tm.n, Tm.c] at HA y0 y1 y2 y3 y4 y5 y6 y7 y8 y9 y10 ⊢
  clear HC
  have m0 : (((m + 1 : Nat) : Int) == 0) = false := by simp; omega
  have sl := cutT ad m cc (by omega)
  have HR := Lib.hid fun (W : World) (hW : Below w.heap.size w W) => HA.out W (some (adT ad cc)) m cc hW (tailT ((hrd.below hW).more hW.size) (by omega))
  clear hrd
  unfold maxLen at hc
  go_enter Try.func37, Try.ntmps37
  go_wp2_with fail
  go_region_with (go_at_call 53; (with_reducible refine (HR.out _ (by (with_reducible repeat (first | exact hb0 | refine Below.drew ?_ | refine bdr ?_ _)))).mono ?_); rintro e w1 ⟨rfl, hb1⟩; have hbw : Below w.heap.size w w1 := bto0 (by (with_reducible repeat (first | exact hb0 | refine Below.drew ?_ | refine bdr ?_ _))) hb1; have hC : Blk w1 w.heap.size 26 #[.int .u8 6, .string op0, .bool no0, .int .u8 vk0, .int .i64 vi0, .string vs0, .string of0, .string nm0, .int .i64 tb0, .int .i64 cl0, .slice (some ad) (m + 1) (cc + 1)] := blkUp hb1 (by with_reducible repeat (first | exact Blk.new _ _ _ | refine Blk.drew ?_)); have hC_0 : (w1).cell? ⟨w.heap.size, 0, none⟩ = some (.int .u8 6) := hC.cell 0; have hC_1 : (w1).cell? ⟨w.heap.size, 1, none⟩ = some (.string op0) := hC.cell 1; have hC_2 : (w1).cell? ⟨w.heap.size, 2, none⟩ = some (.bool no0) := hC.cell 2; have hC_3 : (w1).cell? ⟨w.heap.size, 3, none⟩ = some (.int .u8 vk0) := hC.cell 3; have hC_4 : (w1).cell? ⟨w.heap.size, 4, none⟩ = some (.int .i64 vi0) := hC.cell 4; have hC_5 : (w1).cell? ⟨w.heap.size, 5, none⟩ = some (.string vs0) := hC.cell 5; have hC_6 : (w1).cell? ⟨w.heap.size, 6, none⟩ = some (.string of0) := hC.cell 6; have hC_7 : (w1).cell? ⟨w.heap.size, 7, none⟩ = some (.string nm0) := hC.cell 7; have hC_8 : (w1).cell? ⟨w.heap.size, 8, none⟩ = some (.int .i64 tb0) := hC.cell 8; have hC_9 : (w1).cell? ⟨w.heap.size, 9, none⟩ = some (.int .i64 cl0) := hC.cell 9; have hC_10 : (w1).cell? ⟨w.heap.size, 10, none⟩ = some (.slice (some ad) (m + 1) (cc + 1)) := hC.cell 10)
  all_goals
    cases no0
    all_goals
      go_wp2_with (go_at_call 54; refine (not_any _ _).mono ?_; rintro e w' ⟨rfl, rfl⟩)
      go_ret
      exact ⟨by unfold testN; simp, hbw⟩
end
end Go.Proofs.Ytilopgfpifhccaa
