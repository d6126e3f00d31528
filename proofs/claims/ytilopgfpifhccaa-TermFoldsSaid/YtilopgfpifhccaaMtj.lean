/-
  Several texts in one: R8.
-/
import Derived.Test.YtilopgfpifhccaaMti
/-
  The program's operation.
-/
namespace Go.Proofs.Ytilopgfpifhccaa
section
set_option linter.unusedSimpArgs false
set_option linter.unusedVariables false
open Go.RowKit

theorem op_end {W : World} {R : Nat} {tm : Array Value} {Q : Ending → World → Prop} {o : Option Vl} (hR : Blk W R 23 #[.int .u8 (o.getD zV).k, .int .i64 (o.getD zV).i, .string (o.getD zV).s])
    (h4 : tm[4]? = some (.pointer (some ⟨R, 0, none⟩))) (h5 : tm[5]? = some (.bool o.isSome)) (h : Q (.returned (retO o)) W) :
    bodyPost Try.prog Try.f35 Q Exit.ret { tmps := tm, defers := [] } W := by
  have q0 : W.cell? ⟨R, 0, none⟩ = _ := hR.cell 0
  have q1 : W.cell? ⟨R, 1, none⟩ = _ := hR.cell 1
  have q2 : W.cell? ⟨R, 2, none⟩ = _ := hR.cell 2
  exact bodyPost_ret (v := retO o) (by simp [results, Try.results35, go_sem, h4, h5, q0, q1, q2, retO, Vl.agg]) rfl h

theorem retVal (t : Int) : retO (valT t) = .tuple #[(tv t).agg, .bool (tok t)] := by
  unfold valT
  cases h : tok t with
  | true => simp [retO]
  | false =>
    have e : tv t = zV := by
      unfold tok at h
      simp only [Bool.or_eq_false_iff, beq_eq_false_iff_ne] at h
      unfold tv
      rw [if_neg h.1.1, if_neg h.1.2, if_neg h.2]
      rfl
    simp [retO, e]
set_option maxRecDepth 100000 in
set_option maxHeartbeats 8000000 in
theorem op_c (O : Nat) (h : TmH) (A0 : Option Addr) (n0 c0 : Nat) (w : World) (hk : h.k = 3) (h1 : h.op.toList ≠ [78, 79, 84]) (h2 : h.op.toList ≠ [45]) :
    Calls Try.prog 35 #[.pointer (some ⟨O, 0, none⟩), h.agg A0 n0 c0] w (RetB w (retO none)) := by
  obtain ⟨k0, op0, no0, ⟨vk0, vi0, vs0⟩, of0, nm0, tb0, cl0⟩ := h
  simp only at hk
  subst hk
  have hb0 : Below w.heap.size w ((w.alloc (.cells #[.int .u8 3, .string op0, .bool no0, .int .u8 vk0, .int .i64 vi0, .string vs0, .string of0, .string nm0, .int .i64 tb0, .int .i64 cl0, .slice A0 n0 c0] 26)).alloc (.cells #[.int .u8 0, .int .i64 0, .string ⟨#[]⟩] 23)) := ball (ball (Below.refl _ _) _) _
  simp only [TmH.agg] at *
  have e0 : (op0.toList == [78, 79, 84]) = false := by simpa using h1
  have e1 : (op0.toList == [45]) = false := by simpa using h2
  clear h1 h2
  go_enter Try.func35, Try.ntmps35
  go_wp2_with fail
  exact bodyPost_ret (v := retO none) (by simp [results, Try.results35, go_sem, retO, zV, Vl.agg]) rfl ⟨rfl, by with_reducible repeat (first | exact Below.refl _ _ | refine ball ?_ _)⟩

set_option maxRecDepth 100000 in
set_option maxHeartbeats 8000000 in
theorem op_d1 (O : Nat) (h : TmH) (A0 : Option Addr) (n0 c0 : Nat) (w : World) (hk : h.k = 3) (h1 : h.op.toList = [78, 79, 84]) (hn : (n0 : Int) ≠ 1) :
    Calls Try.prog 35 #[.pointer (some ⟨O, 0, none⟩), h.agg A0 n0 c0] w (RetB w (retO none)) := by
  obtain ⟨k0, op0, no0, ⟨vk0, vi0, vs0⟩, of0, nm0, tb0, cl0⟩ := h
  simp only at hk
  subst hk
  have hb0 : Below w.heap.size w ((w.alloc (.cells #[.int .u8 3, .string op0, .bool no0, .int .u8 vk0, .int .i64 vi0, .string vs0, .string of0, .string nm0, .int .i64 tb0, .int .i64 cl0, .slice A0 n0 c0] 26)).alloc (.cells #[.int .u8 0, .int .i64 0, .string ⟨#[]⟩] 23)) := ball (ball (Below.refl _ _) _) _
  simp only [TmH.agg] at *
  have e0 : (op0.toList == [78, 79, 84]) = true := by rw [h1]; decide
  have e1 : (op0.toList == [45]) = false := by rw [h1]; decide
  have m1 : ((n0 : Int) != 1) = true := by simpa using hn
  clear h1 hn
  go_enter Try.func35, Try.ntmps35
  go_wp2_with fail
  exact bodyPost_ret (v := retO none) (by simp [results, Try.results35, go_sem, retO, zV, Vl.agg]) rfl ⟨rfl, by with_reducible repeat (first | exact Below.refl _ _ | refine ball ?_ _)⟩

set_option maxRecDepth 100000 in
set_option maxHeartbeats 8000000 in
theorem op_d2 (O : Nat) (h : TmH) (A0 : Option Addr) (n0 c0 : Nat) (w : World) (hk : h.k = 3) (h1 : h.op.toList = [45]) (hn : (n0 : Int) ≠ 1) :
    Calls Try.prog 35 #[.pointer (some ⟨O, 0, none⟩), h.agg A0 n0 c0] w (RetB w (retO none)) := by
  obtain ⟨k0, op0, no0, ⟨vk0, vi0, vs0⟩, of0, nm0, tb0, cl0⟩ := h
  simp only at hk
  subst hk
  have hb0 : Below w.heap.size w ((w.alloc (.cells #[.int .u8 3, .string op0, .bool no0, .int .u8 vk0, .int .i64 vi0, .string vs0, .string of0, .string nm0, .int .i64 tb0, .int .i64 cl0, .slice A0 n0 c0] 26)).alloc (.cells #[.int .u8 0, .int .i64 0, .string ⟨#[]⟩] 23)) := ball (ball (Below.refl _ _) _) _
  simp only [TmH.agg] at *
  have e0 : (op0.toList == [78, 79, 84]) = false := by rw [h1]; decide
  have e1 : (op0.toList == [45]) = true := by rw [h1]; decide
  have m1 : ((n0 : Int) != 1) = true := by simpa using hn
  clear h1 hn
  go_enter Try.func35, Try.ntmps35
  go_wp2_with fail
  exact bodyPost_ret (v := retO none) (by simp [results, Try.results35, go_sem, retO, zV, Vl.agg]) rfl ⟨rfl, by with_reducible repeat (first | exact Below.refl _ _ | refine ball ?_ _)⟩

set_option maxRecDepth 100000 in
set_option maxHeartbeats 8000000 in
theorem op_e (O : Nat) (h : TmH) (A0 : Option Addr) (n0 c0 : Nat) (w : World) (hk : h.k = 4) (h1 : h.op.toList = [78, 79, 84]) :
    Calls Try.prog 35 #[.pointer (some ⟨O, 0, none⟩), h.agg A0 n0 c0] w (RetB w (retO none)) := by
  obtain ⟨k0, op0, no0, ⟨vk0, vi0, vs0⟩, of0, nm0, tb0, cl0⟩ := h
  simp only at hk
  subst hk
  have hb0 : Below w.heap.size w ((w.alloc (.cells #[.int .u8 4, .string op0, .bool no0, .int .u8 vk0, .int .i64 vi0, .string vs0, .string of0, .string nm0, .int .i64 tb0, .int .i64 cl0, .slice A0 n0 c0] 26)).alloc (.cells #[.int .u8 0, .int .i64 0, .string ⟨#[]⟩] 23)) := ball (ball (Below.refl _ _) _) _
  simp only [TmH.agg] at *
  have e0 : (op0.toList == [78, 79, 84]) = true := by rw [h1]; decide
  clear h1
  go_enter Try.func35, Try.ntmps35
  go_wp2_with fail
  exact bodyPost_ret (v := retO none) (by simp [results, Try.results35, go_sem, retO, zV, Vl.agg]) rfl ⟨rfl, by with_reducible repeat (first | exact Below.refl _ _ | refine ball ?_ _)⟩

set_option maxRecDepth 100000 in
set_option maxHeartbeats 8000000 in
theorem op_ftrue (O : Nat) (h : TmH) (A0 : Option Addr) (n0 c0 : Nat) (w : World) (hk : h.k = 4) (h1 : h.op.toList ≠ [78, 79, 84]) (h2 : (h.op.toList == [45]) = true) (hn : (n0 : Int) ≠ 2) :
    Calls Try.prog 35 #[.pointer (some ⟨O, 0, none⟩), h.agg A0 n0 c0] w (RetB w (retO none)) := by
  obtain ⟨k0, op0, no0, ⟨vk0, vi0, vs0⟩, of0, nm0, tb0, cl0⟩ := h
  simp only at hk
  subst hk
  have hb0 : Below w.heap.size w ((w.alloc (.cells #[.int .u8 4, .string op0, .bool no0, .int .u8 vk0, .int .i64 vi0, .string vs0, .string of0, .string nm0, .int .i64 tb0, .int .i64 cl0, .slice A0 n0 c0] 26)).alloc (.cells #[.int .u8 0, .int .i64 0, .string ⟨#[]⟩] 23)) := ball (ball (Below.refl _ _) _) _
  simp only [TmH.agg] at *
  have e0 : (op0.toList == [78, 79, 84]) = false := by simpa using h1
  have m1 : ((n0 : Int) != 2) = true := by simpa using hn
  clear h1 hn
  go_enter Try.func35, Try.ntmps35
  go_wp2_with fail
  exact bodyPost_ret (v := retO none) (by simp [results, Try.results35, go_sem, retO, zV, Vl.agg]) rfl ⟨rfl, by with_reducible repeat (first | exact Below.refl _ _ | refine ball ?_ _)⟩

set_option maxRecDepth 100000 in
set_option maxHeartbeats 8000000 in
theorem op_ffalse (O : Nat) (h : TmH) (A0 : Option Addr) (n0 c0 : Nat) (w : World) (hk : h.k = 4) (h1 : h.op.toList ≠ [78, 79, 84]) (h2 : (h.op.toList == [45]) = false) (hn : (n0 : Int) ≠ 2) :
    Calls Try.prog 35 #[.pointer (some ⟨O, 0, none⟩), h.agg A0 n0 c0] w (RetB w (retO none)) := by
  obtain ⟨k0, op0, no0, ⟨vk0, vi0, vs0⟩, of0, nm0, tb0, cl0⟩ := h
  simp only at hk
  subst hk
  have hb0 : Below w.heap.size w ((w.alloc (.cells #[.int .u8 4, .string op0, .bool no0, .int .u8 vk0, .int .i64 vi0, .string vs0, .string of0, .string nm0, .int .i64 tb0, .int .i64 cl0, .slice A0 n0 c0] 26)).alloc (.cells #[.int .u8 0, .int .i64 0, .string ⟨#[]⟩] 23)) := ball (ball (Below.refl _ _) _) _
  simp only [TmH.agg] at *
  have e0 : (op0.toList == [78, 79, 84]) = false := by simpa using h1
  have m1 : ((n0 : Int) != 2) = true := by simpa using hn
  clear h1 hn
  go_enter Try.func35, Try.ntmps35
  go_wp2_with fail
  exact bodyPost_ret (v := retO none) (by simp [results, Try.results35, go_sem, retO, zV, Vl.agg]) rfl ⟨rfl, by with_reducible repeat (first | exact Below.refl _ _ | refine ball ?_ _)⟩

set_option maxRecDepth 100000 in
set_option maxHeartbeats 8000000 in
theorem op_b (O : Nat) (q : Option Vl) (h : TmH) (A0 : Option Addr) (n0 c0 : Nat) (w : World) (hk : h.k = 3) (hn : n0 = 1) (h1 : h.op.toList = [45]) (HC : ∀ W, Below w.heap.size w W → Calls Try.prog 51 #[.pointer (some ⟨O, 0, none⟩), h.agg A0 n0 c0] W (RetB W (retO q))) :
    Calls Try.prog 35 #[.pointer (some ⟨O, 0, none⟩), h.agg A0 n0 c0] w (RetB w (retO q)) := by
  subst hn
  obtain ⟨k0, op0, no0, ⟨vk0, vi0, vs0⟩, of0, nm0, tb0, cl0⟩ := h
  simp only at hk
  subst hk
  have hb0 : Below w.heap.size w ((w.alloc (.cells #[.int .u8 3, .string op0, .bool no0, .int .u8 vk0, .int .i64 vi0, .string vs0, .string of0, .string nm0, .int .i64 tb0, .int .i64 cl0, .slice A0 1 c0] 26)).alloc (.cells #[.int .u8 0, .int .i64 0, .string ⟨#[]⟩] 23)) := ball (ball (Below.refl _ _) _) _
  simp only [TmH.agg] at *
  have e0 : (op0.toList == [78, 79, 84]) = false := by rw [h1]; decide
  have e1 : (op0.toList == [43]) = false := by rw [h1]; decide
  have e2 : (op0.toList == [45]) = true := by rw [h1]; decide
  have e3 : (op0.toList == [42]) = false := by rw [h1]; decide
  clear h1
  have HCC := Lib.hid HC
  clear HC
  go_enter Try.func35, Try.ntmps35
  go_wp2_with fail
  refine (HCC.out _ hb0).mono ?_
  rintro e w1 ⟨rfl, hb1⟩
  have hbw := bto0 hb0 hb1
  have hB : Blk w1 (w.heap.size + 1) 23 #[.int .u8 0, .int .i64 0, .string ⟨#[]⟩] := blkOf hb1 (by simp) (Blk.newAt (by simp))
  have hB_0 : (w1).cell? ⟨w.heap.size + 1, 0, none⟩ = some (.int .u8 0) := hB.cell 0
  have hB_1 : (w1).cell? ⟨w.heap.size + 1, 1, none⟩ = some (.int .i64 0) := hB.cell 1
  have hB_2 : (w1).cell? ⟨w.heap.size + 1, 2, none⟩ = some (.string ⟨#[]⟩) := hB.cell 2
  have hz := hB.lt
  have f0 := hB.frozen 0
  have f1 := hB.frozen 1
  have f2 := hB.frozen 2
  cases q with
  | none =>
    simp only [retO, Option.getD, Option.isSome, zV, Vl.agg]
    go_wp2_with fail
    exact op_end (R := w.heap.size + 1) (o := none) (by (with_reducible repeat (first | refine Blk.alloc ?_ _ | refine Blk.drew ?_)); exact blk3 hB) (by simp) (by simp) ⟨rfl, by with_reducible repeat (first | exact Below.refl _ _ | exact hbw | exact hbw2 | refine ball ?_ _ | refine bset ?_ (Nat.le_add_right _ _) _ | refine Below.drew ?_)⟩
  | some u =>
    obtain ⟨uk, ui, us⟩ := u
    simp only [retO, Option.getD, Option.isSome, Vl.agg]
    go_wp2_with fail
    exact op_end (R := w.heap.size + 1) (o := (some ⟨uk, ui, us⟩)) (by (with_reducible repeat (first | refine Blk.alloc ?_ _ | refine Blk.drew ?_)); exact blk3 hB) (by simp) (by simp) ⟨rfl, by with_reducible repeat (first | exact Below.refl _ _ | exact hbw | exact hbw2 | refine ball ?_ _ | refine bset ?_ (Nat.le_add_right _ _) _ | refine Below.drew ?_)⟩

set_option maxRecDepth 100000 in
set_option maxHeartbeats 8000000 in
theorem op_gplus (O : Nat) (q : Option Vl) (h : TmH) (A0 : Option Addr) (n0 c0 : Nat) (w : World) (hk : h.k = 4) (hn : n0 = 2) (h1 : h.op.toList = [43]) (HC : ∀ W, Below w.heap.size w W → Calls Try.prog 51 #[.pointer (some ⟨O, 0, none⟩), h.agg A0 n0 c0] W (RetB W (retO q))) :
    Calls Try.prog 35 #[.pointer (some ⟨O, 0, none⟩), h.agg A0 n0 c0] w (RetB w (retO q)) := by
  subst hn
  obtain ⟨k0, op0, no0, ⟨vk0, vi0, vs0⟩, of0, nm0, tb0, cl0⟩ := h
  simp only at hk
  subst hk
  have hb0 : Below w.heap.size w ((w.alloc (.cells #[.int .u8 4, .string op0, .bool no0, .int .u8 vk0, .int .i64 vi0, .string vs0, .string of0, .string nm0, .int .i64 tb0, .int .i64 cl0, .slice A0 2 c0] 26)).alloc (.cells #[.int .u8 0, .int .i64 0, .string ⟨#[]⟩] 23)) := ball (ball (Below.refl _ _) _) _
  simp only [TmH.agg] at *
  have e0 : (op0.toList == [78, 79, 84]) = false := by rw [h1]; decide
  have e1 : (op0.toList == [43]) = true := by rw [h1]; decide
  have e2 : (op0.toList == [45]) = false := by rw [h1]; decide
  have e3 : (op0.toList == [42]) = false := by rw [h1]; decide
  clear h1
  have HCC := Lib.hid HC
  clear HC
  go_enter Try.func35, Try.ntmps35
  go_wp2_with fail
  refine (HCC.out _ hb0).mono ?_
  rintro e w1 ⟨rfl, hb1⟩
  have hbw := bto0 hb0 hb1
  have hB : Blk w1 (w.heap.size + 1) 23 #[.int .u8 0, .int .i64 0, .string ⟨#[]⟩] := blkOf hb1 (by simp) (Blk.newAt (by simp))
  have hB_0 : (w1).cell? ⟨w.heap.size + 1, 0, none⟩ = some (.int .u8 0) := hB.cell 0
  have hB_1 : (w1).cell? ⟨w.heap.size + 1, 1, none⟩ = some (.int .i64 0) := hB.cell 1
  have hB_2 : (w1).cell? ⟨w.heap.size + 1, 2, none⟩ = some (.string ⟨#[]⟩) := hB.cell 2
  have hz := hB.lt
  have f0 := hB.frozen 0
  have f1 := hB.frozen 1
  have f2 := hB.frozen 2
  cases q with
  | none =>
    simp only [retO, Option.getD, Option.isSome, zV, Vl.agg]
    go_wp2_with fail
    exact op_end (R := w.heap.size + 1) (o := none) (by (with_reducible repeat (first | refine Blk.alloc ?_ _ | refine Blk.drew ?_)); exact blk3 hB) (by simp) (by simp) ⟨rfl, by with_reducible repeat (first | exact Below.refl _ _ | exact hbw | exact hbw2 | refine ball ?_ _ | refine bset ?_ (Nat.le_add_right _ _) _ | refine Below.drew ?_)⟩
  | some u =>
    obtain ⟨uk, ui, us⟩ := u
    simp only [retO, Option.getD, Option.isSome, Vl.agg]
    go_wp2_with fail
    exact op_end (R := w.heap.size + 1) (o := (some ⟨uk, ui, us⟩)) (by (with_reducible repeat (first | refine Blk.alloc ?_ _ | refine Blk.drew ?_)); exact blk3 hB) (by simp) (by simp) ⟨rfl, by with_reducible repeat (first | exact Below.refl _ _ | exact hbw | exact hbw2 | refine ball ?_ _ | refine bset ?_ (Nat.le_add_right _ _) _ | refine Below.drew ?_)⟩

set_option maxRecDepth 100000 in
set_option maxHeartbeats 8000000 in
theorem op_gminus (O : Nat) (q : Option Vl) (h : TmH) (A0 : Option Addr) (n0 c0 : Nat) (w : World) (hk : h.k = 4) (hn : n0 = 2) (h1 : h.op.toList = [45]) (HC : ∀ W, Below w.heap.size w W → Calls Try.prog 51 #[.pointer (some ⟨O, 0, none⟩), h.agg A0 n0 c0] W (RetB W (retO q))) :
    Calls Try.prog 35 #[.pointer (some ⟨O, 0, none⟩), h.agg A0 n0 c0] w (RetB w (retO q)) := by
  subst hn
  obtain ⟨k0, op0, no0, ⟨vk0, vi0, vs0⟩, of0, nm0, tb0, cl0⟩ := h
  simp only at hk
  subst hk
  have hb0 : Below w.heap.size w ((w.alloc (.cells #[.int .u8 4, .string op0, .bool no0, .int .u8 vk0, .int .i64 vi0, .string vs0, .string of0, .string nm0, .int .i64 tb0, .int .i64 cl0, .slice A0 2 c0] 26)).alloc (.cells #[.int .u8 0, .int .i64 0, .string ⟨#[]⟩] 23)) := ball (ball (Below.refl _ _) _) _
  simp only [TmH.agg] at *
  have e0 : (op0.toList == [78, 79, 84]) = false := by rw [h1]; decide
  have e1 : (op0.toList == [43]) = false := by rw [h1]; decide
  have e2 : (op0.toList == [45]) = true := by rw [h1]; decide
  have e3 : (op0.toList == [42]) = false := by rw [h1]; decide
  clear h1
  have HCC := Lib.hid HC
  clear HC
  go_enter Try.func35, Try.ntmps35
  go_wp2_with fail
  refine (HCC.out _ hb0).mono ?_
  rintro e w1 ⟨rfl, hb1⟩
  have hbw := bto0 hb0 hb1
  have hB : Blk w1 (w.heap.size + 1) 23 #[.int .u8 0, .int .i64 0, .string ⟨#[]⟩] := blkOf hb1 (by simp) (Blk.newAt (by simp))
  have hB_0 : (w1).cell? ⟨w.heap.size + 1, 0, none⟩ = some (.int .u8 0) := hB.cell 0
  have hB_1 : (w1).cell? ⟨w.heap.size + 1, 1, none⟩ = some (.int .i64 0) := hB.cell 1
  have hB_2 : (w1).cell? ⟨w.heap.size + 1, 2, none⟩ = some (.string ⟨#[]⟩) := hB.cell 2
  have hz := hB.lt
  have f0 := hB.frozen 0
  have f1 := hB.frozen 1
  have f2 := hB.frozen 2
  cases q with
  | none =>
    simp only [retO, Option.getD, Option.isSome, zV, Vl.agg]
    go_wp2_with fail
    exact op_end (R := w.heap.size + 1) (o := none) (by (with_reducible repeat (first | refine Blk.alloc ?_ _ | refine Blk.drew ?_)); exact blk3 hB) (by simp) (by simp) ⟨rfl, by with_reducible repeat (first | exact Below.refl _ _ | exact hbw | exact hbw2 | refine ball ?_ _ | refine bset ?_ (Nat.le_add_right _ _) _ | refine Below.drew ?_)⟩
  | some u =>
    obtain ⟨uk, ui, us⟩ := u
    simp only [retO, Option.getD, Option.isSome, Vl.agg]
    go_wp2_with fail
    exact op_end (R := w.heap.size + 1) (o := (some ⟨uk, ui, us⟩)) (by (with_reducible repeat (first | refine Blk.alloc ?_ _ | refine Blk.drew ?_)); exact blk3 hB) (by simp) (by simp) ⟨rfl, by with_reducible repeat (first | exact Below.refl _ _ | exact hbw | exact hbw2 | refine ball ?_ _ | refine bset ?_ (Nat.le_add_right _ _) _ | refine Below.drew ?_)⟩

set_option maxRecDepth 100000 in
set_option maxHeartbeats 8000000 in
theorem op_gstar (O : Nat) (q : Option Vl) (h : TmH) (A0 : Option Addr) (n0 c0 : Nat) (w : World) (hk : h.k = 4) (hn : n0 = 2) (h1 : h.op.toList = [42]) (HC : ∀ W, Below w.heap.size w W → Calls Try.prog 51 #[.pointer (some ⟨O, 0, none⟩), h.agg A0 n0 c0] W (RetB W (retO q))) :
    Calls Try.prog 35 #[.pointer (some ⟨O, 0, none⟩), h.agg A0 n0 c0] w (RetB w (retO q)) := by
  subst hn
  obtain ⟨k0, op0, no0, ⟨vk0, vi0, vs0⟩, of0, nm0, tb0, cl0⟩ := h
  simp only at hk
  subst hk
  have hb0 : Below w.heap.size w ((w.alloc (.cells #[.int .u8 4, .string op0, .bool no0, .int .u8 vk0, .int .i64 vi0, .string vs0, .string of0, .string nm0, .int .i64 tb0, .int .i64 cl0, .slice A0 2 c0] 26)).alloc (.cells #[.int .u8 0, .int .i64 0, .string ⟨#[]⟩] 23)) := ball (ball (Below.refl _ _) _) _
  simp only [TmH.agg] at *
  have e0 : (op0.toList == [78, 79, 84]) = false := by rw [h1]; decide
  have e1 : (op0.toList == [43]) = false := by rw [h1]; decide
  have e2 : (op0.toList == [45]) = false := by rw [h1]; decide
  have e3 : (op0.toList == [42]) = true := by rw [h1]; decide
  clear h1
  have HCC := Lib.hid HC
  clear HC
  go_enter Try.func35, Try.ntmps35
  go_wp2_with fail
  refine (HCC.out _ hb0).mono ?_
  rintro e w1 ⟨rfl, hb1⟩
  have hbw := bto0 hb0 hb1
  have hB : Blk w1 (w.heap.size + 1) 23 #[.int .u8 0, .int .i64 0, .string ⟨#[]⟩] := blkOf hb1 (by simp) (Blk.newAt (by simp))
  have hB_0 : (w1).cell? ⟨w.heap.size + 1, 0, none⟩ = some (.int .u8 0) := hB.cell 0
  have hB_1 : (w1).cell? ⟨w.heap.size + 1, 1, none⟩ = some (.int .i64 0) := hB.cell 1
  have hB_2 : (w1).cell? ⟨w.heap.size + 1, 2, none⟩ = some (.string ⟨#[]⟩) := hB.cell 2
  have hz := hB.lt
  have f0 := hB.frozen 0
  have f1 := hB.frozen 1
  have f2 := hB.frozen 2
  cases q with
  | none =>
    simp only [retO, Option.getD, Option.isSome, zV, Vl.agg]
    go_wp2_with fail
    exact op_end (R := w.heap.size + 1) (o := none) (by (with_reducible repeat (first | refine Blk.alloc ?_ _ | refine Blk.drew ?_)); exact blk3 hB) (by simp) (by simp) ⟨rfl, by with_reducible repeat (first | exact Below.refl _ _ | exact hbw | exact hbw2 | refine ball ?_ _ | refine bset ?_ (Nat.le_add_right _ _) _ | refine Below.drew ?_)⟩
  | some u =>
    obtain ⟨uk, ui, us⟩ := u
    simp only [retO, Option.getD, Option.isSome, Vl.agg]
    go_wp2_with fail
    exact op_end (R := w.heap.size + 1) (o := (some ⟨uk, ui, us⟩)) (by (with_reducible repeat (first | refine Blk.alloc ?_ _ | refine Blk.drew ?_)); exact blk3 hB) (by simp) (by simp) ⟨rfl, by with_reducible repeat (first | exact Below.refl _ _ | exact hbw | exact hbw2 | refine ball ?_ _ | refine bset ?_ (Nat.le_add_right _ _) _ | refine Below.drew ?_)⟩

set_option maxRecDepth 100000 in
set_option maxHeartbeats 8000000 in
theorem op_a (O : Nat) (τ : Int) (hτ : 0 ≤ τ) (h : TmH) (A0 : Option Addr) (n0 c0 : Nat) (w : World) (hk : h.k = 3) (hn : n0 = 1) (h1 : h.op.toList = [78, 79, 84]) (HC : ∀ W, Below w.heap.size w W → Calls Try.prog 52 #[.pointer (some ⟨O, 0, none⟩), h.agg A0 n0 c0] W (RetB W (.int .u8 τ))) :
    Calls Try.prog 35 #[.pointer (some ⟨O, 0, none⟩), h.agg A0 n0 c0] w (RetB w (retO (valT τ))) := by
  subst hn
  obtain ⟨k0, op0, no0, ⟨vk0, vi0, vs0⟩, of0, nm0, tb0, cl0⟩ := h
  simp only at hk
  subst hk
  have hb0 : Below w.heap.size w ((w.alloc (.cells #[.int .u8 3, .string op0, .bool no0, .int .u8 vk0, .int .i64 vi0, .string vs0, .string of0, .string nm0, .int .i64 tb0, .int .i64 cl0, .slice A0 1 c0] 26)).alloc (.cells #[.int .u8 0, .int .i64 0, .string ⟨#[]⟩] 23)) := ball (ball (Below.refl _ _) _) _
  simp only [TmH.agg] at *
  have e0 : (op0.toList == [78, 79, 84]) = true := by rw [h1]; decide
  have e1 : (op0.toList == [43]) = false := by rw [h1]; decide
  have e2 : (op0.toList == [45]) = false := by rw [h1]; decide
  have e3 : (op0.toList == [42]) = false := by rw [h1]; decide
  clear h1
  have HCC := Lib.hid HC
  have HV := Lib.hid fun W => value_any τ hτ W
  rw [← retVal] at HV
  obtain ⟨q, hq⟩ : ∃ q, valT τ = q := ⟨_, rfl⟩
  rw [hq] at HV ⊢
  clear HC hq hτ
  go_enter Try.func35, Try.ntmps35
  go_wp2_with fail
  refine (HCC.out _ hb0).mono ?_
  rintro e w1 ⟨rfl, hb1⟩
  have hBA : Blk w1 (w.heap.size + 1) 23 #[.int .u8 0, .int .i64 0, .string ⟨#[]⟩] := blkOf hb1 (by simp) (Blk.newAt (by simp))
  have hBA_0 : (w1).cell? ⟨w.heap.size + 1, 0, none⟩ = some (.int .u8 0) := hBA.cell 0
  have hBA_1 : (w1).cell? ⟨w.heap.size + 1, 1, none⟩ = some (.int .i64 0) := hBA.cell 1
  have hBA_2 : (w1).cell? ⟨w.heap.size + 1, 2, none⟩ = some (.string ⟨#[]⟩) := hBA.cell 2
  have hzA := hBA.lt
  have f0A := hBA.frozen 0
  have f1A := hBA.frozen 1
  have f2A := hBA.frozen 2
  go_wp2_with fail
  refine (HV.out _).mono ?_
  rintro e w2 ⟨rfl, hb2⟩
  have hbw := bto0 (bto0 hb0 hb1) hb2
  have hB : Blk w2 (w.heap.size + 1) 23 #[.int .u8 0, .int .i64 0, .string ⟨#[]⟩] := hBA.below hb2 hBA.lt
  have hB_0 : (w2).cell? ⟨w.heap.size + 1, 0, none⟩ = some (.int .u8 0) := hB.cell 0
  have hB_1 : (w2).cell? ⟨w.heap.size + 1, 1, none⟩ = some (.int .i64 0) := hB.cell 1
  have hB_2 : (w2).cell? ⟨w.heap.size + 1, 2, none⟩ = some (.string ⟨#[]⟩) := hB.cell 2
  have hz := hB.lt
  have f0 := hB.frozen 0
  have f1 := hB.frozen 1
  have f2 := hB.frozen 2
  cases q with
  | none =>
    simp only [retO, Option.getD, Option.isSome, zV, Vl.agg]
    go_wp2_with fail
    exact op_end (R := w.heap.size + 1) (o := none) (by (with_reducible repeat (first | refine Blk.alloc ?_ _ | refine Blk.drew ?_)); exact blk3 hB) (by simp) (by simp) ⟨rfl, by with_reducible repeat (first | exact Below.refl _ _ | exact hbw | exact hbw2 | refine ball ?_ _ | refine bset ?_ (Nat.le_add_right _ _) _ | refine Below.drew ?_)⟩
  | some u =>
    obtain ⟨uk, ui, us⟩ := u
    simp only [retO, Option.getD, Option.isSome, Vl.agg]
    go_wp2_with fail
    exact op_end (R := w.heap.size + 1) (o := (some ⟨uk, ui, us⟩)) (by (with_reducible repeat (first | refine Blk.alloc ?_ _ | refine Blk.drew ?_)); exact blk3 hB) (by simp) (by simp) ⟨rfl, by with_reducible repeat (first | exact Below.refl _ _ | exact hbw | exact hbw2 | refine ball ?_ _ | refine bset ?_ (Nat.le_add_right _ _) _ | refine Below.drew ?_)⟩

set_option maxRecDepth 100000 in
set_option maxHeartbeats 8000000 in
theorem op_h (O : Nat) (τ : Int) (hτ : 0 ≤ τ) (h : TmH) (A0 : Option Addr) (n0 c0 : Nat) (w : World) (hk : h.k = 4) (hn : n0 = 2) (h0 : h.op.toList ≠ [78, 79, 84]) (h1 : ¬ isArith h.op.toList) (HC : ∀ W, Below w.heap.size w W → Calls Try.prog 52 #[.pointer (some ⟨O, 0, none⟩), h.agg A0 n0 c0] W (RetB W (.int .u8 τ))) :
    Calls Try.prog 35 #[.pointer (some ⟨O, 0, none⟩), h.agg A0 n0 c0] w (RetB w (retO (valT τ))) := by
  subst hn
  obtain ⟨k0, op0, no0, ⟨vk0, vi0, vs0⟩, of0, nm0, tb0, cl0⟩ := h
  simp only at hk
  subst hk
  have hb0 : Below w.heap.size w ((w.alloc (.cells #[.int .u8 4, .string op0, .bool no0, .int .u8 vk0, .int .i64 vi0, .string vs0, .string of0, .string nm0, .int .i64 tb0, .int .i64 cl0, .slice A0 2 c0] 26)).alloc (.cells #[.int .u8 0, .int .i64 0, .string ⟨#[]⟩] 23)) := ball (ball (Below.refl _ _) _) _
  simp only [TmH.agg] at *
  unfold isArith at h1
  simp only [not_or] at h1
  obtain ⟨g1, g2, g3⟩ := h1
  have e0 : (op0.toList == [78, 79, 84]) = false := by simpa using h0
  have e1 : (op0.toList == [43]) = false := by simpa using g1
  have e2 : (op0.toList == [45]) = false := by simpa using g2
  have e3 : (op0.toList == [42]) = false := by simpa using g3
  clear h0 g1 g2 g3
  have HCC := Lib.hid HC
  have HV := Lib.hid fun W => value_any τ hτ W
  rw [← retVal] at HV
  obtain ⟨q, hq⟩ : ∃ q, valT τ = q := ⟨_, rfl⟩
  rw [hq] at HV ⊢
  clear HC hq hτ
  go_enter Try.func35, Try.ntmps35
  go_wp2_with fail
  refine (HCC.out _ hb0).mono ?_
  rintro e w1 ⟨rfl, hb1⟩
  have hBA : Blk w1 (w.heap.size + 1) 23 #[.int .u8 0, .int .i64 0, .string ⟨#[]⟩] := blkOf hb1 (by simp) (Blk.newAt (by simp))
  have hBA_0 : (w1).cell? ⟨w.heap.size + 1, 0, none⟩ = some (.int .u8 0) := hBA.cell 0
  have hBA_1 : (w1).cell? ⟨w.heap.size + 1, 1, none⟩ = some (.int .i64 0) := hBA.cell 1
  have hBA_2 : (w1).cell? ⟨w.heap.size + 1, 2, none⟩ = some (.string ⟨#[]⟩) := hBA.cell 2
  have hzA := hBA.lt
  have f0A := hBA.frozen 0
  have f1A := hBA.frozen 1
  have f2A := hBA.frozen 2
  go_wp2_with fail
  refine (HV.out _).mono ?_
  rintro e w2 ⟨rfl, hb2⟩
  have hbw := bto0 (bto0 hb0 hb1) hb2
  have hB : Blk w2 (w.heap.size + 1) 23 #[.int .u8 0, .int .i64 0, .string ⟨#[]⟩] := hBA.below hb2 hBA.lt
  have hB_0 : (w2).cell? ⟨w.heap.size + 1, 0, none⟩ = some (.int .u8 0) := hB.cell 0
  have hB_1 : (w2).cell? ⟨w.heap.size + 1, 1, none⟩ = some (.int .i64 0) := hB.cell 1
  have hB_2 : (w2).cell? ⟨w.heap.size + 1, 2, none⟩ = some (.string ⟨#[]⟩) := hB.cell 2
  have hz := hB.lt
  have f0 := hB.frozen 0
  have f1 := hB.frozen 1
  have f2 := hB.frozen 2
  cases q with
  | none =>
    simp only [retO, Option.getD, Option.isSome, zV, Vl.agg]
    go_wp2_with fail
    exact op_end (R := w.heap.size + 1) (o := none) (by (with_reducible repeat (first | refine Blk.alloc ?_ _ | refine Blk.drew ?_)); exact blk3 hB) (by simp) (by simp) ⟨rfl, by with_reducible repeat (first | exact Below.refl _ _ | exact hbw | exact hbw2 | refine ball ?_ _ | refine bset ?_ (Nat.le_add_right _ _) _ | refine Below.drew ?_)⟩
  | some u =>
    obtain ⟨uk, ui, us⟩ := u
    simp only [retO, Option.getD, Option.isSome, Vl.agg]
    go_wp2_with fail
    exact op_end (R := w.heap.size + 1) (o := (some ⟨uk, ui, us⟩)) (by (with_reducible repeat (first | refine Blk.alloc ?_ _ | refine Blk.drew ?_)); exact blk3 hB) (by simp) (by simp) ⟨rfl, by with_reducible repeat (first | exact Below.refl _ _ | exact hbw | exact hbw2 | refine ball ?_ _ | refine bset ?_ (Nat.le_add_right _ _) _ | refine Below.drew ?_)⟩
end
end Go.Proofs.Ytilopgfpifhccaa
