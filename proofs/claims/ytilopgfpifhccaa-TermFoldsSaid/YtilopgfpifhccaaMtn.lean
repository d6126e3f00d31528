/-
  Several texts in one: R20.
-/
import Derived.Test.YtilopgfpifhccaaMtm
/-
  The reference's Eval: terms without arguments.
-/
namespace Go.Proofs.Ytilopgfpifhccaa
section
set_option linter.unusedSimpArgs false
set_option linter.unusedVariables false
open Go.RowKit

theorem reval_end {W : World} {R : Nat} {tm : Array Value} {Q : Ending → World → Prop} {o : Option Vl} (hR : Blk W R 36 #[.int .u8 (o.getD zV).k, .int .i64 (o.getD zV).i, .string (o.getD zV).s, .bool o.isNone])
    (h4 : tm[6]? = some (.pointer (some ⟨R, 0, none⟩))) (h : Q (.returned (retR o)) W) :
    bodyPost Try.prog Try.f11 Q Exit.ret { tmps := tm, defers := [] } W := by
  have q0 : W.cell? ⟨R, 0, none⟩ = _ := hR.cell 0
  have q1 : W.cell? ⟨R, 1, none⟩ = _ := hR.cell 1
  have q2 : W.cell? ⟨R, 2, none⟩ = _ := hR.cell 2
  have q3 : W.cell? ⟨R, 3, none⟩ = _ := hR.cell 3
  exact bodyPost_ret (v := retR o) (by simp [results, Try.results11, go_sem, h4, q0, q1, q2, q3, retR]) rfl h

set_option maxRecDepth 100000 in
set_option maxHeartbeats 8000000 in
theorem reval_1 (h : TmH) (A0 : Option Addr) (n0 c0 : Nat) (RA : Option Addr) (rn rc : Nat) (TA : Option Addr) (tn tc : Nat) (w : World) (hk : h.k = 1) : Calls Try.prog 11 #[h.agg A0 n0 c0, .slice RA rn rc, .slice TA tn tc] w (RetB w (retR (some h.v))) := by
  obtain ⟨k0, op0, no0, ⟨vk0, vi0, vs0⟩, of0, nm0, tb0, cl0⟩ := h
  simp only at hk
  subst hk
  simp only [TmH.agg] at *
  go_enter Try.func11, Try.ntmps11
  go_wp2_with fail
  exact bodyPost_ret (v := rV ⟨vk0, vi0, vs0⟩ false) (by simp [results, Try.results11, go_sem]) rfl ⟨rfl, by with_reducible repeat (first | exact Below.refl _ _ | exact hbw | refine ball ?_ _ | refine bset ?_ (by first | exact Nat.le_add_right _ _ | (simp; omega)) _ | refine bdr ?_ _ | refine Below.drew ?_)⟩

set_option maxRecDepth 100000 in
set_option maxHeartbeats 8000000 in
theorem reval_2 (h : TmH) (A0 : Option Addr) (n0 c0 : Nat) (RA : Option Addr) (rn rc : Nat) (TA : Option Addr) (tn tc : Nat) (w : World) (hk : h.k = 2) (q : Option Vl) (HC : ∀ W, Below w.heap.size w W → Calls Try.prog 22 #[.slice RA rn rc, .int .i64 h.tb, .int .i64 h.cl] W (RetB W (retR q))) : Calls Try.prog 11 #[h.agg A0 n0 c0, .slice RA rn rc, .slice TA tn tc] w (RetB w (retR q)) := by
  obtain ⟨k0, op0, no0, ⟨vk0, vi0, vs0⟩, of0, nm0, tb0, cl0⟩ := h
  simp only at hk
  subst hk
  simp only [TmH.agg] at *
  have HCC := Lib.hid HC
  clear HC
  have hb0 : Below w.heap.size w ((w.alloc (.cells #[.int .u8 2, .string op0, .bool no0, .int .u8 vk0, .int .i64 vi0, .string vs0, .string of0, .string nm0, .int .i64 tb0, .int .i64 cl0, .slice A0 n0 c0] 26)).alloc (.cells #[.int .u8 0, .int .i64 0, .string ⟨#[]⟩, .bool false] 36)) := ball (ball (Below.refl _ _) _) _
  go_enter Try.func11, Try.ntmps11
  go_wp2_with fail
  refine (HCC.out _ hb0).mono ?_
  rintro e w1 ⟨rfl, hb1⟩
  have hbw := bto0 hb0 hb1
  have hB : Blk w1 (w.heap.size + 1) 36 #[.int .u8 0, .int .i64 0, .string ⟨#[]⟩, .bool false] := blkUp hb1 (by with_reducible repeat (first | exact Blk.newAt (by simp) | refine Blk.alloc ?_ _ | refine Blk.drew ?_))
  have hB_0 : (w1).cell? ⟨w.heap.size + 1, 0, none⟩ = some (.int .u8 0) := hB.cell 0
  have hB_1 : (w1).cell? ⟨w.heap.size + 1, 1, none⟩ = some (.int .i64 0) := hB.cell 1
  have hB_2 : (w1).cell? ⟨w.heap.size + 1, 2, none⟩ = some (.string ⟨#[]⟩) := hB.cell 2
  have hB_3 : (w1).cell? ⟨w.heap.size + 1, 3, none⟩ = some (.bool false) := hB.cell 3
  have hz := hB.lt
  have f0 := hB.frozen 0
  have f1 := hB.frozen 1
  have f2 := hB.frozen 2
  have f3 := hB.frozen 3
  cases q with
  | none =>
    simp only [retR, rV, Option.getD, Option.isNone, zV]
    go_wp2_with fail
    exact reval_end (R := w.heap.size + 1) (o := none) (by (with_reducible repeat (first | refine Blk.alloc ?_ _ | refine Blk.drew ?_ | refine Blk.drewN ?_ _)); exact blk4 hB) (by simp) ⟨rfl, by with_reducible repeat (first | exact Below.refl _ _ | exact hbw | refine ball ?_ _ | refine bset ?_ (by first | exact Nat.le_add_right _ _ | exact Nat.le_refl _ | (simp; omega)) _ | refine bdr ?_ _ | refine Below.drew ?_)⟩
  | some u =>
    obtain ⟨uk, ui, us⟩ := u
    simp only [retR, rV, Option.getD, Option.isNone]
    go_wp2_with fail
    exact reval_end (R := w.heap.size + 1) (o := (some ⟨uk, ui, us⟩)) (by (with_reducible repeat (first | refine Blk.alloc ?_ _ | refine Blk.drew ?_ | refine Blk.drewN ?_ _)); exact blk4 hB) (by simp) ⟨rfl, by with_reducible repeat (first | exact Below.refl _ _ | exact hbw | refine ball ?_ _ | refine bset ?_ (by first | exact Nat.le_add_right _ _ | exact Nat.le_refl _ | (simp; omega)) _ | refine bdr ?_ _ | refine Below.drew ?_)⟩

set_option maxRecDepth 100000 in
set_option maxHeartbeats 8000000 in
theorem reval_7 (h : TmH) (A0 : Option Addr) (n0 c0 : Nat) (RA : Option Addr) (rn rc : Nat) (TA : Option Addr) (tn tc : Nat) (w : World) (hk : h.k = 7) (q : Option Vl) (HC : ∀ W g, Below w.heap.size w W → Blk W g 28 #[.slice TA tn tc] → Calls Try.prog 22 #[.slice (some ⟨g, 0, none⟩) 1 1, .int .i64 0, .int .i64 h.cl] W (RetB W (retR q))) : Calls Try.prog 11 #[h.agg A0 n0 c0, .slice RA rn rc, .slice TA tn tc] w (RetB w (retR q)) := by
  obtain ⟨k0, op0, no0, ⟨vk0, vi0, vs0⟩, of0, nm0, tb0, cl0⟩ := h
  simp only at hk
  subst hk
  simp only [TmH.agg] at *
  have HCC := Lib.hid HC
  clear HC
  have hb0 : Below w.heap.size w (((w.alloc (.cells #[.int .u8 7, .string op0, .bool no0, .int .u8 vk0, .int .i64 vi0, .string vs0, .string of0, .string nm0, .int .i64 tb0, .int .i64 cl0, .slice A0 n0 c0] 26)).alloc (.cells #[.int .u8 0, .int .i64 0, .string ⟨#[]⟩, .bool false] 36)).alloc (.cells #[.slice TA tn tc] 28)) := ball (ball (ball (Below.refl _ _) _) _) _
  go_enter Try.func11, Try.ntmps11
  go_wp2_with fail
  refine (HCC.out _ _ hb0 (Blk.newAt (by simp))).mono ?_
  rintro e w1 ⟨rfl, hb1⟩
  have hbw := bto0 hb0 hb1
  have hB : Blk w1 (w.heap.size + 1) 36 #[.int .u8 0, .int .i64 0, .string ⟨#[]⟩, .bool false] := blkUp hb1 (by with_reducible repeat (first | exact Blk.newAt (by simp) | refine Blk.alloc ?_ _ | refine Blk.drew ?_))
  have hB_0 : (w1).cell? ⟨w.heap.size + 1, 0, none⟩ = some (.int .u8 0) := hB.cell 0
  have hB_1 : (w1).cell? ⟨w.heap.size + 1, 1, none⟩ = some (.int .i64 0) := hB.cell 1
  have hB_2 : (w1).cell? ⟨w.heap.size + 1, 2, none⟩ = some (.string ⟨#[]⟩) := hB.cell 2
  have hB_3 : (w1).cell? ⟨w.heap.size + 1, 3, none⟩ = some (.bool false) := hB.cell 3
  have hz := hB.lt
  have f0 := hB.frozen 0
  have f1 := hB.frozen 1
  have f2 := hB.frozen 2
  have f3 := hB.frozen 3
  cases q with
  | none =>
    simp only [retR, rV, Option.getD, Option.isNone, zV]
    go_wp2_with fail
    exact reval_end (R := w.heap.size + 1) (o := none) (by (with_reducible repeat (first | refine Blk.alloc ?_ _ | refine Blk.drew ?_ | refine Blk.drewN ?_ _)); exact blk4 hB) (by simp) ⟨rfl, by with_reducible repeat (first | exact Below.refl _ _ | exact hbw | refine ball ?_ _ | refine bset ?_ (by first | exact Nat.le_add_right _ _ | exact Nat.le_refl _ | (simp; omega)) _ | refine bdr ?_ _ | refine Below.drew ?_)⟩
  | some u =>
    obtain ⟨uk, ui, us⟩ := u
    simp only [retR, rV, Option.getD, Option.isNone]
    go_wp2_with fail
    exact reval_end (R := w.heap.size + 1) (o := (some ⟨uk, ui, us⟩)) (by (with_reducible repeat (first | refine Blk.alloc ?_ _ | refine Blk.drew ?_ | refine Blk.drewN ?_ _)); exact blk4 hB) (by simp) ⟨rfl, by with_reducible repeat (first | exact Below.refl _ _ | exact hbw | refine ball ?_ _ | refine bset ?_ (by first | exact Nat.le_add_right _ _ | exact Nat.le_refl _ | (simp; omega)) _ | refine bdr ?_ _ | refine Below.drew ?_)⟩
end
end Go.Proofs.Ytilopgfpifhccaa
