/-
  Several texts in one: R7.
-/
import Derived.Test.YtilopgfpifhccaaMth
/-
  The program's connected.
-/
namespace Go.Proofs.Ytilopgfpifhccaa
section
set_option linter.unusedSimpArgs false
set_option linter.unusedVariables false
open Go.RowKit

set_option maxRecDepth 100000 in
set_option maxHeartbeats 8000000 in
theorem connNot_any (O : Nat) (a : Tm) (o : Option Vl) (h : TmH) (A0 : Option Addr) (n0 c0 : Nat) (w : World) (hrd : Reads w w.heap.size 11 A0 n0 (vT [a])) (ha : HVal w O a o) (hop : h.op.toList = wNot) :
    Calls Try.prog 52 #[.pointer (some ⟨O, 0, none⟩), h.agg A0 n0 c0] w (RetB w (.int .u8 (nt (truO o)))) := by
  have hn : n0 = 1 := by have := hrd.1; rw [vT_len] at this; simp at this; omega
  subst hn
  obtain ⟨k0, op0, no0, ⟨vk0, vi0, vs0⟩, of0, nm0, tb0, cl0⟩ := h
  simp only [wNot] at hop
  have e0 : (op0.toList == [78, 79, 84]) = true := by rw [hop]; decide
  have e1 : (op0.toList == [65, 78, 68]) = false := by rw [hop]; decide
  have e2 : (op0.toList == [79, 82]) = false := by rw [hop]; decide
  have e3 : (op0.toList == [61]) = false := by rw [hop]; decide
  have e4 : (op0.toList == [60, 62]) = false := by rw [hop]; decide
  have e5 : (op0.toList == [60]) = false := by rw [hop]; decide
  have e6 : (op0.toList == [60, 61]) = false := by rw [hop]; decide
  have e7 : (op0.toList == [62]) = false := by rw [hop]; decide
  have e8 : (op0.toList == [62, 61]) = false := by rw [hop]; decide
  have hb0 : Below w.heap.size w (w.alloc (.cells #[.int .u8 k0, .string op0, .bool no0, .int .u8 vk0, .int .i64 vi0, .string vs0, .string of0, .string nm0, .int .i64 tb0, .int .i64 cl0, .slice A0 1 c0] 26)) := ball (Below.refl _ _) _
  obtain ⟨ad, rfl, hab, hat⟩ := arg0 (hrd.below hb0)
  have HA := Lib.hid (truth18_any O a o _ (ha.up hb0))
  obtain ⟨⟨k1, op1, no1, ⟨vk1, vi1, vs1⟩, of1, nm1, tb1, cl1⟩, A1, n1, c1, l1⟩ := a
  obtain ⟨y0, y1, y2, y3, y4, y5, y6, y7, y8, y9, y10⟩ := hat
  simp only [Tm.agg, TmH.agg, Tm.h, Tm.A, Tm.n, Tm.c] at HA y0 y1 y2 y3 y4 y5 y6 y7 y8 y9 y10 ⊢
  clear ha hrd hop
  go_enter Try.func52, Try.ntmps52
  go_wp2_with fail
  refine HA.out.mono ?_
  rintro e w1 ⟨rfl, hb1⟩
  go_wp2_with (go_at_call 54; refine (not_any _ _).mono ?_; rintro e w' ⟨rfl, rfl⟩)
  go_ret
  exact ⟨rfl, bto0 hb0 hb1⟩

set_option maxRecDepth 100000 in
set_option maxHeartbeats 8000000 in
theorem connAnd_any (O : Nat) (ev : Tm → Option Vl) (l : List Tm) (h : TmH) (A0 : Option Addr) (n0 c0 : Nat) (w : World) (hrd : Reads w w.heap.size 11 A0 n0 (vT l)) (hn : n0 ≤ 1000) (hv : ∀ t ∈ l, HVal w O t (ev t)) (hop : h.op.toList = wAnd) :
    Calls Try.prog 52 #[.pointer (some ⟨O, 0, none⟩), h.agg A0 n0 c0] w (RetB w (.int .u8 (andL (l.map fun t => truO (ev t))))) := by
  have hl : l.length = n0 := by have := hrd.1; rw [vT_len] at this; omega
  obtain ⟨k0, op0, no0, ⟨vk0, vi0, vs0⟩, of0, nm0, tb0, cl0⟩ := h
  simp only [wAnd] at hop
  have e0 : (op0.toList == [78, 79, 84]) = false := by rw [hop]; decide
  have e1 : (op0.toList == [65, 78, 68]) = true := by rw [hop]; decide
  have e2 : (op0.toList == [79, 82]) = false := by rw [hop]; decide
  have e3 : (op0.toList == [61]) = false := by rw [hop]; decide
  have e4 : (op0.toList == [60, 62]) = false := by rw [hop]; decide
  have e5 : (op0.toList == [60]) = false := by rw [hop]; decide
  have e6 : (op0.toList == [60, 61]) = false := by rw [hop]; decide
  have e7 : (op0.toList == [62]) = false := by rw [hop]; decide
  have e8 : (op0.toList == [62, 61]) = false := by rw [hop]; decide
  have hb0 : Below w.heap.size w (w.alloc (.cells #[.int .u8 k0, .string op0, .bool no0, .int .u8 vk0, .int .i64 vi0, .string vs0, .string of0, .string nm0, .int .i64 tb0, .int .i64 cl0, .slice A0 n0 c0] 26)) := ball (Below.refl _ _) _
  have HT := Lib.hid (truths18_any O ev A0 n0 c0 l _ ((hrd.below hb0).more hb0.size) hn fun t ht => (hv t ht).up hb0)
  have hlm : (l.map fun t => truO (ev t)).length ≤ 1000 := by rw [List.length_map]; omega
  generalize (l.map fun t => truO (ev t)) = xs at *
  simp only [TmH.agg]
  clear hv hrd hop hl hn
  go_enter Try.func52, Try.ntmps52
  go_wp2_with fail
  refine HT.out.mono ?_
  rintro e w1 ⟨A1, c1, rfl, hr1, hb1⟩
  have HL := Lib.hid (and_any A1 xs.length c1 xs w1 w1.heap.size hr1 (by omega))
  clear hr1
  go_wp2_with fail
  refine HL.out.mono ?_
  rintro e w2 ⟨rfl, rfl⟩
  go_wp2_with fail
  go_ret
  exact ⟨rfl, bto0 hb0 hb1⟩

set_option maxRecDepth 100000 in
set_option maxHeartbeats 8000000 in
theorem connOr_any (O : Nat) (ev : Tm → Option Vl) (l : List Tm) (h : TmH) (A0 : Option Addr) (n0 c0 : Nat) (w : World) (hrd : Reads w w.heap.size 11 A0 n0 (vT l)) (hn : n0 ≤ 1000) (hv : ∀ t ∈ l, HVal w O t (ev t)) (hop : h.op.toList = wOr) :
    Calls Try.prog 52 #[.pointer (some ⟨O, 0, none⟩), h.agg A0 n0 c0] w (RetB w (.int .u8 (orL (l.map fun t => truO (ev t))))) := by
  have hl : l.length = n0 := by have := hrd.1; rw [vT_len] at this; omega
  obtain ⟨k0, op0, no0, ⟨vk0, vi0, vs0⟩, of0, nm0, tb0, cl0⟩ := h
  simp only [wOr] at hop
  have e0 : (op0.toList == [78, 79, 84]) = false := by rw [hop]; decide
  have e1 : (op0.toList == [65, 78, 68]) = false := by rw [hop]; decide
  have e2 : (op0.toList == [79, 82]) = true := by rw [hop]; decide
  have e3 : (op0.toList == [61]) = false := by rw [hop]; decide
  have e4 : (op0.toList == [60, 62]) = false := by rw [hop]; decide
  have e5 : (op0.toList == [60]) = false := by rw [hop]; decide
  have e6 : (op0.toList == [60, 61]) = false := by rw [hop]; decide
  have e7 : (op0.toList == [62]) = false := by rw [hop]; decide
  have e8 : (op0.toList == [62, 61]) = false := by rw [hop]; decide
  have hb0 : Below w.heap.size w (w.alloc (.cells #[.int .u8 k0, .string op0, .bool no0, .int .u8 vk0, .int .i64 vi0, .string vs0, .string of0, .string nm0, .int .i64 tb0, .int .i64 cl0, .slice A0 n0 c0] 26)) := ball (Below.refl _ _) _
  have HT := Lib.hid (truths18_any O ev A0 n0 c0 l _ ((hrd.below hb0).more hb0.size) hn fun t ht => (hv t ht).up hb0)
  have hlm : (l.map fun t => truO (ev t)).length ≤ 1000 := by rw [List.length_map]; omega
  generalize (l.map fun t => truO (ev t)) = xs at *
  simp only [TmH.agg]
  clear hv hrd hop hl hn
  go_enter Try.func52, Try.ntmps52
  go_wp2_with fail
  refine HT.out.mono ?_
  rintro e w1 ⟨A1, c1, rfl, hr1, hb1⟩
  have HL := Lib.hid (or_any A1 xs.length c1 xs w1 w1.heap.size hr1 (by omega))
  clear hr1
  go_wp2_with fail
  refine HL.out.mono ?_
  rintro e w2 ⟨rfl, rfl⟩
  go_wp2_with fail
  go_ret
  exact ⟨rfl, bto0 hb0 hb1⟩

set_option maxRecDepth 100000 in
set_option maxHeartbeats 16000000 in
theorem connCmp_any (O : Nat) (a b : Tm) (o p : Option Vl) (h : TmH) (A0 : Option Addr) (n0 c0 : Nat) (w : World) (hrd : Reads w w.heap.size 11 A0 n0 (vT [a, b])) (ha : HVal w O a o) (hb : HVal w O b p) (hop : isCmp h.op.toList) :
    Calls Try.prog 52 #[.pointer (some ⟨O, 0, none⟩), h.agg A0 n0 c0] w (RetB w (.int .u8 (cmpO h.op o p))) := by
  have hn : n0 = 2 := by have := hrd.1; rw [vT_len] at this; simp at this; omega
  subst hn
  obtain ⟨k0, op0, no0, ⟨vk0, vi0, vs0⟩, of0, nm0, tb0, cl0⟩ := h
  unfold isCmp at hop
  simp only at hop
  have HA := Lib.hid ha
  have hb0 : Below w.heap.size w (w.alloc (.cells #[.int .u8 k0, .string op0, .bool no0, .int .u8 vk0, .int .i64 vi0, .string vs0, .string of0, .string nm0, .int .i64 tb0, .int .i64 cl0, .slice A0 2 c0] 26)) := ball (Below.refl _ _) _
  obtain ⟨ad, rfl, hab, hat⟩ := arg0 (hrd.below hb0)
  have HRD := Lib.hid hrd
  have CM := Lib.hid fun (W : World) (hW : Below w.heap.size w W) => compared_any O op0 o b p W (hb.up hW)
  obtain ⟨y, hy⟩ : ∃ y, o.getD zV = y := ⟨_, rfl⟩
  obtain ⟨q, hq⟩ : ∃ q, o.isSome = q := ⟨_, rfl⟩
  obtain ⟨r, hr⟩ : ∃ r, cmpO op0 o p = r := ⟨_, rfl⟩
  unfold HVal retO at HA
  simp only [hy, hq, hr] at CM HA ⊢
  clear hy hq hr ha hrd hb
  obtain ⟨yk, yi, ys⟩ := y
  obtain ⟨⟨k1, op1, no1, ⟨vk1, vi1, vs1⟩, of1, nm1, tb1, cl1⟩, A1, n1, c1, l1⟩ := a
  obtain ⟨y0, y1, y2, y3, y4, y5, y6, y7, y8, y9, y10⟩ := hat
  simp only [Tm.agg, TmH.agg, Tm.h, Tm.A, Tm.n, Tm.c, Vl.agg] at HA CM y0 y1 y2 y3 y4 y5 y6 y7 y8 y9 y10 ⊢
  obtain ⟨⟨k2, op2, no2, ⟨vk2, vi2, vs2⟩, of2, nm2, tb2, cl2⟩, A2, n2, c2, l2⟩ := b
  simp only [Tm.agg, TmH.agg, Tm.h, Tm.A, Tm.n, Tm.c, Vl.agg] at CM
  rcases hop with hop | hop | hop | hop | hop | hop
  · have E := (⟨by rw [hop]; decide, by rw [hop]; decide, by rw [hop]; decide, by rw [hop]; decide, by rw [hop]; decide, by rw [hop]; decide, by rw [hop]; decide, by rw [hop]; decide, by rw [hop]; decide⟩ : (op0.toList == [78, 79, 84]) = false ∧ (op0.toList == [65, 78, 68]) = false ∧ (op0.toList == [79, 82]) = false ∧ (op0.toList == [61]) = true ∧ (op0.toList == [60, 62]) = false ∧ (op0.toList == [60]) = false ∧ (op0.toList == [60, 61]) = false ∧ (op0.toList == [62]) = false ∧ (op0.toList == [62, 61]) = false)
    obtain ⟨e0, e1, e2, e3, e4, e5, e6, e7, e8⟩ := E
    clear hop
    go_enter Try.func52, Try.ntmps52
    go_wp2_with fail
    refine (HA.out _ hb0).mono ?_
    rintro e w1 ⟨rfl, hb1⟩
    have hbw := bto0 hb0 hb1
    have hC : Blk w1 w.heap.size 26 #[.int .u8 k0, .string op0, .bool no0, .int .u8 vk0, .int .i64 vi0, .string vs0, .string of0, .string nm0, .int .i64 tb0, .int .i64 cl0, .slice (some ad) 2 c0] := blkOf hb1 (by simp) (Blk.new _ _ _)
    have hlt := hC.lt
    have hbv : Below w.heap.size w (w1.alloc (.cells #[.int .u8 yk, .int .i64 yi, .string ys] 23)) := ball hbw _
    have hat := arg1 (HRD.out.below hbv)
    obtain ⟨z0, z1, z2, z3, z4, z5, z6, z7, z8, z9, z10⟩ := hat
    simp only [Tm.h, Tm.A, Tm.n, Tm.c] at z0 z1 z2 z3 z4 z5 z6 z7 z8 z9 z10
    obtain ⟨W1, hW1⟩ : ∃ W1, w1.alloc (.cells #[.int .u8 yk, .int .i64 yi, .string ys] 23) = W1 := ⟨_, rfl⟩
    have hBV : Blk W1 w1.heap.size 23 #[.int .u8 yk, .int .i64 yi, .string ys] := by rw [← hW1]; exact Blk.new _ _ _
    have hCC : Blk W1 w.heap.size 26 #[.int .u8 k0, .string op0, .bool no0, .int .u8 vk0, .int .i64 vi0, .string vs0, .string of0, .string nm0, .int .i64 tb0, .int .i64 cl0, .slice (some ad) 2 c0] := by rw [← hW1]; exact Blk.alloc hC _
    rw [hW1] at hbv z0 z1 z2 z3 z4 z5 z6 z7 z8 z9 z10
    have hBV_0 : (W1).cell? ⟨w1.heap.size, 0, none⟩ = some (.int .u8 yk) := hBV.cell 0
    have hBV_1 : (W1).cell? ⟨w1.heap.size, 1, none⟩ = some (.int .i64 yi) := hBV.cell 1
    have hBV_2 : (W1).cell? ⟨w1.heap.size, 2, none⟩ = some (.string ys) := hBV.cell 2
    have hCC_0 : (W1).cell? ⟨w.heap.size, 0, none⟩ = some (.int .u8 k0) := hCC.cell 0
    have hCC_1 : (W1).cell? ⟨w.heap.size, 1, none⟩ = some (.string op0) := hCC.cell 1
    have hCC_2 : (W1).cell? ⟨w.heap.size, 2, none⟩ = some (.bool no0) := hCC.cell 2
    have hCC_3 : (W1).cell? ⟨w.heap.size, 3, none⟩ = some (.int .u8 vk0) := hCC.cell 3
    have hCC_4 : (W1).cell? ⟨w.heap.size, 4, none⟩ = some (.int .i64 vi0) := hCC.cell 4
    have hCC_5 : (W1).cell? ⟨w.heap.size, 5, none⟩ = some (.string vs0) := hCC.cell 5
    have hCC_6 : (W1).cell? ⟨w.heap.size, 6, none⟩ = some (.string of0) := hCC.cell 6
    have hCC_7 : (W1).cell? ⟨w.heap.size, 7, none⟩ = some (.string nm0) := hCC.cell 7
    have hCC_8 : (W1).cell? ⟨w.heap.size, 8, none⟩ = some (.int .i64 tb0) := hCC.cell 8
    have hCC_9 : (W1).cell? ⟨w.heap.size, 9, none⟩ = some (.int .i64 cl0) := hCC.cell 9
    have hCC_10 : (W1).cell? ⟨w.heap.size, 10, none⟩ = some (.slice (some ad) 2 c0) := hCC.cell 10
    have hS : Hid (∀ W, Below W1.heap.size W1 W → W.cell? ⟨w.heap.size, 1, none⟩ = some (.string op0) ∧ W.cell? ⟨w.heap.size, 10, none⟩ = some (.slice (some ad) 2 c0) ∧ W.cell? ⟨w1.heap.size, 0, none⟩ = some (.int .u8 yk) ∧ W.cell? ⟨w1.heap.size, 1, none⟩ = some (.int .i64 yi) ∧ W.cell? ⟨w1.heap.size, 2, none⟩ = some (.string ys) ∧ W.cell? ⟨ad.block, ad.off + 11, none⟩ = some (.int .u8 k2) ∧ W.cell? ⟨ad.block, ad.off + 11 + 1, none⟩ = some (.string op2) ∧ W.cell? ⟨ad.block, ad.off + 11 + 2, none⟩ = some (.bool no2) ∧ W.cell? ⟨ad.block, ad.off + 11 + 3, none⟩ = some (.int .u8 vk2) ∧ W.cell? ⟨ad.block, ad.off + 11 + 4, none⟩ = some (.int .i64 vi2) ∧ W.cell? ⟨ad.block, ad.off + 11 + 5, none⟩ = some (.string vs2) ∧ W.cell? ⟨ad.block, ad.off + 11 + 6, none⟩ = some (.string of2) ∧ W.cell? ⟨ad.block, ad.off + 11 + 7, none⟩ = some (.string nm2) ∧ W.cell? ⟨ad.block, ad.off + 11 + 8, none⟩ = some (.int .i64 tb2) ∧ W.cell? ⟨ad.block, ad.off + 11 + 9, none⟩ = some (.int .i64 cl2) ∧ W.cell? ⟨ad.block, ad.off + 11 + 10, none⟩ = some (.slice A2 n2 c2) ∧ Below W1.heap.size W1 W) := by
      refine Lib.hid fun W hW => ⟨(hW.cell ?_).trans hCC_1, (hW.cell ?_).trans hCC_10, (hW.cell ?_).trans hBV_0, (hW.cell ?_).trans hBV_1, (hW.cell ?_).trans hBV_2, (hW.cell ?_).trans z0, (hW.cell ?_).trans z1, (hW.cell ?_).trans z2, (hW.cell ?_).trans z3, (hW.cell ?_).trans z4, (hW.cell ?_).trans z5, (hW.cell ?_).trans z6, (hW.cell ?_).trans z7, (hW.cell ?_).trans z8, (hW.cell ?_).trans z9, (hW.cell ?_).trans z10, hW⟩
      all_goals (have h1 := hBV.lt; have h2 := hCC.lt; have h3 := hbv.size; (try simp only []); omega)
    go_wp2_with fail
    try rw [hW1]
    clear hW1
    go_region_held3 (fun W => W.cell? ⟨w.heap.size, 1, none⟩ = some (.string op0) ∧ W.cell? ⟨w.heap.size, 10, none⟩ = some (.slice (some ad) 2 c0) ∧ W.cell? ⟨w1.heap.size, 0, none⟩ = some (.int .u8 yk) ∧ W.cell? ⟨w1.heap.size, 1, none⟩ = some (.int .i64 yi) ∧ W.cell? ⟨w1.heap.size, 2, none⟩ = some (.string ys) ∧ W.cell? ⟨ad.block, ad.off + 11, none⟩ = some (.int .u8 k2) ∧ W.cell? ⟨ad.block, ad.off + 11 + 1, none⟩ = some (.string op2) ∧ W.cell? ⟨ad.block, ad.off + 11 + 2, none⟩ = some (.bool no2) ∧ W.cell? ⟨ad.block, ad.off + 11 + 3, none⟩ = some (.int .u8 vk2) ∧ W.cell? ⟨ad.block, ad.off + 11 + 4, none⟩ = some (.int .i64 vi2) ∧ W.cell? ⟨ad.block, ad.off + 11 + 5, none⟩ = some (.string vs2) ∧ W.cell? ⟨ad.block, ad.off + 11 + 6, none⟩ = some (.string of2) ∧ W.cell? ⟨ad.block, ad.off + 11 + 7, none⟩ = some (.string nm2) ∧ W.cell? ⟨ad.block, ad.off + 11 + 8, none⟩ = some (.int .i64 tb2) ∧ W.cell? ⟨ad.block, ad.off + 11 + 9, none⟩ = some (.int .i64 cl2) ∧ W.cell? ⟨ad.block, ad.off + 11 + 10, none⟩ = some (.slice A2 n2 c2) ∧ Below W1.heap.size W1 W)
      (first | exact hS.out _ (by (with_reducible repeat (first | exact Below.refl _ _ | assumption | refine bto0 ?_ (by assumption) | refine Below.drew ?_))) | assumption)
      (first | (go_at_call 65; (with_reducible refine (CM.out _ (bto0 hbv (by (with_reducible repeat (first | exact Below.refl _ _ | refine Below.drew ?_))))).mono ?_); rintro e w2 ⟨rfl, hb2⟩))
    go_wp2_with fail
    go_ret
    exact ⟨rfl, bto0 hbv (by (with_reducible repeat (first | exact Below.refl _ _ | exact hb2 | refine bto0 ?_ hb2 | refine bdr ?_ _ | refine Below.drew ?_)))⟩
  · have E := (⟨by rw [hop]; decide, by rw [hop]; decide, by rw [hop]; decide, by rw [hop]; decide, by rw [hop]; decide, by rw [hop]; decide, by rw [hop]; decide, by rw [hop]; decide, by rw [hop]; decide⟩ : (op0.toList == [78, 79, 84]) = false ∧ (op0.toList == [65, 78, 68]) = false ∧ (op0.toList == [79, 82]) = false ∧ (op0.toList == [61]) = false ∧ (op0.toList == [60, 62]) = true ∧ (op0.toList == [60]) = false ∧ (op0.toList == [60, 61]) = false ∧ (op0.toList == [62]) = false ∧ (op0.toList == [62, 61]) = false)
    obtain ⟨e0, e1, e2, e3, e4, e5, e6, e7, e8⟩ := E
    clear hop
    go_enter Try.func52, Try.ntmps52
    go_wp2_with fail
    refine (HA.out _ hb0).mono ?_
    rintro e w1 ⟨rfl, hb1⟩
    have hbw := bto0 hb0 hb1
    have hC : Blk w1 w.heap.size 26 #[.int .u8 k0, .string op0, .bool no0, .int .u8 vk0, .int .i64 vi0, .string vs0, .string of0, .string nm0, .int .i64 tb0, .int .i64 cl0, .slice (some ad) 2 c0] := blkOf hb1 (by simp) (Blk.new _ _ _)
    have hlt := hC.lt
    have hbv : Below w.heap.size w (w1.alloc (.cells #[.int .u8 yk, .int .i64 yi, .string ys] 23)) := ball hbw _
    have hat := arg1 (HRD.out.below hbv)
    obtain ⟨z0, z1, z2, z3, z4, z5, z6, z7, z8, z9, z10⟩ := hat
    simp only [Tm.h, Tm.A, Tm.n, Tm.c] at z0 z1 z2 z3 z4 z5 z6 z7 z8 z9 z10
    obtain ⟨W1, hW1⟩ : ∃ W1, w1.alloc (.cells #[.int .u8 yk, .int .i64 yi, .string ys] 23) = W1 := ⟨_, rfl⟩
    have hBV : Blk W1 w1.heap.size 23 #[.int .u8 yk, .int .i64 yi, .string ys] := by rw [← hW1]; exact Blk.new _ _ _
    have hCC : Blk W1 w.heap.size 26 #[.int .u8 k0, .string op0, .bool no0, .int .u8 vk0, .int .i64 vi0, .string vs0, .string of0, .string nm0, .int .i64 tb0, .int .i64 cl0, .slice (some ad) 2 c0] := by rw [← hW1]; exact Blk.alloc hC _
    rw [hW1] at hbv z0 z1 z2 z3 z4 z5 z6 z7 z8 z9 z10
    have hBV_0 : (W1).cell? ⟨w1.heap.size, 0, none⟩ = some (.int .u8 yk) := hBV.cell 0
    have hBV_1 : (W1).cell? ⟨w1.heap.size, 1, none⟩ = some (.int .i64 yi) := hBV.cell 1
    have hBV_2 : (W1).cell? ⟨w1.heap.size, 2, none⟩ = some (.string ys) := hBV.cell 2
    have hCC_0 : (W1).cell? ⟨w.heap.size, 0, none⟩ = some (.int .u8 k0) := hCC.cell 0
    have hCC_1 : (W1).cell? ⟨w.heap.size, 1, none⟩ = some (.string op0) := hCC.cell 1
    have hCC_2 : (W1).cell? ⟨w.heap.size, 2, none⟩ = some (.bool no0) := hCC.cell 2
    have hCC_3 : (W1).cell? ⟨w.heap.size, 3, none⟩ = some (.int .u8 vk0) := hCC.cell 3
    have hCC_4 : (W1).cell? ⟨w.heap.size, 4, none⟩ = some (.int .i64 vi0) := hCC.cell 4
    have hCC_5 : (W1).cell? ⟨w.heap.size, 5, none⟩ = some (.string vs0) := hCC.cell 5
    have hCC_6 : (W1).cell? ⟨w.heap.size, 6, none⟩ = some (.string of0) := hCC.cell 6
    have hCC_7 : (W1).cell? ⟨w.heap.size, 7, none⟩ = some (.string nm0) := hCC.cell 7
    have hCC_8 : (W1).cell? ⟨w.heap.size, 8, none⟩ = some (.int .i64 tb0) := hCC.cell 8
    have hCC_9 : (W1).cell? ⟨w.heap.size, 9, none⟩ = some (.int .i64 cl0) := hCC.cell 9
    have hCC_10 : (W1).cell? ⟨w.heap.size, 10, none⟩ = some (.slice (some ad) 2 c0) := hCC.cell 10
    have hS : Hid (∀ W, Below W1.heap.size W1 W → W.cell? ⟨w.heap.size, 1, none⟩ = some (.string op0) ∧ W.cell? ⟨w.heap.size, 10, none⟩ = some (.slice (some ad) 2 c0) ∧ W.cell? ⟨w1.heap.size, 0, none⟩ = some (.int .u8 yk) ∧ W.cell? ⟨w1.heap.size, 1, none⟩ = some (.int .i64 yi) ∧ W.cell? ⟨w1.heap.size, 2, none⟩ = some (.string ys) ∧ W.cell? ⟨ad.block, ad.off + 11, none⟩ = some (.int .u8 k2) ∧ W.cell? ⟨ad.block, ad.off + 11 + 1, none⟩ = some (.string op2) ∧ W.cell? ⟨ad.block, ad.off + 11 + 2, none⟩ = some (.bool no2) ∧ W.cell? ⟨ad.block, ad.off + 11 + 3, none⟩ = some (.int .u8 vk2) ∧ W.cell? ⟨ad.block, ad.off + 11 + 4, none⟩ = some (.int .i64 vi2) ∧ W.cell? ⟨ad.block, ad.off + 11 + 5, none⟩ = some (.string vs2) ∧ W.cell? ⟨ad.block, ad.off + 11 + 6, none⟩ = some (.string of2) ∧ W.cell? ⟨ad.block, ad.off + 11 + 7, none⟩ = some (.string nm2) ∧ W.cell? ⟨ad.block, ad.off + 11 + 8, none⟩ = some (.int .i64 tb2) ∧ W.cell? ⟨ad.block, ad.off + 11 + 9, none⟩ = some (.int .i64 cl2) ∧ W.cell? ⟨ad.block, ad.off + 11 + 10, none⟩ = some (.slice A2 n2 c2) ∧ Below W1.heap.size W1 W) := by
      refine Lib.hid fun W hW => ⟨(hW.cell ?_).trans hCC_1, (hW.cell ?_).trans hCC_10, (hW.cell ?_).trans hBV_0, (hW.cell ?_).trans hBV_1, (hW.cell ?_).trans hBV_2, (hW.cell ?_).trans z0, (hW.cell ?_).trans z1, (hW.cell ?_).trans z2, (hW.cell ?_).trans z3, (hW.cell ?_).trans z4, (hW.cell ?_).trans z5, (hW.cell ?_).trans z6, (hW.cell ?_).trans z7, (hW.cell ?_).trans z8, (hW.cell ?_).trans z9, (hW.cell ?_).trans z10, hW⟩
      all_goals (have h1 := hBV.lt; have h2 := hCC.lt; have h3 := hbv.size; (try simp only []); omega)
    go_wp2_with fail
    try rw [hW1]
    clear hW1
    go_region_held3 (fun W => W.cell? ⟨w.heap.size, 1, none⟩ = some (.string op0) ∧ W.cell? ⟨w.heap.size, 10, none⟩ = some (.slice (some ad) 2 c0) ∧ W.cell? ⟨w1.heap.size, 0, none⟩ = some (.int .u8 yk) ∧ W.cell? ⟨w1.heap.size, 1, none⟩ = some (.int .i64 yi) ∧ W.cell? ⟨w1.heap.size, 2, none⟩ = some (.string ys) ∧ W.cell? ⟨ad.block, ad.off + 11, none⟩ = some (.int .u8 k2) ∧ W.cell? ⟨ad.block, ad.off + 11 + 1, none⟩ = some (.string op2) ∧ W.cell? ⟨ad.block, ad.off + 11 + 2, none⟩ = some (.bool no2) ∧ W.cell? ⟨ad.block, ad.off + 11 + 3, none⟩ = some (.int .u8 vk2) ∧ W.cell? ⟨ad.block, ad.off + 11 + 4, none⟩ = some (.int .i64 vi2) ∧ W.cell? ⟨ad.block, ad.off + 11 + 5, none⟩ = some (.string vs2) ∧ W.cell? ⟨ad.block, ad.off + 11 + 6, none⟩ = some (.string of2) ∧ W.cell? ⟨ad.block, ad.off + 11 + 7, none⟩ = some (.string nm2) ∧ W.cell? ⟨ad.block, ad.off + 11 + 8, none⟩ = some (.int .i64 tb2) ∧ W.cell? ⟨ad.block, ad.off + 11 + 9, none⟩ = some (.int .i64 cl2) ∧ W.cell? ⟨ad.block, ad.off + 11 + 10, none⟩ = some (.slice A2 n2 c2) ∧ Below W1.heap.size W1 W)
      (first | exact hS.out _ (by (with_reducible repeat (first | exact Below.refl _ _ | assumption | refine bto0 ?_ (by assumption) | refine Below.drew ?_))) | assumption)
      (first | (go_at_call 65; (with_reducible refine (CM.out _ (bto0 hbv (by (with_reducible repeat (first | exact Below.refl _ _ | refine Below.drew ?_))))).mono ?_); rintro e w2 ⟨rfl, hb2⟩))
    go_wp2_with fail
    go_ret
    exact ⟨rfl, bto0 hbv (by (with_reducible repeat (first | exact Below.refl _ _ | exact hb2 | refine bto0 ?_ hb2 | refine bdr ?_ _ | refine Below.drew ?_)))⟩
  · have E := (⟨by rw [hop]; decide, by rw [hop]; decide, by rw [hop]; decide, by rw [hop]; decide, by rw [hop]; decide, by rw [hop]; decide, by rw [hop]; decide, by rw [hop]; decide, by rw [hop]; decide⟩ : (op0.toList == [78, 79, 84]) = false ∧ (op0.toList == [65, 78, 68]) = false ∧ (op0.toList == [79, 82]) = false ∧ (op0.toList == [61]) = false ∧ (op0.toList == [60, 62]) = false ∧ (op0.toList == [60]) = true ∧ (op0.toList == [60, 61]) = false ∧ (op0.toList == [62]) = false ∧ (op0.toList == [62, 61]) = false)
    obtain ⟨e0, e1, e2, e3, e4, e5, e6, e7, e8⟩ := E
    clear hop
    go_enter Try.func52, Try.ntmps52
    go_wp2_with fail
    refine (HA.out _ hb0).mono ?_
    rintro e w1 ⟨rfl, hb1⟩
    have hbw := bto0 hb0 hb1
    have hC : Blk w1 w.heap.size 26 #[.int .u8 k0, .string op0, .bool no0, .int .u8 vk0, .int .i64 vi0, .string vs0, .string of0, .string nm0, .int .i64 tb0, .int .i64 cl0, .slice (some ad) 2 c0] := blkOf hb1 (by simp) (Blk.new _ _ _)
    have hlt := hC.lt
    have hbv : Below w.heap.size w (w1.alloc (.cells #[.int .u8 yk, .int .i64 yi, .string ys] 23)) := ball hbw _
    have hat := arg1 (HRD.out.below hbv)
    obtain ⟨z0, z1, z2, z3, z4, z5, z6, z7, z8, z9, z10⟩ := hat
    simp only [Tm.h, Tm.A, Tm.n, Tm.c] at z0 z1 z2 z3 z4 z5 z6 z7 z8 z9 z10
    obtain ⟨W1, hW1⟩ : ∃ W1, w1.alloc (.cells #[.int .u8 yk, .int .i64 yi, .string ys] 23) = W1 := ⟨_, rfl⟩
    have hBV : Blk W1 w1.heap.size 23 #[.int .u8 yk, .int .i64 yi, .string ys] := by rw [← hW1]; exact Blk.new _ _ _
    have hCC : Blk W1 w.heap.size 26 #[.int .u8 k0, .string op0, .bool no0, .int .u8 vk0, .int .i64 vi0, .string vs0, .string of0, .string nm0, .int .i64 tb0, .int .i64 cl0, .slice (some ad) 2 c0] := by rw [← hW1]; exact Blk.alloc hC _
    rw [hW1] at hbv z0 z1 z2 z3 z4 z5 z6 z7 z8 z9 z10
    have hBV_0 : (W1).cell? ⟨w1.heap.size, 0, none⟩ = some (.int .u8 yk) := hBV.cell 0
    have hBV_1 : (W1).cell? ⟨w1.heap.size, 1, none⟩ = some (.int .i64 yi) := hBV.cell 1
    have hBV_2 : (W1).cell? ⟨w1.heap.size, 2, none⟩ = some (.string ys) := hBV.cell 2
    have hCC_0 : (W1).cell? ⟨w.heap.size, 0, none⟩ = some (.int .u8 k0) := hCC.cell 0
    have hCC_1 : (W1).cell? ⟨w.heap.size, 1, none⟩ = some (.string op0) := hCC.cell 1
    have hCC_2 : (W1).cell? ⟨w.heap.size, 2, none⟩ = some (.bool no0) := hCC.cell 2
    have hCC_3 : (W1).cell? ⟨w.heap.size, 3, none⟩ = some (.int .u8 vk0) := hCC.cell 3
    have hCC_4 : (W1).cell? ⟨w.heap.size, 4, none⟩ = some (.int .i64 vi0) := hCC.cell 4
    have hCC_5 : (W1).cell? ⟨w.heap.size, 5, none⟩ = some (.string vs0) := hCC.cell 5
    have hCC_6 : (W1).cell? ⟨w.heap.size, 6, none⟩ = some (.string of0) := hCC.cell 6
    have hCC_7 : (W1).cell? ⟨w.heap.size, 7, none⟩ = some (.string nm0) := hCC.cell 7
    have hCC_8 : (W1).cell? ⟨w.heap.size, 8, none⟩ = some (.int .i64 tb0) := hCC.cell 8
    have hCC_9 : (W1).cell? ⟨w.heap.size, 9, none⟩ = some (.int .i64 cl0) := hCC.cell 9
    have hCC_10 : (W1).cell? ⟨w.heap.size, 10, none⟩ = some (.slice (some ad) 2 c0) := hCC.cell 10
    have hS : Hid (∀ W, Below W1.heap.size W1 W → W.cell? ⟨w.heap.size, 1, none⟩ = some (.string op0) ∧ W.cell? ⟨w.heap.size, 10, none⟩ = some (.slice (some ad) 2 c0) ∧ W.cell? ⟨w1.heap.size, 0, none⟩ = some (.int .u8 yk) ∧ W.cell? ⟨w1.heap.size, 1, none⟩ = some (.int .i64 yi) ∧ W.cell? ⟨w1.heap.size, 2, none⟩ = some (.string ys) ∧ W.cell? ⟨ad.block, ad.off + 11, none⟩ = some (.int .u8 k2) ∧ W.cell? ⟨ad.block, ad.off + 11 + 1, none⟩ = some (.string op2) ∧ W.cell? ⟨ad.block, ad.off + 11 + 2, none⟩ = some (.bool no2) ∧ W.cell? ⟨ad.block, ad.off + 11 + 3, none⟩ = some (.int .u8 vk2) ∧ W.cell? ⟨ad.block, ad.off + 11 + 4, none⟩ = some (.int .i64 vi2) ∧ W.cell? ⟨ad.block, ad.off + 11 + 5, none⟩ = some (.string vs2) ∧ W.cell? ⟨ad.block, ad.off + 11 + 6, none⟩ = some (.string of2) ∧ W.cell? ⟨ad.block, ad.off + 11 + 7, none⟩ = some (.string nm2) ∧ W.cell? ⟨ad.block, ad.off + 11 + 8, none⟩ = some (.int .i64 tb2) ∧ W.cell? ⟨ad.block, ad.off + 11 + 9, none⟩ = some (.int .i64 cl2) ∧ W.cell? ⟨ad.block, ad.off + 11 + 10, none⟩ = some (.slice A2 n2 c2) ∧ Below W1.heap.size W1 W) := by
      refine Lib.hid fun W hW => ⟨(hW.cell ?_).trans hCC_1, (hW.cell ?_).trans hCC_10, (hW.cell ?_).trans hBV_0, (hW.cell ?_).trans hBV_1, (hW.cell ?_).trans hBV_2, (hW.cell ?_).trans z0, (hW.cell ?_).trans z1, (hW.cell ?_).trans z2, (hW.cell ?_).trans z3, (hW.cell ?_).trans z4, (hW.cell ?_).trans z5, (hW.cell ?_).trans z6, (hW.cell ?_).trans z7, (hW.cell ?_).trans z8, (hW.cell ?_).trans z9, (hW.cell ?_).trans z10, hW⟩
      all_goals (have h1 := hBV.lt; have h2 := hCC.lt; have h3 := hbv.size; (try simp only []); omega)
    go_wp2_with fail
    try rw [hW1]
    clear hW1
    go_region_held3 (fun W => W.cell? ⟨w.heap.size, 1, none⟩ = some (.string op0) ∧ W.cell? ⟨w.heap.size, 10, none⟩ = some (.slice (some ad) 2 c0) ∧ W.cell? ⟨w1.heap.size, 0, none⟩ = some (.int .u8 yk) ∧ W.cell? ⟨w1.heap.size, 1, none⟩ = some (.int .i64 yi) ∧ W.cell? ⟨w1.heap.size, 2, none⟩ = some (.string ys) ∧ W.cell? ⟨ad.block, ad.off + 11, none⟩ = some (.int .u8 k2) ∧ W.cell? ⟨ad.block, ad.off + 11 + 1, none⟩ = some (.string op2) ∧ W.cell? ⟨ad.block, ad.off + 11 + 2, none⟩ = some (.bool no2) ∧ W.cell? ⟨ad.block, ad.off + 11 + 3, none⟩ = some (.int .u8 vk2) ∧ W.cell? ⟨ad.block, ad.off + 11 + 4, none⟩ = some (.int .i64 vi2) ∧ W.cell? ⟨ad.block, ad.off + 11 + 5, none⟩ = some (.string vs2) ∧ W.cell? ⟨ad.block, ad.off + 11 + 6, none⟩ = some (.string of2) ∧ W.cell? ⟨ad.block, ad.off + 11 + 7, none⟩ = some (.string nm2) ∧ W.cell? ⟨ad.block, ad.off + 11 + 8, none⟩ = some (.int .i64 tb2) ∧ W.cell? ⟨ad.block, ad.off + 11 + 9, none⟩ = some (.int .i64 cl2) ∧ W.cell? ⟨ad.block, ad.off + 11 + 10, none⟩ = some (.slice A2 n2 c2) ∧ Below W1.heap.size W1 W)
      (first | exact hS.out _ (by (with_reducible repeat (first | exact Below.refl _ _ | assumption | refine bto0 ?_ (by assumption) | refine Below.drew ?_))) | assumption)
      (first | (go_at_call 65; (with_reducible refine (CM.out _ (bto0 hbv (by (with_reducible repeat (first | exact Below.refl _ _ | refine Below.drew ?_))))).mono ?_); rintro e w2 ⟨rfl, hb2⟩))
    go_wp2_with fail
    go_ret
    exact ⟨rfl, bto0 hbv (by (with_reducible repeat (first | exact Below.refl _ _ | exact hb2 | refine bto0 ?_ hb2 | refine bdr ?_ _ | refine Below.drew ?_)))⟩
  · have E := (⟨by rw [hop]; decide, by rw [hop]; decide, by rw [hop]; decide, by rw [hop]; decide, by rw [hop]; decide, by rw [hop]; decide, by rw [hop]; decide, by rw [hop]; decide, by rw [hop]; decide⟩ : (op0.toList == [78, 79, 84]) = false ∧ (op0.toList == [65, 78, 68]) = false ∧ (op0.toList == [79, 82]) = false ∧ (op0.toList == [61]) = false ∧ (op0.toList == [60, 62]) = false ∧ (op0.toList == [60]) = false ∧ (op0.toList == [60, 61]) = true ∧ (op0.toList == [62]) = false ∧ (op0.toList == [62, 61]) = false)
    obtain ⟨e0, e1, e2, e3, e4, e5, e6, e7, e8⟩ := E
    clear hop
    go_enter Try.func52, Try.ntmps52
    go_wp2_with fail
    refine (HA.out _ hb0).mono ?_
    rintro e w1 ⟨rfl, hb1⟩
    have hbw := bto0 hb0 hb1
    have hC : Blk w1 w.heap.size 26 #[.int .u8 k0, .string op0, .bool no0, .int .u8 vk0, .int .i64 vi0, .string vs0, .string of0, .string nm0, .int .i64 tb0, .int .i64 cl0, .slice (some ad) 2 c0] := blkOf hb1 (by simp) (Blk.new _ _ _)
    have hlt := hC.lt
    have hbv : Below w.heap.size w (w1.alloc (.cells #[.int .u8 yk, .int .i64 yi, .string ys] 23)) := ball hbw _
    have hat := arg1 (HRD.out.below hbv)
    obtain ⟨z0, z1, z2, z3, z4, z5, z6, z7, z8, z9, z10⟩ := hat
    simp only [Tm.h, Tm.A, Tm.n, Tm.c] at z0 z1 z2 z3 z4 z5 z6 z7 z8 z9 z10
    obtain ⟨W1, hW1⟩ : ∃ W1, w1.alloc (.cells #[.int .u8 yk, .int .i64 yi, .string ys] 23) = W1 := ⟨_, rfl⟩
    have hBV : Blk W1 w1.heap.size 23 #[.int .u8 yk, .int .i64 yi, .string ys] := by rw [← hW1]; exact Blk.new _ _ _
    have hCC : Blk W1 w.heap.size 26 #[.int .u8 k0, .string op0, .bool no0, .int .u8 vk0, .int .i64 vi0, .string vs0, .string of0, .string nm0, .int .i64 tb0, .int .i64 cl0, .slice (some ad) 2 c0] := by rw [← hW1]; exact Blk.alloc hC _
    rw [hW1] at hbv z0 z1 z2 z3 z4 z5 z6 z7 z8 z9 z10
    have hBV_0 : (W1).cell? ⟨w1.heap.size, 0, none⟩ = some (.int .u8 yk) := hBV.cell 0
    have hBV_1 : (W1).cell? ⟨w1.heap.size, 1, none⟩ = some (.int .i64 yi) := hBV.cell 1
    have hBV_2 : (W1).cell? ⟨w1.heap.size, 2, none⟩ = some (.string ys) := hBV.cell 2
    have hCC_0 : (W1).cell? ⟨w.heap.size, 0, none⟩ = some (.int .u8 k0) := hCC.cell 0
    have hCC_1 : (W1).cell? ⟨w.heap.size, 1, none⟩ = some (.string op0) := hCC.cell 1
    have hCC_2 : (W1).cell? ⟨w.heap.size, 2, none⟩ = some (.bool no0) := hCC.cell 2
    have hCC_3 : (W1).cell? ⟨w.heap.size, 3, none⟩ = some (.int .u8 vk0) := hCC.cell 3
    have hCC_4 : (W1).cell? ⟨w.heap.size, 4, none⟩ = some (.int .i64 vi0) := hCC.cell 4
    have hCC_5 : (W1).cell? ⟨w.heap.size, 5, none⟩ = some (.string vs0) := hCC.cell 5
    have hCC_6 : (W1).cell? ⟨w.heap.size, 6, none⟩ = some (.string of0) := hCC.cell 6
    have hCC_7 : (W1).cell? ⟨w.heap.size, 7, none⟩ = some (.string nm0) := hCC.cell 7
    have hCC_8 : (W1).cell? ⟨w.heap.size, 8, none⟩ = some (.int .i64 tb0) := hCC.cell 8
    have hCC_9 : (W1).cell? ⟨w.heap.size, 9, none⟩ = some (.int .i64 cl0) := hCC.cell 9
    have hCC_10 : (W1).cell? ⟨w.heap.size, 10, none⟩ = some (.slice (some ad) 2 c0) := hCC.cell 10
    have hS : Hid (∀ W, Below W1.heap.size W1 W → W.cell? ⟨w.heap.size, 1, none⟩ = some (.string op0) ∧ W.cell? ⟨w.heap.size, 10, none⟩ = some (.slice (some ad) 2 c0) ∧ W.cell? ⟨w1.heap.size, 0, none⟩ = some (.int .u8 yk) ∧ W.cell? ⟨w1.heap.size, 1, none⟩ = some (.int .i64 yi) ∧ W.cell? ⟨w1.heap.size, 2, none⟩ = some (.string ys) ∧ W.cell? ⟨ad.block, ad.off + 11, none⟩ = some (.int .u8 k2) ∧ W.cell? ⟨ad.block, ad.off + 11 + 1, none⟩ = some (.string op2) ∧ W.cell? ⟨ad.block, ad.off + 11 + 2, none⟩ = some (.bool no2) ∧ W.cell? ⟨ad.block, ad.off + 11 + 3, none⟩ = some (.int .u8 vk2) ∧ W.cell? ⟨ad.block, ad.off + 11 + 4, none⟩ = some (.int .i64 vi2) ∧ W.cell? ⟨ad.block, ad.off + 11 + 5, none⟩ = some (.string vs2) ∧ W.cell? ⟨ad.block, ad.off + 11 + 6, none⟩ = some (.string of2) ∧ W.cell? ⟨ad.block, ad.off + 11 + 7, none⟩ = some (.string nm2) ∧ W.cell? ⟨ad.block, ad.off + 11 + 8, none⟩ = some (.int .i64 tb2) ∧ W.cell? ⟨ad.block, ad.off + 11 + 9, none⟩ = some (.int .i64 cl2) ∧ W.cell? ⟨ad.block, ad.off + 11 + 10, none⟩ = some (.slice A2 n2 c2) ∧ Below W1.heap.size W1 W) := by
      refine Lib.hid fun W hW => ⟨(hW.cell ?_).trans hCC_1, (hW.cell ?_).trans hCC_10, (hW.cell ?_).trans hBV_0, (hW.cell ?_).trans hBV_1, (hW.cell ?_).trans hBV_2, (hW.cell ?_).trans z0, (hW.cell ?_).trans z1, (hW.cell ?_).trans z2, (hW.cell ?_).trans z3, (hW.cell ?_).trans z4, (hW.cell ?_).trans z5, (hW.cell ?_).trans z6, (hW.cell ?_).trans z7, (hW.cell ?_).trans z8, (hW.cell ?_).trans z9, (hW.cell ?_).trans z10, hW⟩
      all_goals (have h1 := hBV.lt; have h2 := hCC.lt; have h3 := hbv.size; (try simp only []); omega)
    go_wp2_with fail
    try rw [hW1]
    clear hW1
    go_region_held3 (fun W => W.cell? ⟨w.heap.size, 1, none⟩ = some (.string op0) ∧ W.cell? ⟨w.heap.size, 10, none⟩ = some (.slice (some ad) 2 c0) ∧ W.cell? ⟨w1.heap.size, 0, none⟩ = some (.int .u8 yk) ∧ W.cell? ⟨w1.heap.size, 1, none⟩ = some (.int .i64 yi) ∧ W.cell? ⟨w1.heap.size, 2, none⟩ = some (.string ys) ∧ W.cell? ⟨ad.block, ad.off + 11, none⟩ = some (.int .u8 k2) ∧ W.cell? ⟨ad.block, ad.off + 11 + 1, none⟩ = some (.string op2) ∧ W.cell? ⟨ad.block, ad.off + 11 + 2, none⟩ = some (.bool no2) ∧ W.cell? ⟨ad.block, ad.off + 11 + 3, none⟩ = some (.int .u8 vk2) ∧ W.cell? ⟨ad.block, ad.off + 11 + 4, none⟩ = some (.int .i64 vi2) ∧ W.cell? ⟨ad.block, ad.off + 11 + 5, none⟩ = some (.string vs2) ∧ W.cell? ⟨ad.block, ad.off + 11 + 6, none⟩ = some (.string of2) ∧ W.cell? ⟨ad.block, ad.off + 11 + 7, none⟩ = some (.string nm2) ∧ W.cell? ⟨ad.block, ad.off + 11 + 8, none⟩ = some (.int .i64 tb2) ∧ W.cell? ⟨ad.block, ad.off + 11 + 9, none⟩ = some (.int .i64 cl2) ∧ W.cell? ⟨ad.block, ad.off + 11 + 10, none⟩ = some (.slice A2 n2 c2) ∧ Below W1.heap.size W1 W)
      (first | exact hS.out _ (by (with_reducible repeat (first | exact Below.refl _ _ | assumption | refine bto0 ?_ (by assumption) | refine Below.drew ?_))) | assumption)
      (first | (go_at_call 65; (with_reducible refine (CM.out _ (bto0 hbv (by (with_reducible repeat (first | exact Below.refl _ _ | refine Below.drew ?_))))).mono ?_); rintro e w2 ⟨rfl, hb2⟩))
    go_wp2_with fail
    go_ret
    exact ⟨rfl, bto0 hbv (by (with_reducible repeat (first | exact Below.refl _ _ | exact hb2 | refine bto0 ?_ hb2 | refine bdr ?_ _ | refine Below.drew ?_)))⟩
  · have E := (⟨by rw [hop]; decide, by rw [hop]; decide, by rw [hop]; decide, by rw [hop]; decide, by rw [hop]; decide, by rw [hop]; decide, by rw [hop]; decide, by rw [hop]; decide, by rw [hop]; decide⟩ : (op0.toList == [78, 79, 84]) = false ∧ (op0.toList == [65, 78, 68]) = false ∧ (op0.toList == [79, 82]) = false ∧ (op0.toList == [61]) = false ∧ (op0.toList == [60, 62]) = false ∧ (op0.toList == [60]) = false ∧ (op0.toList == [60, 61]) = false ∧ (op0.toList == [62]) = true ∧ (op0.toList == [62, 61]) = false)
    obtain ⟨e0, e1, e2, e3, e4, e5, e6, e7, e8⟩ := E
    clear hop
    go_enter Try.func52, Try.ntmps52
    go_wp2_with fail
    refine (HA.out _ hb0).mono ?_
    rintro e w1 ⟨rfl, hb1⟩
    have hbw := bto0 hb0 hb1
    have hC : Blk w1 w.heap.size 26 #[.int .u8 k0, .string op0, .bool no0, .int .u8 vk0, .int .i64 vi0, .string vs0, .string of0, .string nm0, .int .i64 tb0, .int .i64 cl0, .slice (some ad) 2 c0] := blkOf hb1 (by simp) (Blk.new _ _ _)
    have hlt := hC.lt
    have hbv : Below w.heap.size w (w1.alloc (.cells #[.int .u8 yk, .int .i64 yi, .string ys] 23)) := ball hbw _
    have hat := arg1 (HRD.out.below hbv)
    obtain ⟨z0, z1, z2, z3, z4, z5, z6, z7, z8, z9, z10⟩ := hat
    simp only [Tm.h, Tm.A, Tm.n, Tm.c] at z0 z1 z2 z3 z4 z5 z6 z7 z8 z9 z10
    obtain ⟨W1, hW1⟩ : ∃ W1, w1.alloc (.cells #[.int .u8 yk, .int .i64 yi, .string ys] 23) = W1 := ⟨_, rfl⟩
    have hBV : Blk W1 w1.heap.size 23 #[.int .u8 yk, .int .i64 yi, .string ys] := by rw [← hW1]; exact Blk.new _ _ _
    have hCC : Blk W1 w.heap.size 26 #[.int .u8 k0, .string op0, .bool no0, .int .u8 vk0, .int .i64 vi0, .string vs0, .string of0, .string nm0, .int .i64 tb0, .int .i64 cl0, .slice (some ad) 2 c0] := by rw [← hW1]; exact Blk.alloc hC _
    rw [hW1] at hbv z0 z1 z2 z3 z4 z5 z6 z7 z8 z9 z10
    have hBV_0 : (W1).cell? ⟨w1.heap.size, 0, none⟩ = some (.int .u8 yk) := hBV.cell 0
    have hBV_1 : (W1).cell? ⟨w1.heap.size, 1, none⟩ = some (.int .i64 yi) := hBV.cell 1
    have hBV_2 : (W1).cell? ⟨w1.heap.size, 2, none⟩ = some (.string ys) := hBV.cell 2
    have hCC_0 : (W1).cell? ⟨w.heap.size, 0, none⟩ = some (.int .u8 k0) := hCC.cell 0
    have hCC_1 : (W1).cell? ⟨w.heap.size, 1, none⟩ = some (.string op0) := hCC.cell 1
    have hCC_2 : (W1).cell? ⟨w.heap.size, 2, none⟩ = some (.bool no0) := hCC.cell 2
    have hCC_3 : (W1).cell? ⟨w.heap.size, 3, none⟩ = some (.int .u8 vk0) := hCC.cell 3
    have hCC_4 : (W1).cell? ⟨w.heap.size, 4, none⟩ = some (.int .i64 vi0) := hCC.cell 4
    have hCC_5 : (W1).cell? ⟨w.heap.size, 5, none⟩ = some (.string vs0) := hCC.cell 5
    have hCC_6 : (W1).cell? ⟨w.heap.size, 6, none⟩ = some (.string of0) := hCC.cell 6
    have hCC_7 : (W1).cell? ⟨w.heap.size, 7, none⟩ = some (.string nm0) := hCC.cell 7
    have hCC_8 : (W1).cell? ⟨w.heap.size, 8, none⟩ = some (.int .i64 tb0) := hCC.cell 8
    have hCC_9 : (W1).cell? ⟨w.heap.size, 9, none⟩ = some (.int .i64 cl0) := hCC.cell 9
    have hCC_10 : (W1).cell? ⟨w.heap.size, 10, none⟩ = some (.slice (some ad) 2 c0) := hCC.cell 10
    have hS : Hid (∀ W, Below W1.heap.size W1 W → W.cell? ⟨w.heap.size, 1, none⟩ = some (.string op0) ∧ W.cell? ⟨w.heap.size, 10, none⟩ = some (.slice (some ad) 2 c0) ∧ W.cell? ⟨w1.heap.size, 0, none⟩ = some (.int .u8 yk) ∧ W.cell? ⟨w1.heap.size, 1, none⟩ = some (.int .i64 yi) ∧ W.cell? ⟨w1.heap.size, 2, none⟩ = some (.string ys) ∧ W.cell? ⟨ad.block, ad.off + 11, none⟩ = some (.int .u8 k2) ∧ W.cell? ⟨ad.block, ad.off + 11 + 1, none⟩ = some (.string op2) ∧ W.cell? ⟨ad.block, ad.off + 11 + 2, none⟩ = some (.bool no2) ∧ W.cell? ⟨ad.block, ad.off + 11 + 3, none⟩ = some (.int .u8 vk2) ∧ W.cell? ⟨ad.block, ad.off + 11 + 4, none⟩ = some (.int .i64 vi2) ∧ W.cell? ⟨ad.block, ad.off + 11 + 5, none⟩ = some (.string vs2) ∧ W.cell? ⟨ad.block, ad.off + 11 + 6, none⟩ = some (.string of2) ∧ W.cell? ⟨ad.block, ad.off + 11 + 7, none⟩ = some (.string nm2) ∧ W.cell? ⟨ad.block, ad.off + 11 + 8, none⟩ = some (.int .i64 tb2) ∧ W.cell? ⟨ad.block, ad.off + 11 + 9, none⟩ = some (.int .i64 cl2) ∧ W.cell? ⟨ad.block, ad.off + 11 + 10, none⟩ = some (.slice A2 n2 c2) ∧ Below W1.heap.size W1 W) := by
      refine Lib.hid fun W hW => ⟨(hW.cell ?_).trans hCC_1, (hW.cell ?_).trans hCC_10, (hW.cell ?_).trans hBV_0, (hW.cell ?_).trans hBV_1, (hW.cell ?_).trans hBV_2, (hW.cell ?_).trans z0, (hW.cell ?_).trans z1, (hW.cell ?_).trans z2, (hW.cell ?_).trans z3, (hW.cell ?_).trans z4, (hW.cell ?_).trans z5, (hW.cell ?_).trans z6, (hW.cell ?_).trans z7, (hW.cell ?_).trans z8, (hW.cell ?_).trans z9, (hW.cell ?_).trans z10, hW⟩
      all_goals (have h1 := hBV.lt; have h2 := hCC.lt; have h3 := hbv.size; (try simp only []); omega)
    go_wp2_with fail
    try rw [hW1]
    clear hW1
    go_region_held3 (fun W => W.cell? ⟨w.heap.size, 1, none⟩ = some (.string op0) ∧ W.cell? ⟨w.heap.size, 10, none⟩ = some (.slice (some ad) 2 c0) ∧ W.cell? ⟨w1.heap.size, 0, none⟩ = some (.int .u8 yk) ∧ W.cell? ⟨w1.heap.size, 1, none⟩ = some (.int .i64 yi) ∧ W.cell? ⟨w1.heap.size, 2, none⟩ = some (.string ys) ∧ W.cell? ⟨ad.block, ad.off + 11, none⟩ = some (.int .u8 k2) ∧ W.cell? ⟨ad.block, ad.off + 11 + 1, none⟩ = some (.string op2) ∧ W.cell? ⟨ad.block, ad.off + 11 + 2, none⟩ = some (.bool no2) ∧ W.cell? ⟨ad.block, ad.off + 11 + 3, none⟩ = some (.int .u8 vk2) ∧ W.cell? ⟨ad.block, ad.off + 11 + 4, none⟩ = some (.int .i64 vi2) ∧ W.cell? ⟨ad.block, ad.off + 11 + 5, none⟩ = some (.string vs2) ∧ W.cell? ⟨ad.block, ad.off + 11 + 6, none⟩ = some (.string of2) ∧ W.cell? ⟨ad.block, ad.off + 11 + 7, none⟩ = some (.string nm2) ∧ W.cell? ⟨ad.block, ad.off + 11 + 8, none⟩ = some (.int .i64 tb2) ∧ W.cell? ⟨ad.block, ad.off + 11 + 9, none⟩ = some (.int .i64 cl2) ∧ W.cell? ⟨ad.block, ad.off + 11 + 10, none⟩ = some (.slice A2 n2 c2) ∧ Below W1.heap.size W1 W)
      (first | exact hS.out _ (by (with_reducible repeat (first | exact Below.refl _ _ | assumption | refine bto0 ?_ (by assumption) | refine Below.drew ?_))) | assumption)
      (first | (go_at_call 65; (with_reducible refine (CM.out _ (bto0 hbv (by (with_reducible repeat (first | exact Below.refl _ _ | refine Below.drew ?_))))).mono ?_); rintro e w2 ⟨rfl, hb2⟩))
    go_wp2_with fail
    go_ret
    exact ⟨rfl, bto0 hbv (by (with_reducible repeat (first | exact Below.refl _ _ | exact hb2 | refine bto0 ?_ hb2 | refine bdr ?_ _ | refine Below.drew ?_)))⟩
  · have E := (⟨by rw [hop]; decide, by rw [hop]; decide, by rw [hop]; decide, by rw [hop]; decide, by rw [hop]; decide, by rw [hop]; decide, by rw [hop]; decide, by rw [hop]; decide, by rw [hop]; decide⟩ : (op0.toList == [78, 79, 84]) = false ∧ (op0.toList == [65, 78, 68]) = false ∧ (op0.toList == [79, 82]) = false ∧ (op0.toList == [61]) = false ∧ (op0.toList == [60, 62]) = false ∧ (op0.toList == [60]) = false ∧ (op0.toList == [60, 61]) = false ∧ (op0.toList == [62]) = false ∧ (op0.toList == [62, 61]) = true)
    obtain ⟨e0, e1, e2, e3, e4, e5, e6, e7, e8⟩ := E
    clear hop
    go_enter Try.func52, Try.ntmps52
    go_wp2_with fail
    refine (HA.out _ hb0).mono ?_
    rintro e w1 ⟨rfl, hb1⟩
    have hbw := bto0 hb0 hb1
    have hC : Blk w1 w.heap.size 26 #[.int .u8 k0, .string op0, .bool no0, .int .u8 vk0, .int .i64 vi0, .string vs0, .string of0, .string nm0, .int .i64 tb0, .int .i64 cl0, .slice (some ad) 2 c0] := blkOf hb1 (by simp) (Blk.new _ _ _)
    have hlt := hC.lt
    have hbv : Below w.heap.size w (w1.alloc (.cells #[.int .u8 yk, .int .i64 yi, .string ys] 23)) := ball hbw _
    have hat := arg1 (HRD.out.below hbv)
    obtain ⟨z0, z1, z2, z3, z4, z5, z6, z7, z8, z9, z10⟩ := hat
    simp only [Tm.h, Tm.A, Tm.n, Tm.c] at z0 z1 z2 z3 z4 z5 z6 z7 z8 z9 z10
    obtain ⟨W1, hW1⟩ : ∃ W1, w1.alloc (.cells #[.int .u8 yk, .int .i64 yi, .string ys] 23) = W1 := ⟨_, rfl⟩
    have hBV : Blk W1 w1.heap.size 23 #[.int .u8 yk, .int .i64 yi, .string ys] := by rw [← hW1]; exact Blk.new _ _ _
    have hCC : Blk W1 w.heap.size 26 #[.int .u8 k0, .string op0, .bool no0, .int .u8 vk0, .int .i64 vi0, .string vs0, .string of0, .string nm0, .int .i64 tb0, .int .i64 cl0, .slice (some ad) 2 c0] := by rw [← hW1]; exact Blk.alloc hC _
    rw [hW1] at hbv z0 z1 z2 z3 z4 z5 z6 z7 z8 z9 z10
    have hBV_0 : (W1).cell? ⟨w1.heap.size, 0, none⟩ = some (.int .u8 yk) := hBV.cell 0
    have hBV_1 : (W1).cell? ⟨w1.heap.size, 1, none⟩ = some (.int .i64 yi) := hBV.cell 1
    have hBV_2 : (W1).cell? ⟨w1.heap.size, 2, none⟩ = some (.string ys) := hBV.cell 2
    have hCC_0 : (W1).cell? ⟨w.heap.size, 0, none⟩ = some (.int .u8 k0) := hCC.cell 0
    have hCC_1 : (W1).cell? ⟨w.heap.size, 1, none⟩ = some (.string op0) := hCC.cell 1
    have hCC_2 : (W1).cell? ⟨w.heap.size, 2, none⟩ = some (.bool no0) := hCC.cell 2
    have hCC_3 : (W1).cell? ⟨w.heap.size, 3, none⟩ = some (.int .u8 vk0) := hCC.cell 3
    have hCC_4 : (W1).cell? ⟨w.heap.size, 4, none⟩ = some (.int .i64 vi0) := hCC.cell 4
    have hCC_5 : (W1).cell? ⟨w.heap.size, 5, none⟩ = some (.string vs0) := hCC.cell 5
    have hCC_6 : (W1).cell? ⟨w.heap.size, 6, none⟩ = some (.string of0) := hCC.cell 6
    have hCC_7 : (W1).cell? ⟨w.heap.size, 7, none⟩ = some (.string nm0) := hCC.cell 7
    have hCC_8 : (W1).cell? ⟨w.heap.size, 8, none⟩ = some (.int .i64 tb0) := hCC.cell 8
    have hCC_9 : (W1).cell? ⟨w.heap.size, 9, none⟩ = some (.int .i64 cl0) := hCC.cell 9
    have hCC_10 : (W1).cell? ⟨w.heap.size, 10, none⟩ = some (.slice (some ad) 2 c0) := hCC.cell 10
    have hS : Hid (∀ W, Below W1.heap.size W1 W → W.cell? ⟨w.heap.size, 1, none⟩ = some (.string op0) ∧ W.cell? ⟨w.heap.size, 10, none⟩ = some (.slice (some ad) 2 c0) ∧ W.cell? ⟨w1.heap.size, 0, none⟩ = some (.int .u8 yk) ∧ W.cell? ⟨w1.heap.size, 1, none⟩ = some (.int .i64 yi) ∧ W.cell? ⟨w1.heap.size, 2, none⟩ = some (.string ys) ∧ W.cell? ⟨ad.block, ad.off + 11, none⟩ = some (.int .u8 k2) ∧ W.cell? ⟨ad.block, ad.off + 11 + 1, none⟩ = some (.string op2) ∧ W.cell? ⟨ad.block, ad.off + 11 + 2, none⟩ = some (.bool no2) ∧ W.cell? ⟨ad.block, ad.off + 11 + 3, none⟩ = some (.int .u8 vk2) ∧ W.cell? ⟨ad.block, ad.off + 11 + 4, none⟩ = some (.int .i64 vi2) ∧ W.cell? ⟨ad.block, ad.off + 11 + 5, none⟩ = some (.string vs2) ∧ W.cell? ⟨ad.block, ad.off + 11 + 6, none⟩ = some (.string of2) ∧ W.cell? ⟨ad.block, ad.off + 11 + 7, none⟩ = some (.string nm2) ∧ W.cell? ⟨ad.block, ad.off + 11 + 8, none⟩ = some (.int .i64 tb2) ∧ W.cell? ⟨ad.block, ad.off + 11 + 9, none⟩ = some (.int .i64 cl2) ∧ W.cell? ⟨ad.block, ad.off + 11 + 10, none⟩ = some (.slice A2 n2 c2) ∧ Below W1.heap.size W1 W) := by
      refine Lib.hid fun W hW => ⟨(hW.cell ?_).trans hCC_1, (hW.cell ?_).trans hCC_10, (hW.cell ?_).trans hBV_0, (hW.cell ?_).trans hBV_1, (hW.cell ?_).trans hBV_2, (hW.cell ?_).trans z0, (hW.cell ?_).trans z1, (hW.cell ?_).trans z2, (hW.cell ?_).trans z3, (hW.cell ?_).trans z4, (hW.cell ?_).trans z5, (hW.cell ?_).trans z6, (hW.cell ?_).trans z7, (hW.cell ?_).trans z8, (hW.cell ?_).trans z9, (hW.cell ?_).trans z10, hW⟩
      all_goals (have h1 := hBV.lt; have h2 := hCC.lt; have h3 := hbv.size; (try simp only []); omega)
    go_wp2_with fail
    try rw [hW1]
    clear hW1
    go_region_held3 (fun W => W.cell? ⟨w.heap.size, 1, none⟩ = some (.string op0) ∧ W.cell? ⟨w.heap.size, 10, none⟩ = some (.slice (some ad) 2 c0) ∧ W.cell? ⟨w1.heap.size, 0, none⟩ = some (.int .u8 yk) ∧ W.cell? ⟨w1.heap.size, 1, none⟩ = some (.int .i64 yi) ∧ W.cell? ⟨w1.heap.size, 2, none⟩ = some (.string ys) ∧ W.cell? ⟨ad.block, ad.off + 11, none⟩ = some (.int .u8 k2) ∧ W.cell? ⟨ad.block, ad.off + 11 + 1, none⟩ = some (.string op2) ∧ W.cell? ⟨ad.block, ad.off + 11 + 2, none⟩ = some (.bool no2) ∧ W.cell? ⟨ad.block, ad.off + 11 + 3, none⟩ = some (.int .u8 vk2) ∧ W.cell? ⟨ad.block, ad.off + 11 + 4, none⟩ = some (.int .i64 vi2) ∧ W.cell? ⟨ad.block, ad.off + 11 + 5, none⟩ = some (.string vs2) ∧ W.cell? ⟨ad.block, ad.off + 11 + 6, none⟩ = some (.string of2) ∧ W.cell? ⟨ad.block, ad.off + 11 + 7, none⟩ = some (.string nm2) ∧ W.cell? ⟨ad.block, ad.off + 11 + 8, none⟩ = some (.int .i64 tb2) ∧ W.cell? ⟨ad.block, ad.off + 11 + 9, none⟩ = some (.int .i64 cl2) ∧ W.cell? ⟨ad.block, ad.off + 11 + 10, none⟩ = some (.slice A2 n2 c2) ∧ Below W1.heap.size W1 W)
      (first | exact hS.out _ (by (with_reducible repeat (first | exact Below.refl _ _ | assumption | refine bto0 ?_ (by assumption) | refine Below.drew ?_))) | assumption)
      (first | (go_at_call 65; (with_reducible refine (CM.out _ (bto0 hbv (by (with_reducible repeat (first | exact Below.refl _ _ | refine Below.drew ?_))))).mono ?_); rintro e w2 ⟨rfl, hb2⟩))
    go_wp2_with fail
    go_ret
    exact ⟨rfl, bto0 hbv (by (with_reducible repeat (first | exact Below.refl _ _ | exact hb2 | refine bto0 ?_ hb2 | refine bdr ?_ _ | refine Below.drew ?_)))⟩

set_option maxRecDepth 100000 in
set_option maxHeartbeats 8000000 in
theorem connNo_any (O : Nat) (h : TmH) (A0 : Option Addr) (n0 c0 : Nat) (w : World) (h1 : h.op.toList ≠ wNot) (h2 : h.op.toList ≠ wAnd) (h3 : h.op.toList ≠ wOr) (h4 : ¬ isCmp h.op.toList) :
    Calls Try.prog 52 #[.pointer (some ⟨O, 0, none⟩), h.agg A0 n0 c0] w (RetB w (.int .u8 2)) := by
  obtain ⟨k0, op0, no0, ⟨vk0, vi0, vs0⟩, of0, nm0, tb0, cl0⟩ := h
  simp only [wNot, wAnd, wOr] at h1 h2 h3 h4
  unfold isCmp at h4
  simp only [not_or] at h4
  obtain ⟨q3, q4, q5, q6, q7, q8⟩ := h4
  have e0 : (op0.toList == [78, 79, 84]) = false := by simpa using h1
  have e1 : (op0.toList == [65, 78, 68]) = false := by simpa using h2
  have e2 : (op0.toList == [79, 82]) = false := by simpa using h3
  have e3 : (op0.toList == [61]) = false := by simpa using q3
  have e4 : (op0.toList == [60, 62]) = false := by simpa using q4
  have e5 : (op0.toList == [60]) = false := by simpa using q5
  have e6 : (op0.toList == [60, 61]) = false := by simpa using q6
  have e7 : (op0.toList == [62]) = false := by simpa using q7
  have e8 : (op0.toList == [62, 61]) = false := by simpa using q8
  clear h1 h2 h3 q3 q4 q5 q6 q7 q8
  simp only [TmH.agg]
  go_enter Try.func52, Try.ntmps52
  go_wp2_with fail
  go_ret
  exact ⟨rfl, ball (Below.refl _ _) _⟩
end
end Go.Proofs.Ytilopgfpifhccaa
