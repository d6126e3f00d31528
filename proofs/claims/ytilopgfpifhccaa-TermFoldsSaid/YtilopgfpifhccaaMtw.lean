/-
  Several texts in one: R29 Tr R30.
-/
import Derived.Test.YtilopgfpifhccaaMtl
import Derived.Test.YtilopgfpifhccaaMtv
import Derived.Test.YtilopgfpifhccaaMtb
import Derived.Deep.RegionHeld3
import Derived.Test.YtilopgfpifhccaaProg
/-
  The law TermIs: its walk.
-/
namespace Go.Proofs.Ytilopgfpifhccaa
section
set_option linter.unusedSimpArgs false
set_option linter.unusedVariables false
open Go.RowKit

theorem retO_form (o : Option Vl) : (∃ y, o = some y ∧ retO o = .tuple #[.agg #[.int .u8 y.k, .int .i64 y.i, .string y.s], .bool true] ∧ retR o = .agg #[.int .u8 y.k, .int .i64 y.i, .string y.s, .bool false]) ∨ (o = none ∧ retO o = .tuple #[.agg #[.int .u8 0, .int .i64 0, .string ⟨#[]⟩], .bool false] ∧ retR o = .agg #[.int .u8 0, .int .i64 0, .string ⟨#[]⟩, .bool true]) := by
  cases o with
  | none => exact .inr ⟨rfl, rfl, rfl⟩
  | some y => exact .inl ⟨y, rfl, rfl, rfl⟩

set_option maxRecDepth 100000 in
set_option maxHeartbeats 16000000 in
theorem termIs_any (t : Tm) (RA : Option Addr) (rn rc : Nat) (rws : List Rv) (TA : Option Addr) (tn tc : Nat) (tot : List Vl) (w : World) (hin : TmIn w w.heap.size t) (hR : RowsIn w RA rn rws) (hT : Reads w w.heap.size 3 TA tn (vV tot)) (htn : tn ≤ maxLen) (htv : ∀ v ∈ tot, v.ok) :
    Calls Try.prog 3 #[t.agg, .slice RA rn rc, .slice TA tn tc] w (RetB w (.bool true)) := by
  have FX := Lib.hid fun W => fixed18_any W
  have GR := Lib.hid fun (W : World) (hb : Below w.heap.size w W) => great18_any 41 0 t W ((hin.under hb).more hb.size) (by omega) (by omega) (by omega)
  have G2 := Lib.hid fun (W : World) (hb : Below w.heap.size w W) => (hR.below hb).great rc
  have G3 := Lib.hid fun (W : World) (hb : Below w.heap.size w W) => great_any TA tn tc tot W W.heap.size ((hT.below hb).more hb.size) (fun v hv => (htv v hv).2.2) htn
  have hall : ∀ (hg1 : grT 41 0 t = false) (hg2 : greR rws = false) (hg3 : grV 0 tot = false),
      ∃ (o : Option Vl) (x : Int) (V2 : Value) (cb : Bool), (0 ≤ x ∧ x ≤ 3) ∧
      (∀ W, Below w.heap.size w W → Calls Try.prog 10 #[t.agg, .slice RA rn rc, .slice TA tn tc] W (RetB W (retO o))) ∧
      (∀ W, Below w.heap.size w W → Calls Try.prog 11 #[t.agg, .slice RA rn rc, .slice TA tn tc] W (RetB W (retR o))) ∧
      (∀ W, Below w.heap.size w W → Calls Try.prog 12 #[t.agg, .slice RA rn rc] W (RetB W (.int .u8 x))) ∧
      (∀ W, Below w.heap.size w W → Calls Try.prog 11 #[t.agg, .slice RA rn rc, .slice none 0 0] W (RetB W V2)) ∧
      (∀ W, Calls Try.prog 13 #[V2] W (RetB W (.int .i64 x))) ∧
      (∀ W, Below w.heap.size w W → Calls Try.prog 14 #[t.agg] W (RetB W (.bool cb))) ∧
      (∀ W, Below w.heap.size w W → Calls Try.prog 15 #[t.agg] W (RetB W (.bool cb))) := by
    intro hg1 hg2 hg3
    have hsh := shV_of 41 0 t hg1
    have htv' : ∀ v ∈ tot, okV v := fun v hv => ⟨htv v hv, by have := (grV_small18 (Int.le_refl 0) hg3).1 v hv; omega⟩
    have E := fun (W : World) (hb : Below w.heap.size w W) => (hR.below hb).env hg2 ((hT.below hb).more hb.size) htn htv'
    have E0 := fun (W : World) (hb : Below w.heap.size w W) => (hR.below hb).env hg2 (no_tot (w := W)) (by decide) (by simp)
    have I := fun (W : World) (hb : Below w.heap.size w W) => (hin.under hb).more hb.size
    exact ⟨evT (rws.map Rv.l) tot 41 t, truO (evT (rws.map Rv.l) [] 41 t), retR (evT (rws.map Rv.l) [] 41 t), coT 41 t, truO_bd _,
      fun W hb => eval18_any RA rn rc rws TA tn tc tot 41 t W (E W hb) (I W hb) hsh,
      fun W hb => reval_any RA rn rc rws TA tn tc tot 41 t W (E W hb) (I W hb) hsh,
      fun W hb => truthP_any RA rn rc rws 41 t W (E0 W hb) (I W hb) hsh,
      fun W hb => reval_any RA rn rc rws none 0 0 [] 41 t W (E0 W hb) (I W hb) hsh,
      fun W => rtruth_any _ W,
      fun W hb => const18_any 41 t W (I W hb) hsh,
      fun W hb => rconst_any 41 t W (I W hb) hsh⟩
  generalize grT 41 0 t = b1 at GR hall
  generalize greR rws = b2 at G2 hall
  generalize grV 0 tot = b3 at G3 hall
  clear hin hR hT htn htv
  obtain ⟨⟨k0, op0, no0, ⟨vk0, vi0, vs0⟩, of0, nm0, tb0, cl0⟩, A0, n0, c0, l0⟩ := t
  simp only [Tm.agg, TmH.agg, Tm.h, Tm.A, Tm.n, Tm.c] at GR hall ⊢
  have hb0 : Below w.heap.size w (w.alloc (.cells #[.int .u8 k0, .string op0, .bool no0, .int .u8 vk0, .int .i64 vi0, .string vs0, .string of0, .string nm0, .int .i64 tb0, .int .i64 cl0, .slice A0 n0 c0] 26)) := ball (Below.refl _ _) _
  have hX := Blk.new w 26 #[.int .u8 k0, .string op0, .bool no0, .int .u8 vk0, .int .i64 vi0, .string vs0, .string of0, .string nm0, .int .i64 tb0, .int .i64 cl0, .slice A0 n0 c0]
  have HB : Hid (∀ W, Below (w.alloc (.cells #[.int .u8 k0, .string op0, .bool no0, .int .u8 vk0, .int .i64 vi0, .string vs0, .string of0, .string nm0, .int .i64 tb0, .int .i64 cl0, .slice A0 n0 c0] 26)).heap.size (w.alloc (.cells #[.int .u8 k0, .string op0, .bool no0, .int .u8 vk0, .int .i64 vi0, .string vs0, .string of0, .string nm0, .int .i64 tb0, .int .i64 cl0, .slice A0 n0 c0] 26)) W → W.cell? ⟨w.heap.size, 0, none⟩ = some (.int .u8 k0) ∧ W.cell? ⟨w.heap.size, 1, none⟩ = some (.string op0) ∧ W.cell? ⟨w.heap.size, 2, none⟩ = some (.bool no0) ∧ W.cell? ⟨w.heap.size, 3, none⟩ = some (.int .u8 vk0) ∧ W.cell? ⟨w.heap.size, 4, none⟩ = some (.int .i64 vi0) ∧ W.cell? ⟨w.heap.size, 5, none⟩ = some (.string vs0) ∧ W.cell? ⟨w.heap.size, 6, none⟩ = some (.string of0) ∧ W.cell? ⟨w.heap.size, 7, none⟩ = some (.string nm0) ∧ W.cell? ⟨w.heap.size, 8, none⟩ = some (.int .i64 tb0) ∧ W.cell? ⟨w.heap.size, 9, none⟩ = some (.int .i64 cl0) ∧ W.cell? ⟨w.heap.size, 10, none⟩ = some (.slice A0 n0 c0) ∧ Below w.heap.size w W) := by
    refine Lib.hid fun W hW => ?_
    have hB := blkOf hW (by simp) hX
    exact ⟨hB.cell 0, hB.cell 1, hB.cell 2, hB.cell 3, hB.cell 4, hB.cell 5, hB.cell 6, hB.cell 7, hB.cell 8, hB.cell 9, hB.cell 10, bto0 hb0 hW⟩
  have HALL := Lib.hid hall
  clear hall hX
  cases b1 with
  | true =>
    clear HALL G2 G3 HB
    go_enter Try.func3, Try.ntmps3
    go_wp2_with fail
    refine (GR.out _ hb0).mono ?_
    rintro e w1 ⟨rfl, hb1⟩
    go_wp2_with fail
    refine (FX.out _).mono ?_
    rintro e w2 ⟨rfl, hb2⟩
    go_wp2
    go_ret
    exact ⟨rfl, bto0 (bto0 hb0 hb1) hb2⟩
  | false =>
    cases b2 with
    | true =>
      clear HALL G3 HB
      go_enter Try.func3, Try.ntmps3
      go_wp2_with fail
      refine (GR.out _ hb0).mono ?_
      rintro e w1 ⟨rfl, hb1⟩
      go_wp2_with fail
      refine (G2.out _ (bto0 hb0 hb1)).mono ?_
      rintro e w2 ⟨rfl, hb2⟩
      go_wp2_with fail
      refine (FX.out _).mono ?_
      rintro e w3 ⟨rfl, hb3⟩
      go_wp2
      go_ret
      exact ⟨rfl, bto0 (bto0 (bto0 hb0 hb1) hb2) hb3⟩
    | false =>
      cases b3 with
      | true =>
        clear HALL HB
        go_enter Try.func3, Try.ntmps3
        go_wp2_with fail
        refine (GR.out _ hb0).mono ?_
        rintro e w1 ⟨rfl, hb1⟩
        go_wp2_with fail
        refine (G2.out _ (bto0 hb0 hb1)).mono ?_
        rintro e w2 ⟨rfl, hb2⟩
        go_wp2_with fail
        refine (G3.out _ (bto0 (bto0 hb0 hb1) hb2)).mono ?_
        rintro e w3 ⟨rfl, rfl⟩
        go_wp2_with fail
        refine (FX.out _).mono ?_
        rintro e w4 ⟨rfl, hb3⟩
        go_wp2
        go_ret
        exact ⟨rfl, bto0 (bto0 (bto0 hb0 hb1) hb2) hb3⟩
      | false =>
        obtain ⟨o, x, V2, cb, ⟨x0, x3⟩, E1, E2, T1, T2, T3, C1, C2⟩ := HALL.out rfl rfl rfl
        have hwx : IntKind.i64.wrap x = x := IntWalk.i64_in _ (by omega)
        have T1 := Lib.hid T1
        have T2 := Lib.hid T2
        have T3 := Lib.hid T3
        have C1 := Lib.hid C1
        have C2 := Lib.hid C2
        clear HALL
        rcases retO_form o with ⟨⟨yk, yi, ys⟩, rfl, e1, e2⟩ | ⟨rfl, e1, e2⟩
        · rw [e1] at E1
          rw [e2] at E2
          (try simp only at E1 E2)
          have E1 := Lib.hid E1
          have E2 := Lib.hid E2
          clear e1 e2
          go_enter Try.func3, Try.ntmps3
          go_wp2_with fail
          refine (GR.out _ hb0).mono ?_
          rintro e w1 ⟨rfl, hb1⟩
          go_wp2_with fail
          refine (G2.out _ (bto0 hb0 hb1)).mono ?_
          rintro e w2 ⟨rfl, hb2⟩
          have hb02 : Below (w.alloc (.cells #[.int .u8 k0, .string op0, .bool no0, .int .u8 vk0, .int .i64 vi0, .string vs0, .string of0, .string nm0, .int .i64 tb0, .int .i64 cl0, .slice A0 n0 c0] 26)).heap.size (w.alloc (.cells #[.int .u8 k0, .string op0, .bool no0, .int .u8 vk0, .int .i64 vi0, .string vs0, .string of0, .string nm0, .int .i64 tb0, .int .i64 cl0, .slice A0 n0 c0] 26)) w2 := bto0 hb1 hb2
          go_wp2_with fail
          refine (G3.out _ (HB.out _ hb02).2.2.2.2.2.2.2.2.2.2.2).mono ?_
          rintro e w2' ⟨rfl, rfl⟩
          obtain ⟨m0, m1, m2, m3, m4, m5, m6, m7, m8, m9, m10, hw2⟩ := HB.out _ hb02
          have hz2 : w.heap.size < w2.heap.size := by (have := hb02.size); simp at this; omega
          go_wp2_with fail
          refine (E1.out _ hw2).mono ?_
          rintro e w3 ⟨rfl, hb3⟩
          clear m0 m1 m2 m3 m4 m5 m6 m7 m8 m9 m10
          have hV3 : Blk (w3.alloc (.cells #[.int .u8 yk, .int .i64 yi, .string ys] 23)) w3.heap.size 23 #[.int .u8 yk, .int .i64 yi, .string ys] := Blk.new _ _ _
          have hb03 : Below (w.alloc (.cells #[.int .u8 k0, .string op0, .bool no0, .int .u8 vk0, .int .i64 vi0, .string vs0, .string of0, .string nm0, .int .i64 tb0, .int .i64 cl0, .slice A0 n0 c0] 26)).heap.size (w.alloc (.cells #[.int .u8 k0, .string op0, .bool no0, .int .u8 vk0, .int .i64 vi0, .string vs0, .string of0, .string nm0, .int .i64 tb0, .int .i64 cl0, .slice A0 n0 c0] 26)) (w3.alloc (.cells #[.int .u8 yk, .int .i64 yi, .string ys] 23)) := ball (bto0 hb02 hb3) _
          obtain ⟨m0, m1, m2, m3, m4, m5, m6, m7, m8, m9, m10, hw3⟩ := HB.out _ hb03
          go_wp2_with fail
          refine (E2.out _ hw3).mono ?_
          rintro e w4 ⟨rfl, hb4⟩
          clear m0 m1 m2 m3 m4 m5 m6 m7 m8 m9 m10
          have hR5 : Blk (w4.alloc (.cells #[.int .u8 yk, .int .i64 yi, .string ys, .bool false] 36)) w4.heap.size 36 #[.int .u8 yk, .int .i64 yi, .string ys, .bool false] := Blk.new _ _ _
          have hV4 := blkOf hb4 hV3.lt hV3
          have hz4 : w3.heap.size < w4.heap.size := by (have := hb4.size); simp at this; omega
          have hV5 : Blk (w4.alloc (.cells #[.int .u8 yk, .int .i64 yi, .string ys, .bool false] 36)) w3.heap.size 23 #[.int .u8 yk, .int .i64 yi, .string ys] := hV4.alloc _
          have hb05 : Below (w.alloc (.cells #[.int .u8 k0, .string op0, .bool no0, .int .u8 vk0, .int .i64 vi0, .string vs0, .string of0, .string nm0, .int .i64 tb0, .int .i64 cl0, .slice A0 n0 c0] 26)).heap.size (w.alloc (.cells #[.int .u8 k0, .string op0, .bool no0, .int .u8 vk0, .int .i64 vi0, .string vs0, .string of0, .string nm0, .int .i64 tb0, .int .i64 cl0, .slice A0 n0 c0] 26)) (w4.alloc (.cells #[.int .u8 yk, .int .i64 yi, .string ys, .bool false] 36)) := ball (bto0 hb03 hb4) _
          have hw5 := (HB.out _ hb05).2.2.2.2.2.2.2.2.2.2.2
          have v5_0 : (w4.alloc (.cells #[.int .u8 yk, .int .i64 yi, .string ys, .bool false] 36)).cell? ⟨w3.heap.size, 0, none⟩ = some (.int .u8 yk) := hV5.cell 0
          have r5_0 : (w4.alloc (.cells #[.int .u8 yk, .int .i64 yi, .string ys, .bool false] 36)).cell? ⟨w4.heap.size, 0, none⟩ = some (.int .u8 yk) := hR5.cell 0
          have v5_1 : (w4.alloc (.cells #[.int .u8 yk, .int .i64 yi, .string ys, .bool false] 36)).cell? ⟨w3.heap.size, 1, none⟩ = some (.int .i64 yi) := hV5.cell 1
          have r5_1 : (w4.alloc (.cells #[.int .u8 yk, .int .i64 yi, .string ys, .bool false] 36)).cell? ⟨w4.heap.size, 1, none⟩ = some (.int .i64 yi) := hR5.cell 1
          have v5_2 : (w4.alloc (.cells #[.int .u8 yk, .int .i64 yi, .string ys, .bool false] 36)).cell? ⟨w3.heap.size, 2, none⟩ = some (.string ys) := hV5.cell 2
          have r5_2 : (w4.alloc (.cells #[.int .u8 yk, .int .i64 yi, .string ys, .bool false] 36)).cell? ⟨w4.heap.size, 2, none⟩ = some (.string ys) := hR5.cell 2
          have r5_3 : (w4.alloc (.cells #[.int .u8 yk, .int .i64 yi, .string ys, .bool false] 36)).cell? ⟨w4.heap.size, 3, none⟩ = some (.bool false) := hR5.cell 3
          clear hV3 hV4 hV5 hR5 hb1 hb2 hb3 hb4 hb02 hb03 hw2 hw3 hz2 E1 E2
          go_wp2_with fail
          obtain ⟨W5, hW5⟩ : ∃ W5, (w4.alloc (.cells #[.int .u8 yk, .int .i64 yi, .string ys, .bool false] 36)) = W5 := ⟨_, rfl⟩
          rw [hW5] at hb05 hw5 ⊢
          clear v5_0 v5_1 v5_2 r5_0 r5_1 r5_2 r5_3 hW5
          obtain ⟨m0, m1, m2, m3, m4, m5, m6, m7, m8, m9, m10, _⟩ := HB.out _ hb05
          have hS : Hid (∀ W, Below W5.heap.size W5 W → W.cell? ⟨w.heap.size, 0, none⟩ = some (.int .u8 k0) ∧ W.cell? ⟨w.heap.size, 1, none⟩ = some (.string op0) ∧ W.cell? ⟨w.heap.size, 2, none⟩ = some (.bool no0) ∧ W.cell? ⟨w.heap.size, 3, none⟩ = some (.int .u8 vk0) ∧ W.cell? ⟨w.heap.size, 4, none⟩ = some (.int .i64 vi0) ∧ W.cell? ⟨w.heap.size, 5, none⟩ = some (.string vs0) ∧ W.cell? ⟨w.heap.size, 6, none⟩ = some (.string of0) ∧ W.cell? ⟨w.heap.size, 7, none⟩ = some (.string nm0) ∧ W.cell? ⟨w.heap.size, 8, none⟩ = some (.int .i64 tb0) ∧ W.cell? ⟨w.heap.size, 9, none⟩ = some (.int .i64 cl0) ∧ W.cell? ⟨w.heap.size, 10, none⟩ = some (.slice A0 n0 c0) ∧ Below W5.heap.size W5 W) := by
            refine Lib.hid fun W hW => ?_
            obtain ⟨m0, m1, m2, m3, m4, m5, m6, m7, m8, m9, m10, _⟩ := HB.out W (bto0 hb05 hW)
            exact ⟨m0, m1, m2, m3, m4, m5, m6, m7, m8, m9, m10, hW⟩
          go_region_held3 (fun W => W.cell? ⟨w.heap.size, 0, none⟩ = some (.int .u8 k0) ∧ W.cell? ⟨w.heap.size, 1, none⟩ = some (.string op0) ∧ W.cell? ⟨w.heap.size, 2, none⟩ = some (.bool no0) ∧ W.cell? ⟨w.heap.size, 3, none⟩ = some (.int .u8 vk0) ∧ W.cell? ⟨w.heap.size, 4, none⟩ = some (.int .i64 vi0) ∧ W.cell? ⟨w.heap.size, 5, none⟩ = some (.string vs0) ∧ W.cell? ⟨w.heap.size, 6, none⟩ = some (.string of0) ∧ W.cell? ⟨w.heap.size, 7, none⟩ = some (.string nm0) ∧ W.cell? ⟨w.heap.size, 8, none⟩ = some (.int .i64 tb0) ∧ W.cell? ⟨w.heap.size, 9, none⟩ = some (.int .i64 cl0) ∧ W.cell? ⟨w.heap.size, 10, none⟩ = some (.slice A0 n0 c0) ∧ Below W5.heap.size W5 W)
            (first | exact hS.out _ (by (with_reducible repeat (first | exact Below.refl _ _ | exact hb6 | exact hb5 | exact hb4 | exact hb3 | exact hb2 | exact hb1 | refine bto0 ?_ hb6 | refine bto0 ?_ hb5 | refine bto0 ?_ hb4 | refine bto0 ?_ hb3 | refine bto0 ?_ hb2 | refine bto0 ?_ hb1 | refine bdr ?_ _ | refine Below.drew ?_ | refine ball ?_ _))) | assumption)
            (first
              | (go_at_call 9; (with_reducible refine (FX.out _).mono ?_); rintro e w6 ⟨rfl, hb1⟩)
              | (go_at_call 12; (with_reducible refine (T1.out _ (bto0 hw5 (by (with_reducible repeat (first | exact Below.refl _ _ | exact hb6 | exact hb5 | exact hb4 | exact hb3 | exact hb2 | exact hb1 | refine bto0 ?_ hb6 | refine bto0 ?_ hb5 | refine bto0 ?_ hb4 | refine bto0 ?_ hb3 | refine bto0 ?_ hb2 | refine bto0 ?_ hb1 | refine bdr ?_ _ | refine Below.drew ?_ | refine ball ?_ _))))).mono ?_); rintro e w7 ⟨rfl, hb2⟩)
              | (go_at_call 11; (with_reducible refine (T2.out _ (bto0 hw5 (by (with_reducible repeat (first | exact Below.refl _ _ | exact hb6 | exact hb5 | exact hb4 | exact hb3 | exact hb2 | exact hb1 | refine bto0 ?_ hb6 | refine bto0 ?_ hb5 | refine bto0 ?_ hb4 | refine bto0 ?_ hb3 | refine bto0 ?_ hb2 | refine bto0 ?_ hb1 | refine bdr ?_ _ | refine Below.drew ?_ | refine ball ?_ _))))).mono ?_); rintro e w8 ⟨rfl, hb3⟩)
              | (go_at_call 13; (with_reducible refine (T3.out _).mono ?_); rintro e w9 ⟨rfl, hb4⟩)
              | (go_at_call 14; (with_reducible refine (C1.out _ (bto0 hw5 (by (with_reducible repeat (first | exact Below.refl _ _ | exact hb6 | exact hb5 | exact hb4 | exact hb3 | exact hb2 | exact hb1 | refine bto0 ?_ hb6 | refine bto0 ?_ hb5 | refine bto0 ?_ hb4 | refine bto0 ?_ hb3 | refine bto0 ?_ hb2 | refine bto0 ?_ hb1 | refine bdr ?_ _ | refine Below.drew ?_ | refine ball ?_ _))))).mono ?_); rintro e w10 ⟨rfl, hb5⟩)
              | (go_at_call 15; (with_reducible refine (C2.out _ (bto0 hw5 (by (with_reducible repeat (first | exact Below.refl _ _ | exact hb6 | exact hb5 | exact hb4 | exact hb3 | exact hb2 | exact hb1 | refine bto0 ?_ hb6 | refine bto0 ?_ hb5 | refine bto0 ?_ hb4 | refine bto0 ?_ hb3 | refine bto0 ?_ hb2 | refine bto0 ?_ hb1 | refine bdr ?_ _ | refine Below.drew ?_ | refine ball ?_ _))))).mono ?_); rintro e w11 ⟨rfl, hb6⟩))
          go_wp2
          go_ret
          exact ⟨rfl, bto0 hw5 (by (with_reducible repeat (first | exact Below.refl _ _ | exact hb6 | exact hb5 | exact hb4 | exact hb3 | exact hb2 | exact hb1 | refine bto0 ?_ hb6 | refine bto0 ?_ hb5 | refine bto0 ?_ hb4 | refine bto0 ?_ hb3 | refine bto0 ?_ hb2 | refine bto0 ?_ hb1 | refine bdr ?_ _ | refine Below.drew ?_ | refine ball ?_ _)))⟩
        · rw [e1] at E1
          rw [e2] at E2
          (try simp only at E1 E2)
          have E1 := Lib.hid E1
          have E2 := Lib.hid E2
          clear e1 e2
          go_enter Try.func3, Try.ntmps3
          go_wp2_with fail
          refine (GR.out _ hb0).mono ?_
          rintro e w1 ⟨rfl, hb1⟩
          go_wp2_with fail
          refine (G2.out _ (bto0 hb0 hb1)).mono ?_
          rintro e w2 ⟨rfl, hb2⟩
          have hb02 : Below (w.alloc (.cells #[.int .u8 k0, .string op0, .bool no0, .int .u8 vk0, .int .i64 vi0, .string vs0, .string of0, .string nm0, .int .i64 tb0, .int .i64 cl0, .slice A0 n0 c0] 26)).heap.size (w.alloc (.cells #[.int .u8 k0, .string op0, .bool no0, .int .u8 vk0, .int .i64 vi0, .string vs0, .string of0, .string nm0, .int .i64 tb0, .int .i64 cl0, .slice A0 n0 c0] 26)) w2 := bto0 hb1 hb2
          go_wp2_with fail
          refine (G3.out _ (HB.out _ hb02).2.2.2.2.2.2.2.2.2.2.2).mono ?_
          rintro e w2' ⟨rfl, rfl⟩
          obtain ⟨m0, m1, m2, m3, m4, m5, m6, m7, m8, m9, m10, hw2⟩ := HB.out _ hb02
          have hz2 : w.heap.size < w2.heap.size := by (have := hb02.size); simp at this; omega
          go_wp2_with fail
          refine (E1.out _ hw2).mono ?_
          rintro e w3 ⟨rfl, hb3⟩
          clear m0 m1 m2 m3 m4 m5 m6 m7 m8 m9 m10
          have hV3 : Blk (w3.alloc (.cells #[.int .u8 0, .int .i64 0, .string ⟨#[]⟩] 23)) w3.heap.size 23 #[.int .u8 0, .int .i64 0, .string ⟨#[]⟩] := Blk.new _ _ _
          have hb03 : Below (w.alloc (.cells #[.int .u8 k0, .string op0, .bool no0, .int .u8 vk0, .int .i64 vi0, .string vs0, .string of0, .string nm0, .int .i64 tb0, .int .i64 cl0, .slice A0 n0 c0] 26)).heap.size (w.alloc (.cells #[.int .u8 k0, .string op0, .bool no0, .int .u8 vk0, .int .i64 vi0, .string vs0, .string of0, .string nm0, .int .i64 tb0, .int .i64 cl0, .slice A0 n0 c0] 26)) (w3.alloc (.cells #[.int .u8 0, .int .i64 0, .string ⟨#[]⟩] 23)) := ball (bto0 hb02 hb3) _
          obtain ⟨m0, m1, m2, m3, m4, m5, m6, m7, m8, m9, m10, hw3⟩ := HB.out _ hb03
          go_wp2_with fail
          refine (E2.out _ hw3).mono ?_
          rintro e w4 ⟨rfl, hb4⟩
          clear m0 m1 m2 m3 m4 m5 m6 m7 m8 m9 m10
          have hR5 : Blk (w4.alloc (.cells #[.int .u8 0, .int .i64 0, .string ⟨#[]⟩, .bool true] 36)) w4.heap.size 36 #[.int .u8 0, .int .i64 0, .string ⟨#[]⟩, .bool true] := Blk.new _ _ _
          have hV4 := blkOf hb4 hV3.lt hV3
          have hz4 : w3.heap.size < w4.heap.size := by (have := hb4.size); simp at this; omega
          have hV5 : Blk (w4.alloc (.cells #[.int .u8 0, .int .i64 0, .string ⟨#[]⟩, .bool true] 36)) w3.heap.size 23 #[.int .u8 0, .int .i64 0, .string ⟨#[]⟩] := hV4.alloc _
          have hb05 : Below (w.alloc (.cells #[.int .u8 k0, .string op0, .bool no0, .int .u8 vk0, .int .i64 vi0, .string vs0, .string of0, .string nm0, .int .i64 tb0, .int .i64 cl0, .slice A0 n0 c0] 26)).heap.size (w.alloc (.cells #[.int .u8 k0, .string op0, .bool no0, .int .u8 vk0, .int .i64 vi0, .string vs0, .string of0, .string nm0, .int .i64 tb0, .int .i64 cl0, .slice A0 n0 c0] 26)) (w4.alloc (.cells #[.int .u8 0, .int .i64 0, .string ⟨#[]⟩, .bool true] 36)) := ball (bto0 hb03 hb4) _
          have hw5 := (HB.out _ hb05).2.2.2.2.2.2.2.2.2.2.2
          have v5_0 : (w4.alloc (.cells #[.int .u8 0, .int .i64 0, .string ⟨#[]⟩, .bool true] 36)).cell? ⟨w3.heap.size, 0, none⟩ = some (.int .u8 0) := hV5.cell 0
          have r5_0 : (w4.alloc (.cells #[.int .u8 0, .int .i64 0, .string ⟨#[]⟩, .bool true] 36)).cell? ⟨w4.heap.size, 0, none⟩ = some (.int .u8 0) := hR5.cell 0
          have v5_1 : (w4.alloc (.cells #[.int .u8 0, .int .i64 0, .string ⟨#[]⟩, .bool true] 36)).cell? ⟨w3.heap.size, 1, none⟩ = some (.int .i64 0) := hV5.cell 1
          have r5_1 : (w4.alloc (.cells #[.int .u8 0, .int .i64 0, .string ⟨#[]⟩, .bool true] 36)).cell? ⟨w4.heap.size, 1, none⟩ = some (.int .i64 0) := hR5.cell 1
          have v5_2 : (w4.alloc (.cells #[.int .u8 0, .int .i64 0, .string ⟨#[]⟩, .bool true] 36)).cell? ⟨w3.heap.size, 2, none⟩ = some (.string ⟨#[]⟩) := hV5.cell 2
          have r5_2 : (w4.alloc (.cells #[.int .u8 0, .int .i64 0, .string ⟨#[]⟩, .bool true] 36)).cell? ⟨w4.heap.size, 2, none⟩ = some (.string ⟨#[]⟩) := hR5.cell 2
          have r5_3 : (w4.alloc (.cells #[.int .u8 0, .int .i64 0, .string ⟨#[]⟩, .bool true] 36)).cell? ⟨w4.heap.size, 3, none⟩ = some (.bool true) := hR5.cell 3
          clear hV3 hV4 hV5 hR5 hb1 hb2 hb3 hb4 hb02 hb03 hw2 hw3 hz2 E1 E2
          go_wp2_with fail
          obtain ⟨W5, hW5⟩ : ∃ W5, (w4.alloc (.cells #[.int .u8 0, .int .i64 0, .string ⟨#[]⟩, .bool true] 36)) = W5 := ⟨_, rfl⟩
          rw [hW5] at hb05 hw5 ⊢
          clear v5_0 v5_1 v5_2 r5_0 r5_1 r5_2 r5_3 hW5
          obtain ⟨m0, m1, m2, m3, m4, m5, m6, m7, m8, m9, m10, _⟩ := HB.out _ hb05
          have hS : Hid (∀ W, Below W5.heap.size W5 W → W.cell? ⟨w.heap.size, 0, none⟩ = some (.int .u8 k0) ∧ W.cell? ⟨w.heap.size, 1, none⟩ = some (.string op0) ∧ W.cell? ⟨w.heap.size, 2, none⟩ = some (.bool no0) ∧ W.cell? ⟨w.heap.size, 3, none⟩ = some (.int .u8 vk0) ∧ W.cell? ⟨w.heap.size, 4, none⟩ = some (.int .i64 vi0) ∧ W.cell? ⟨w.heap.size, 5, none⟩ = some (.string vs0) ∧ W.cell? ⟨w.heap.size, 6, none⟩ = some (.string of0) ∧ W.cell? ⟨w.heap.size, 7, none⟩ = some (.string nm0) ∧ W.cell? ⟨w.heap.size, 8, none⟩ = some (.int .i64 tb0) ∧ W.cell? ⟨w.heap.size, 9, none⟩ = some (.int .i64 cl0) ∧ W.cell? ⟨w.heap.size, 10, none⟩ = some (.slice A0 n0 c0) ∧ Below W5.heap.size W5 W) := by
            refine Lib.hid fun W hW => ?_
            obtain ⟨m0, m1, m2, m3, m4, m5, m6, m7, m8, m9, m10, _⟩ := HB.out W (bto0 hb05 hW)
            exact ⟨m0, m1, m2, m3, m4, m5, m6, m7, m8, m9, m10, hW⟩
          go_region_held3 (fun W => W.cell? ⟨w.heap.size, 0, none⟩ = some (.int .u8 k0) ∧ W.cell? ⟨w.heap.size, 1, none⟩ = some (.string op0) ∧ W.cell? ⟨w.heap.size, 2, none⟩ = some (.bool no0) ∧ W.cell? ⟨w.heap.size, 3, none⟩ = some (.int .u8 vk0) ∧ W.cell? ⟨w.heap.size, 4, none⟩ = some (.int .i64 vi0) ∧ W.cell? ⟨w.heap.size, 5, none⟩ = some (.string vs0) ∧ W.cell? ⟨w.heap.size, 6, none⟩ = some (.string of0) ∧ W.cell? ⟨w.heap.size, 7, none⟩ = some (.string nm0) ∧ W.cell? ⟨w.heap.size, 8, none⟩ = some (.int .i64 tb0) ∧ W.cell? ⟨w.heap.size, 9, none⟩ = some (.int .i64 cl0) ∧ W.cell? ⟨w.heap.size, 10, none⟩ = some (.slice A0 n0 c0) ∧ Below W5.heap.size W5 W)
            (first | exact hS.out _ (by (with_reducible repeat (first | exact Below.refl _ _ | exact hb6 | exact hb5 | exact hb4 | exact hb3 | exact hb2 | exact hb1 | refine bto0 ?_ hb6 | refine bto0 ?_ hb5 | refine bto0 ?_ hb4 | refine bto0 ?_ hb3 | refine bto0 ?_ hb2 | refine bto0 ?_ hb1 | refine bdr ?_ _ | refine Below.drew ?_ | refine ball ?_ _))) | assumption)
            (first
              | (go_at_call 9; (with_reducible refine (FX.out _).mono ?_); rintro e w6 ⟨rfl, hb1⟩)
              | (go_at_call 12; (with_reducible refine (T1.out _ (bto0 hw5 (by (with_reducible repeat (first | exact Below.refl _ _ | exact hb6 | exact hb5 | exact hb4 | exact hb3 | exact hb2 | exact hb1 | refine bto0 ?_ hb6 | refine bto0 ?_ hb5 | refine bto0 ?_ hb4 | refine bto0 ?_ hb3 | refine bto0 ?_ hb2 | refine bto0 ?_ hb1 | refine bdr ?_ _ | refine Below.drew ?_ | refine ball ?_ _))))).mono ?_); rintro e w7 ⟨rfl, hb2⟩)
              | (go_at_call 11; (with_reducible refine (T2.out _ (bto0 hw5 (by (with_reducible repeat (first | exact Below.refl _ _ | exact hb6 | exact hb5 | exact hb4 | exact hb3 | exact hb2 | exact hb1 | refine bto0 ?_ hb6 | refine bto0 ?_ hb5 | refine bto0 ?_ hb4 | refine bto0 ?_ hb3 | refine bto0 ?_ hb2 | refine bto0 ?_ hb1 | refine bdr ?_ _ | refine Below.drew ?_ | refine ball ?_ _))))).mono ?_); rintro e w8 ⟨rfl, hb3⟩)
              | (go_at_call 13; (with_reducible refine (T3.out _).mono ?_); rintro e w9 ⟨rfl, hb4⟩)
              | (go_at_call 14; (with_reducible refine (C1.out _ (bto0 hw5 (by (with_reducible repeat (first | exact Below.refl _ _ | exact hb6 | exact hb5 | exact hb4 | exact hb3 | exact hb2 | exact hb1 | refine bto0 ?_ hb6 | refine bto0 ?_ hb5 | refine bto0 ?_ hb4 | refine bto0 ?_ hb3 | refine bto0 ?_ hb2 | refine bto0 ?_ hb1 | refine bdr ?_ _ | refine Below.drew ?_ | refine ball ?_ _))))).mono ?_); rintro e w10 ⟨rfl, hb5⟩)
              | (go_at_call 15; (with_reducible refine (C2.out _ (bto0 hw5 (by (with_reducible repeat (first | exact Below.refl _ _ | exact hb6 | exact hb5 | exact hb4 | exact hb3 | exact hb2 | exact hb1 | refine bto0 ?_ hb6 | refine bto0 ?_ hb5 | refine bto0 ?_ hb4 | refine bto0 ?_ hb3 | refine bto0 ?_ hb2 | refine bto0 ?_ hb1 | refine bdr ?_ _ | refine Below.drew ?_ | refine ball ?_ _))))).mono ?_); rintro e w11 ⟨rfl, hb6⟩))
          go_wp2
          go_ret
          exact ⟨rfl, bto0 hw5 (by (with_reducible repeat (first | exact Below.refl _ _ | exact hb6 | exact hb5 | exact hb4 | exact hb3 | exact hb2 | exact hb1 | refine bto0 ?_ hb6 | refine bto0 ?_ hb5 | refine bto0 ?_ hb4 | refine bto0 ?_ hb3 | refine bto0 ?_ hb2 | refine bto0 ?_ hb1 | refine bdr ?_ _ | refine Below.drew ?_ | refine ball ?_ _)))⟩
end
end Go.Proofs.Ytilopgfpifhccaa
/-
  Terms: how they come in; their type, as this program has it.
-/
namespace Go.Proofs.Ytilopgfpifhccaa
section
set_option linter.unusedSimpArgs false
set_option linter.unusedVariables false
open Go.RowKit Go.ChangeShapes Go.WideShapes Go.Deep

section
variable {H : Type} {enc : TypeId × Value → H} {P : Program} {w : World} {base : Nat} {spare : Nat → Bool} {held : Bool}
/-- The struct type of terms, as its fields stand. -/
structure TmTy (P : Program) (t : TypeId) where
  fs : Array Field
  tk : TypeId
  ts : TypeId
  tbo : TypeId
  tv : TypeId
  ti : TypeId
  tj : TypeId
  tl : TypeId
  vs : Array Field
  hs : P.underlying t = some (.struct fs)
  hC : P.cellsOf t = 11
  hf : fs.toList.map (fun f => (f.type, f.offset)) = [(tk, 0), (ts, 1), (tbo, 2), (tv, 3), (ts, 6), (ts, 7), (ti, 8), (ti, 9), (tl, 10)]
  hk : P.underlying tk = some (.int .u8) ∧ P.cellsOf tk = 1
  hst : P.underlying ts = some .string ∧ P.cellsOf ts = 1
  hbo : P.underlying tbo = some .bool ∧ P.cellsOf tbo = 1
  hv : P.underlying tv = some (.struct vs) ∧ P.cellsOf tv = 3
  hvo : oneCellFields P vs = true
  hvg : vs.toList.map (·.type) = [tk, tj, ts]
  hj : P.underlying tj = some (.int .i64)
  hi : P.underlying ti = some (.int .i64) ∧ P.cellsOf ti = 1
  hl : P.underlying tl = some (.slice t) ∧ P.cellsOf tl = 1
theorem trod_tm {t : TypeId} (T : TmTy P t) : ∀ (n : Nat) {cs : List Value} {y : DataW H × List MemPlace}, DataW.trod enc P w base spare held n t cs = some y → ∃ v : Tm, cs = v.cells ∧ TmIn w w.heap.size v := by
  intro n
  induction n using Nat.strongRecOn with
  | _ n ih =>
    intro cs y h
    obtain ⟨fs, tk, ts, tbo, tv, ti, tj, tl, vs, hs, hC, hf, ⟨hk, hk1⟩, ⟨hst, hst1⟩, ⟨hbo, hbo1⟩, ⟨hv, hv1⟩, hvo, hvg, hj, ⟨hi, hi1⟩, ⟨hl, hl1⟩⟩ := T
    obtain ⟨xs, m, hm, _, hlen, hxl, hfd⟩ := DataW.trod_struct hs h
    rw [hC] at hlen
    match cs, hlen with
    | [c0, c1, c2, c3, c4, c5, c6, c7, c8, c9, c10], _ =>
      have hfs : fs.size = 9 := by have := congrArg List.length hf; simpa using this
      obtain ⟨l⟩ := fs
      match l, hfs, hf with
      | [f0, f1, f2, f3, f4, f5, f6, f7, f8], _, hf =>
        simp only [List.map_cons, List.map_nil, List.cons.injEq, Prod.mk.injEq, and_true] at hf
        obtain ⟨⟨t0, o0⟩, ⟨t1, o1⟩, ⟨t2, o2⟩, ⟨t3, o3⟩, ⟨t4, o4⟩, ⟨t5, o5⟩, ⟨t6, o6⟩, ⟨t7, o7⟩, ⟨t8, o8⟩⟩ := hf
        match xs, hxl with
        | [y0, y1, y2, y3, y4, y5, y6, y7, y8], _ =>
          have e0 := hfd 0 f0 rfl
          have e1 := hfd 1 f1 rfl
          have e2 := hfd 2 f2 rfl
          have e3 := hfd 3 f3 rfl
          have e4 := hfd 4 f4 rfl
          have e5 := hfd 5 f5 rfl
          have e6 := hfd 6 f6 rfl
          have e7 := hfd 7 f7 rfl
          have e8 := hfd 8 f8 rfl
          rw [o0, t0, hk1] at e0
          rw [o1, t1, hst1] at e1
          rw [o2, t2, hbo1] at e2
          rw [o3, t3, hv1] at e3
          rw [o4, t4, hst1] at e4
          rw [o5, t5, hst1] at e5
          rw [o6, t6, hi1] at e6
          rw [o7, t7, hi1] at e7
          rw [o8, t8, hl1] at e8
          obtain ⟨a0, ha0, _, w0⟩ := DataW.trod_int hk e0
          obtain ⟨a1, ha1, _, w1⟩ := DataW.trod_string hst e1
          obtain ⟨a2, ha2, _⟩ := DataW.trod_bool hbo e2
          obtain ⟨a3, ha3, w3⟩ := trod_val hv hvo hv1 hvg hk hj hst e3
          obtain ⟨a4, ha4, _, w4⟩ := DataW.trod_string hst e4
          obtain ⟨a5, ha5, _, w5⟩ := DataW.trod_string hst e5
          obtain ⟨a6, ha6, _, w6⟩ := DataW.trod_int hi e6
          obtain ⟨a7, ha7, _, w7⟩ := DataW.trod_int hi e7
          obtain ⟨A, len, cap, L, hcs, h1, h2, h3, h4, h5⟩ := trod_slF (fun c => ∃ v : Tm, c = v.cells ∧ TmIn w w.heap.size v) hl hC (by omega) (fun m' c y hm' hc _ => ih m' (by omega) hc) e8
          obtain ⟨args, rfl, hargs⟩ := tms_of L fun c hc => (h4 c hc).1
          have hfl : (args.map Tm.cells).flatMap id = vT args := by unfold vT; rw [List.flatMap_map]; rfl
          rw [hfl] at h5
          simp [Vl.cells] at ha0 ha1 ha2 ha3 ha4 ha5 ha6 ha7 hcs
          obtain ⟨rfl, rfl, rfl⟩ := ha3
          subst ha0; subst ha1; subst ha2; subst ha4; subst ha5; subst ha6; subst ha7; subst hcs
          exact ⟨.mk ⟨a0, a1, a2, a3, a4, a5, a6, a7⟩ A len cap args, rfl, .mk _ A len cap args ⟨Go.bounds_u8 w0, w1, w3, w4, w5, Go.bounds_i64 w6, Go.bounds_i64 w7⟩ h1 h2 h5 hargs⟩
/-- A slice of terms that came in. -/
theorem trod_tms {t tl : TypeId} (T : TmTy P t) (ht : P.underlying tl = some (.slice t)) {n : Nat} {cs : List Value} {y : DataW H × List MemPlace} (h : DataW.trod enc P w base spare held n tl cs = some y) :
    ∃ (A : Option Addr) (len cap : Nat) (l : List Tm), cs = [.slice A len cap] ∧ len ≤ cap ∧ cap ≤ maxLen ∧ l.length = len ∧ (∀ v ∈ l, TmIn w w.heap.size v) ∧ Reads w w.heap.size 11 A len (vT l) := by
  obtain ⟨A, len, cap, L, rfl, h1, h2, h3, h4, h5⟩ := trod_sl (fun c => ∃ v : Tm, c = v.cells ∧ TmIn w w.heap.size v) ht T.hC (by omega) (fun m c y hc _ => trod_tm T m hc) h
  obtain ⟨l, rfl, hl⟩ := tms_of L fun c hc => (h4 c hc).1
  refine ⟨A, len, cap, l, rfl, h1, h2, by simpa using h3, hl, ?_⟩
  have : (l.map Tm.cells).flatMap id = vT l := by unfold vT; rw [List.flatMap_map]; rfl
  rwa [this] at h5
end
def Try.tmTy : TmTy Try.prog 26 := ⟨_, 5, 9, 4, 23, 3, 2, 24, _, Try.underlying26, by kernel_rfl, rfl, ⟨Try.underlying5, by kernel_rfl⟩, ⟨Try.underlying9, by kernel_rfl⟩, ⟨Try.underlying4, by kernel_rfl⟩, ⟨Try.underlying23, by kernel_rfl⟩, by kernel_rfl, rfl, Try.underlying2, ⟨Try.underlying3, by kernel_rfl⟩, ⟨Try.underlying24, by kernel_rfl⟩⟩
end
end Go.Proofs.Ytilopgfpifhccaa
/-
  Rows, and a term by itself, as they come in.
-/
namespace Go.Proofs.Ytilopgfpifhccaa
section
set_option linter.unusedSimpArgs false
set_option linter.unusedVariables false
open Go.RowKit Go.ChangeShapes Go.WideShapes Go.Deep

theorem ex_of18 {α : Type} (f : α → List Value) (Q : α → Prop) : ∀ (L : List (List Value)), (∀ c ∈ L, ∃ v : α, c = f v ∧ Q v) → ∃ l : List α, L = l.map f ∧ ∀ v ∈ l, Q v := by
  intro L
  induction L with
  | nil => intro _; exact ⟨[], rfl, by simp⟩
  | cons c r ih =>
    intro hL
    obtain ⟨v, rfl, hv⟩ := hL c (by simp)
    obtain ⟨l, rfl, hl⟩ := ih fun c hc => hL c (by simp [hc])
    exact ⟨v :: l, rfl, by intro u hu; rcases List.mem_cons.1 hu with rfl | hu; exact hv; exact hl u hu⟩
theorem flat_one18 {α : Type} (f : α → Value) : ∀ l : List α, (l.map (fun v => [f v])).flatMap id = l.map f
  | [] => rfl
  | a :: r => by rw [List.map_cons, List.flatMap_cons, flat_one18 f r]; rfl
section
variable {H : Type} {enc : TypeId × Value → H} {P : Program} {w : World} {base : Nat} {spare : Nat → Bool} {held : Bool}
structure RwTy (P : Program) (t : TypeId) where
  fv : Array Field
  tr : TypeId
  tv : TypeId
  tk : TypeId
  ti : TypeId
  ts : TypeId
  hrs : P.underlying t = some (.slice tr)
  hr : P.underlying tr = some (.slice tv) ∧ P.cellsOf tr = 1
  hv : P.underlying tv = some (.struct fv)
  hone : oneCellFields P fv = true
  hvC : P.cellsOf tv = 3
  hvf : fv.toList.map (·.type) = [tk, ti, ts]
  hk : P.underlying tk = some (.int .u8)
  hi : P.underlying ti = some (.int .i64)
  hst : P.underlying ts = some .string
theorem trod_rows {t : TypeId} (T : RwTy P t) {n : Nat} {cs : List Value} {y : DataW H × List MemPlace} (h : DataW.trod enc P w base spare held n t cs = some y) :
    ∃ (A : Option Addr) (len cap : Nat) (l : List Rv), cs = [.slice A len cap] ∧ len ≤ cap ∧ cap ≤ maxLen ∧ RowsIn w A len l := by
  obtain ⟨A1, n1, k1, L1, ha1, p1, q1, z1, h4_1, h5_1⟩ := trod_sl (fun c => ∃ r : Rv, c = [.slice r.A r.n r.c] ∧ Reads w w.heap.size 3 r.A r.n (vV r.l) ∧ r.n ≤ maxLen ∧ ∀ v ∈ r.l, v.ok) T.hrs T.hr.2 (by omega) (fun m c y hc _ => by
    obtain ⟨A, len, cap, l, hx, a1, a2, a3, a4, a5⟩ := trod_vals T.hr.1 T.hv T.hone T.hvC T.hvf T.hk T.hi T.hst hc
    exact ⟨⟨A, len, cap, l⟩, hx, a5, Nat.le_trans a1 a2, a4⟩) h
  obtain ⟨l1, rfl, hl1⟩ := ex_of18 (fun r : Rv => [Value.slice r.A r.n r.c]) (fun r => Reads w w.heap.size 3 r.A r.n (vV r.l) ∧ r.n ≤ maxLen ∧ ∀ v ∈ r.l, v.ok) L1 fun c hc => (h4_1 c hc).1
  have hfl1 : (l1.map (fun r : Rv => [Value.slice r.A r.n r.c])).flatMap id = vRv l1 := flat_one18 _ l1
  rw [hfl1] at h5_1
  exact ⟨A1, n1, k1, l1, ha1, p1, q1, h5_1, hl1, Nat.le_trans p1 q1⟩
end
def Try.rwTy : RwTy Try.prog 27 := ⟨_, 28, 23, 5, 2, 9, Try.underlying27, ⟨Try.underlying28, by kernel_rfl⟩, Try.underlying23, by kernel_rfl, by kernel_rfl, rfl, Try.underlying5, Try.underlying2, Try.underlying9⟩
end
end Go.Proofs.Ytilopgfpifhccaa
