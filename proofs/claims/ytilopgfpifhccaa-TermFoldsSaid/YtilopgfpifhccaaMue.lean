/-
  The law TermFolds: its walk.
-/
import Derived.Test.YtilopgfpifhccaaMtw
import Derived.Test.YtilopgfpifhccaaMuc
import Derived.Test.YtilopgfpifhccaaMud
import Derived.Deep.DeepCutAuto
set_option linter.unusedSimpArgs false
set_option linter.unusedVariables false
namespace Go.Proofs.Ytilopgfpifhccaa
open Go.RowKit

/-- What the region of both results leaves. -/
def Cut4 (w W : World) (y : Value) (k2 vk2 vi2 tb2 cl2 : Int) (op2 vs2 of2 nm2 : ByteArray) (no2 : Bool) (A2 : Option Addr) (n2 c2 : Nat) (g : Nat) (s8 s9 : Value) (wx : World) : Prop :=
  ∃ b8 b9 k i s q, y = .agg #[.int .u8 k, .int .i64 i, .string s, .bool q] ∧ s8 = .pointer (some ⟨b8, 0, none⟩) ∧ s9 = .pointer (some ⟨b9, 0, none⟩) ∧ Blk wx b8 36 #[.int .u8 k, .int .i64 i, .string s, .bool q] ∧ Blk wx b9 36 #[.int .u8 k, .int .i64 i, .string s, .bool q] ∧ Below W.heap.size W wx ∧ Below w.heap.size w wx ∧ Blk wx g 26 #[.int .u8 k2, .string op2, .bool no2, .int .u8 vk2, .int .i64 vi2, .string vs2, .string of2, .string nm2, .int .i64 tb2, .int .i64 cl2, .slice A2 n2 c2]

theorem far4 {w : World} {g g' : Nat} {t : TypeId} {cs : Array Value} {v0 v1 v2 v3 : Value} (h : Blk w g t cs) (hne : g ≠ g') : Blk ((((w.setCell ⟨g', 0, none⟩ (v0)).setCell ⟨g', 1, none⟩ (v1)).setCell ⟨g', 2, none⟩ (v2)).setCell ⟨g', 3, none⟩ (v3)) g t cs := (((h.far hne _).far hne _).far hne _).far hne _
theorem set4b {a w : World} {g : Nat} {v0 v1 v2 v3 : Value} (h : Below a.heap.size a w) (hg : a.heap.size ≤ g) : Below a.heap.size a ((((w.setCell ⟨g, 0, none⟩ (v0)).setCell ⟨g, 1, none⟩ (v1)).setCell ⟨g, 2, none⟩ (v2)).setCell ⟨g, 3, none⟩ (v3)) := bset (bset (bset (bset h hg _) hg _) hg _) hg _
theorem foldsHead (t : Tm) (RA : Option Addr) (rn rc : Nat) (rws : List Rv) (TA : Option Addr) (tn tc : Nat) (tot : List Vl) (w : World) (hin : TmIn w w.heap.size t) (hR : RowsIn w RA rn rws) (hT : Reads w w.heap.size 3 TA tn (vV tot)) (htn : tn ≤ maxLen) (htv : ∀ v ∈ tot, v.ok) (hg1 : grT 41 0 t = false) (hg2 : greR rws = false) (hg3 : grV 0 tot = false) :
    ∃ (y : Value), (∃ k i s q, y = .agg #[.int .u8 k, .int .i64 i, .string s, .bool q]) ∧
      (∀ W, Below w.heap.size w W → Calls Try.prog 16 #[t.agg] W (RetF 41 W t)) ∧
      (∀ W, Below w.heap.size w W → Calls Try.prog 11 #[t.agg, .slice RA rn rc, .slice TA tn tc] W (RetB W y)) ∧
      (∀ t' W, Fo 41 t t' → TmIn W W.heap.size t' → Below w.heap.size w W → Calls Try.prog 11 #[t'.agg, .slice RA rn rc, .slice TA tn tc] W (RetB W y)) ∧
      (∀ t' W, Fo 41 t t' → TmIn W W.heap.size t' → Below w.heap.size w W → Calls Try.prog 17 #[t'.agg] W (RetB W (.bool true))) ∧
      (∀ t' W, Fo 41 t t' → TmIn W W.heap.size t' → Below w.heap.size w W → Calls Try.prog 16 #[t'.agg] W (RetF 41 W t')) ∧
      (∀ t' t2 W, Fo 41 t t' → TmIn W W.heap.size t' → Fo 41 t' t2 → TmIn W W.heap.size t2 → Below w.heap.size w W → Calls Try.prog 18 #[t2.agg, t'.agg] W (RetB W (.bool true))) := by
  have hsh := shV_of 41 0 t hg1
  have htv' : ∀ v ∈ tot, okV v := fun v hv => ⟨htv v hv, by have := (grV_small18 (Int.le_refl 0) hg3).1 v hv; omega⟩
  have E := fun (W : World) (hb : Below w.heap.size w W) => (hR.below hb).env hg2 ((hT.below hb).more hb.size) htn htv'
  have I := fun (W : World) (hb : Below w.heap.size w W) => (hin.under hb).more hb.size
  refine ⟨retR (evT (rws.map Rv.l) tot 41 t), ⟨_, _, _, _, rfl⟩, fun W hb => fold18_any 41 t W (I W hb) hsh, fun W hb => reval_any RA rn rc rws TA tn tc tot 41 t W (E W hb) (I W hb) hsh, ?_, ?_, ?_, ?_⟩
  · intro t' W hf hi hb
    rw [← fo_ev (rws.map Rv.l) tot 41 t t' hf]
    exact reval_any RA rn rc rws TA tn tc tot 41 t' W (E W hb) hi (fo_sh 41 t t' w W _ _ hf hin hi hsh)
  · intro t' W hf hi hb
    exact folded_any 41 t' W hi (fo_sh 41 t t' w W _ _ hf hin hi hsh) (fo_fd 41 t t' hf)
  · intro t' W hf hi hb
    exact fold18_any 41 t' W hi (fo_sh 41 t t' w W _ _ hf hin hi hsh)
  · intro t' t2 W hf hi hf2 hi2 hb
    have hs' := fo_sh 41 t t' w W _ _ hf hin hi hsh
    exact same18_any 41 t2 t' W hi2 hi (fo_sh 41 t' t2 W W _ _ hf2 hi hi2 hs') (fo_sm 41 t' t2 hf2 (fo_fd 41 t t' hf))

set_option maxRecDepth 100000 in
set_option maxHeartbeats 16000000 in
theorem termFolds_any (t : Tm) (RA : Option Addr) (rn rc : Nat) (rws : List Rv) (TA : Option Addr) (tn tc : Nat) (tot : List Vl) (w : World) (hin : TmIn w w.heap.size t) (hR : RowsIn w RA rn rws) (hT : Reads w w.heap.size 3 TA tn (vV tot)) (htn : tn ≤ maxLen) (htv : ∀ v ∈ tot, v.ok) :
    Calls Try.prog 4 #[t.agg, .slice RA rn rc, .slice TA tn tc] w (RetB w (.bool true)) := by
  have FX := Lib.hid fun W => fixed18_any W
  have GR := Lib.hid fun (W : World) (hb : Below w.heap.size w W) => great18_any 41 0 t W ((hin.under hb).more hb.size) (by omega) (by omega) (by omega)
  have G2 := Lib.hid fun (W : World) (hb : Below w.heap.size w W) => (hR.below hb).great rc
  have G3 := Lib.hid fun (W : World) (hb : Below w.heap.size w W) => great_any TA tn tc tot W W.heap.size ((hT.below hb).more hb.size) (fun v hv => (htv v hv).2.2) htn
  have hall := foldsHead t RA rn rc rws TA tn tc tot w hin hR hT htn htv
  generalize grT 41 0 t = b1 at GR hall
  generalize greR rws = b2 at G2 hall
  generalize grV 0 tot = b3 at G3 hall
  obtain ⟨Tt, hTt⟩ : ∃ Tt : Tm, Tt = t := ⟨_, rfl⟩
  have HALL := Lib.hid hall
  rw [← hTt] at HALL
  clear hin hR hT htn htv hall
  have HTT := Lib.hid hTt
  clear hTt
  obtain ⟨⟨k0, op0, no0, ⟨vk0, vi0, vs0⟩, of0, nm0, tb0, cl0⟩, A0, n0, c0, l0⟩ := t
  simp only [Tm.agg, TmH.agg, Tm.h, Tm.A, Tm.n, Tm.c] at GR ⊢
  have hb0 : Below w.heap.size w (w.alloc (.cells #[.int .u8 k0, .string op0, .bool no0, .int .u8 vk0, .int .i64 vi0, .string vs0, .string of0, .string nm0, .int .i64 tb0, .int .i64 cl0, .slice A0 n0 c0] 26)) := ball (Below.refl _ _) _
  have hX := Blk.new w 26 #[.int .u8 k0, .string op0, .bool no0, .int .u8 vk0, .int .i64 vi0, .string vs0, .string of0, .string nm0, .int .i64 tb0, .int .i64 cl0, .slice A0 n0 c0]
  have HB : Hid (∀ W, Below (w.alloc (.cells #[.int .u8 k0, .string op0, .bool no0, .int .u8 vk0, .int .i64 vi0, .string vs0, .string of0, .string nm0, .int .i64 tb0, .int .i64 cl0, .slice A0 n0 c0] 26)).heap.size (w.alloc (.cells #[.int .u8 k0, .string op0, .bool no0, .int .u8 vk0, .int .i64 vi0, .string vs0, .string of0, .string nm0, .int .i64 tb0, .int .i64 cl0, .slice A0 n0 c0] 26)) W → W.cell? ⟨w.heap.size, 0, none⟩ = some (.int .u8 k0) ∧ W.cell? ⟨w.heap.size, 1, none⟩ = some (.string op0) ∧ W.cell? ⟨w.heap.size, 2, none⟩ = some (.bool no0) ∧ W.cell? ⟨w.heap.size, 3, none⟩ = some (.int .u8 vk0) ∧ W.cell? ⟨w.heap.size, 4, none⟩ = some (.int .i64 vi0) ∧ W.cell? ⟨w.heap.size, 5, none⟩ = some (.string vs0) ∧ W.cell? ⟨w.heap.size, 6, none⟩ = some (.string of0) ∧ W.cell? ⟨w.heap.size, 7, none⟩ = some (.string nm0) ∧ W.cell? ⟨w.heap.size, 8, none⟩ = some (.int .i64 tb0) ∧ W.cell? ⟨w.heap.size, 9, none⟩ = some (.int .i64 cl0) ∧ W.cell? ⟨w.heap.size, 10, none⟩ = some (.slice A0 n0 c0) ∧ Below w.heap.size w W) := by
    refine Lib.hid fun W hW => ?_
    have hB := blkOf hW (by simp) hX
    exact ⟨hB.cell 0, hB.cell 1, hB.cell 2, hB.cell 3, hB.cell 4, hB.cell 5, hB.cell 6, hB.cell 7, hB.cell 8, hB.cell 9, hB.cell 10, bto0 hb0 hW⟩
  clear hX
  cases b1 with
  | true =>
    clear HALL G2 G3 HB HTT
    go_enter Try.func4, Try.ntmps4
    go_wp2_with fail
    refine (GR.out _ hb0).mono ?_
    rintro e w1 ⟨rfl, hb1⟩
    go_wp2_with fail
    refine (FX.out _).mono ?_
    rintro e w2 ⟨rfl, hb2⟩
    go_wp2
    go_ret
    exact ⟨rfl, bto0 (bto0 hb0 hb1) hb2⟩
  | false =>
    cases b2 with
    | true =>
      clear HALL G3 HB HTT
      go_enter Try.func4, Try.ntmps4
      go_wp2_with fail
      refine (GR.out _ hb0).mono ?_
      rintro e w1 ⟨rfl, hb1⟩
      go_wp2_with fail
      refine (G2.out _ (bto0 hb0 hb1)).mono ?_
      rintro e w2 ⟨rfl, hb2⟩
      go_wp2_with fail
      refine (FX.out _).mono ?_
      rintro e w3 ⟨rfl, hb3⟩
      go_wp2
      go_ret
      exact ⟨rfl, bto0 (bto0 (bto0 hb0 hb1) hb2) hb3⟩
    | false =>
      cases b3 with
      | true =>
        clear HALL HB HTT
        go_enter Try.func4, Try.ntmps4
        go_wp2_with fail
        refine (GR.out _ hb0).mono ?_
        rintro e w1 ⟨rfl, hb1⟩
        go_wp2_with fail
        refine (G2.out _ (bto0 hb0 hb1)).mono ?_
        rintro e w2 ⟨rfl, hb2⟩
        go_wp2_with fail
        refine (G3.out _ (bto0 (bto0 hb0 hb1) hb2)).mono ?_
        rintro e w3 ⟨rfl, rfl⟩
        go_wp2_with fail
        refine (FX.out _).mono ?_
        rintro e w4 ⟨rfl, hb3⟩
        go_wp2
        go_ret
        exact ⟨rfl, bto0 (bto0 (bto0 hb0 hb1) hb2) hb3⟩
      | false =>
        obtain ⟨y, ⟨yk, yi, ys, yq, rfl⟩, F1, E1, E2, D1, F2, S1⟩ := HALL.out rfl rfl rfl
        have hFt : Hid (∀ W, Below w.heap.size w W → Calls Try.prog 16 #[.agg #[.int .u8 k0, .string op0, .bool no0, .int .u8 vk0, .int .i64 vi0, .string vs0, .string of0, .string nm0, .int .i64 tb0, .int .i64 cl0, .slice A0 n0 c0]] W (RetF 41 W Tt)) := Lib.hid fun W hW => by have := F1 W hW; rw [HTT.out] at this ⊢; exact this
        have hEt : Hid (∀ W, Below w.heap.size w W → Calls Try.prog 11 #[.agg #[.int .u8 k0, .string op0, .bool no0, .int .u8 vk0, .int .i64 vi0, .string vs0, .string of0, .string nm0, .int .i64 tb0, .int .i64 cl0, .slice A0 n0 c0], .slice RA rn rc, .slice TA tn tc] W (RetB W (.agg #[.int .u8 yk, .int .i64 yi, .string ys, .bool yq]))) := Lib.hid fun W hW => by have := E1 W hW; rw [HTT.out] at this; exact this
        have E2 := Lib.hid E2
        have D1 := Lib.hid D1
        have F2 := Lib.hid F2
        have S1 := Lib.hid S1
        clear HALL F1 E1 HTT
        go_enter Try.func4, Try.ntmps4
        go_wp2_with fail
        refine (GR.out _ hb0).mono ?_
        rintro e w1 ⟨rfl, hb1⟩
        go_wp2_with fail
        refine (G2.out _ (bto0 hb0 hb1)).mono ?_
        rintro e w2 ⟨rfl, hb2⟩
        have hb02 : Below (w.alloc (.cells #[.int .u8 k0, .string op0, .bool no0, .int .u8 vk0, .int .i64 vi0, .string vs0, .string of0, .string nm0, .int .i64 tb0, .int .i64 cl0, .slice A0 n0 c0] 26)).heap.size (w.alloc (.cells #[.int .u8 k0, .string op0, .bool no0, .int .u8 vk0, .int .i64 vi0, .string vs0, .string of0, .string nm0, .int .i64 tb0, .int .i64 cl0, .slice A0 n0 c0] 26)) w2 := bto0 hb1 hb2
        go_wp2_with fail
        refine (G3.out _ (HB.out _ hb02).2.2.2.2.2.2.2.2.2.2.2).mono ?_
        rintro e w2' ⟨rfl, rfl⟩
        obtain ⟨m0, m1, m2, m3, m4, m5, m6, m7, m8, m9, m10, hw2⟩ := HB.out _ hb02
        have hz2 : w.heap.size < w2.heap.size := by (have := hb02.size); simp at this; omega
        go_wp2_with fail
        refine (hFt.out _ hw2).mono ?_
        rintro e w3 ⟨t', rfl, hfo, htq, hb3⟩
        clear m0 m1 m2 m3 m4 m5 m6 m7 m8 m9 m10
        have hti : TmIn w3 w3.heap.size t' := htq.tin fun b hb => hb.2
        have HFO := Lib.hid hfo
        have hE2 := Lib.hid fun (W : World) (hW : Below w3.heap.size w3 W) (hW0 : Below w.heap.size w W) => E2.out t' W hfo ((hti.under hW).more hW.size) hW0
        have hD1 := Lib.hid fun (W : World) (hW : Below w3.heap.size w3 W) (hW0 : Below w.heap.size w W) => D1.out t' W hfo ((hti.under hW).more hW.size) hW0
        have hF2 := Lib.hid fun (W : World) (hW : Below w3.heap.size w3 W) (hW0 : Below w.heap.size w W) => F2.out t' W hfo ((hti.under hW).more hW.size) hW0
        have hS1 := Lib.hid fun (t2 : Tm) (W : World) (hW : Below w3.heap.size w3 W) (hf : Fo 41 t' t2) (hi2 : TmIn W W.heap.size t2) (hW0 : Below w.heap.size w W) => S1.out t' t2 W hfo ((hti.under hW).more hW.size) hf hi2 hW0
        clear hfo htq hti E2 D1 F2 S1 HFO
        obtain ⟨⟨k2, op2, no2, ⟨vk2, vi2, vs2⟩, of2, nm2, tb2, cl2⟩, A2, n2, c2, l2⟩ := t'
        simp only [Tm.agg, TmH.agg, Tm.h, Tm.A, Tm.n, Tm.c] at hE2 hD1 hF2 hS1 ⊢
        have hF3 : Blk (w3.alloc (.cells #[.int .u8 k2, .string op2, .bool no2, .int .u8 vk2, .int .i64 vi2, .string vs2, .string of2, .string nm2, .int .i64 tb2, .int .i64 cl2, .slice A2 n2 c2] 26)) w3.heap.size 26 #[.int .u8 k2, .string op2, .bool no2, .int .u8 vk2, .int .i64 vi2, .string vs2, .string of2, .string nm2, .int .i64 tb2, .int .i64 cl2, .slice A2 n2 c2] := Blk.new _ _ _
        have hb03 : Below (w.alloc (.cells #[.int .u8 k0, .string op0, .bool no0, .int .u8 vk0, .int .i64 vi0, .string vs0, .string of0, .string nm0, .int .i64 tb0, .int .i64 cl0, .slice A0 n0 c0] 26)).heap.size (w.alloc (.cells #[.int .u8 k0, .string op0, .bool no0, .int .u8 vk0, .int .i64 vi0, .string vs0, .string of0, .string nm0, .int .i64 tb0, .int .i64 cl0, .slice A0 n0 c0] 26)) (w3.alloc (.cells #[.int .u8 k2, .string op2, .bool no2, .int .u8 vk2, .int .i64 vi2, .string vs2, .string of2, .string nm2, .int .i64 tb2, .int .i64 cl2, .slice A2 n2 c2] 26)) := ball (bto0 hb02 hb3) _
        have hbw3 : Below w3.heap.size w3 (w3.alloc (.cells #[.int .u8 k2, .string op2, .bool no2, .int .u8 vk2, .int .i64 vi2, .string vs2, .string of2, .string nm2, .int .i64 tb2, .int .i64 cl2, .slice A2 n2 c2] 26)) := ball (Below.refl _ _) _
        go_wp2_with fail
        obtain ⟨W3, hW3⟩ : ∃ W3, (w3.alloc (.cells #[.int .u8 k2, .string op2, .bool no2, .int .u8 vk2, .int .i64 vi2, .string vs2, .string of2, .string nm2, .int .i64 tb2, .int .i64 cl2, .slice A2 n2 c2] 26)) = W3 := ⟨_, rfl⟩
        rw [hW3] at hF3 hb03 hbw3 ⊢
        clear hW3 hb1 hb2 hb3 hb02 hz2 hw2
        have hw3 := (HB.out _ hb03).2.2.2.2.2.2.2.2.2.2.2
        obtain ⟨m0, m1, m2, m3, m4, m5, m6, m7, m8, m9, m10, _⟩ := HB.out _ hb03
        have hzw : w.heap.size < W3.heap.size := by (have := hb03.size); simp at this; omega
        have hz3 := hF3.lt
        have HS : Hid (∀ w', Below W3.heap.size W3 w' → w'.cell? ⟨w.heap.size, 0, none⟩ = some (.int .u8 k0) ∧ w'.cell? ⟨w.heap.size, 1, none⟩ = some (.string op0) ∧ w'.cell? ⟨w.heap.size, 2, none⟩ = some (.bool no0) ∧ w'.cell? ⟨w.heap.size, 3, none⟩ = some (.int .u8 vk0) ∧ w'.cell? ⟨w.heap.size, 4, none⟩ = some (.int .i64 vi0) ∧ w'.cell? ⟨w.heap.size, 5, none⟩ = some (.string vs0) ∧ w'.cell? ⟨w.heap.size, 6, none⟩ = some (.string of0) ∧ w'.cell? ⟨w.heap.size, 7, none⟩ = some (.string nm0) ∧ w'.cell? ⟨w.heap.size, 8, none⟩ = some (.int .i64 tb0) ∧ w'.cell? ⟨w.heap.size, 9, none⟩ = some (.int .i64 cl0) ∧ w'.cell? ⟨w.heap.size, 10, none⟩ = some (.slice A0 n0 c0) ∧ w'.cell? ⟨w3.heap.size, 0, none⟩ = some (.int .u8 k2) ∧ w'.cell? ⟨w3.heap.size, 1, none⟩ = some (.string op2) ∧ w'.cell? ⟨w3.heap.size, 2, none⟩ = some (.bool no2) ∧ w'.cell? ⟨w3.heap.size, 3, none⟩ = some (.int .u8 vk2) ∧ w'.cell? ⟨w3.heap.size, 4, none⟩ = some (.int .i64 vi2) ∧ w'.cell? ⟨w3.heap.size, 5, none⟩ = some (.string vs2) ∧ w'.cell? ⟨w3.heap.size, 6, none⟩ = some (.string of2) ∧ w'.cell? ⟨w3.heap.size, 7, none⟩ = some (.string nm2) ∧ w'.cell? ⟨w3.heap.size, 8, none⟩ = some (.int .i64 tb2) ∧ w'.cell? ⟨w3.heap.size, 9, none⟩ = some (.int .i64 cl2) ∧ w'.cell? ⟨w3.heap.size, 10, none⟩ = some (.slice A2 n2 c2)) := by
          refine Lib.hid fun W hW => ?_
          obtain ⟨m0, m1, m2, m3, m4, m5, m6, m7, m8, m9, m10, _⟩ := HB.out W (bto0 hb03 hW)
          have hF := blkOf hW hF3.lt hF3
          exact ⟨m0, m1, m2, m3, m4, m5, m6, m7, m8, m9, m10, hF.cell 0, hF.cell 1, hF.cell 2, hF.cell 3, hF.cell 4, hF.cell 5, hF.cell 6, hF.cell 7, hF.cell 8, hF.cell 9, hF.cell 10⟩
        have HF3 := Lib.hid hF3
        clear hF3 m0 m1 m2 m3 m4 m5 m6 m7 m8 m9 m10
        go_cut [8, 9] (fun s8 s9 wx => Cut4 w W3 (.agg #[.int .u8 yk, .int .i64 yi, .string ys, .bool yq]) k2 vk2 vi2 tb2 cl2 op2 vs2 of2 nm2 no2 A2 n2 c2 w3.heap.size s8 s9 wx)
        case first =>
          refine wp_region_held_drew (S := (fun w' => w'.cell? ⟨w.heap.size, 0, none⟩ = some (.int .u8 k0) ∧ w'.cell? ⟨w.heap.size, 1, none⟩ = some (.string op0) ∧ w'.cell? ⟨w.heap.size, 2, none⟩ = some (.bool no0) ∧ w'.cell? ⟨w.heap.size, 3, none⟩ = some (.int .u8 vk0) ∧ w'.cell? ⟨w.heap.size, 4, none⟩ = some (.int .i64 vi0) ∧ w'.cell? ⟨w.heap.size, 5, none⟩ = some (.string vs0) ∧ w'.cell? ⟨w.heap.size, 6, none⟩ = some (.string of0) ∧ w'.cell? ⟨w.heap.size, 7, none⟩ = some (.string nm0) ∧ w'.cell? ⟨w.heap.size, 8, none⟩ = some (.int .i64 tb0) ∧ w'.cell? ⟨w.heap.size, 9, none⟩ = some (.int .i64 cl0) ∧ w'.cell? ⟨w.heap.size, 10, none⟩ = some (.slice A0 n0 c0) ∧ w'.cell? ⟨w3.heap.size, 0, none⟩ = some (.int .u8 k2) ∧ w'.cell? ⟨w3.heap.size, 1, none⟩ = some (.string op2) ∧ w'.cell? ⟨w3.heap.size, 2, none⟩ = some (.bool no2) ∧ w'.cell? ⟨w3.heap.size, 3, none⟩ = some (.int .u8 vk2) ∧ w'.cell? ⟨w3.heap.size, 4, none⟩ = some (.int .i64 vi2) ∧ w'.cell? ⟨w3.heap.size, 5, none⟩ = some (.string vs2) ∧ w'.cell? ⟨w3.heap.size, 6, none⟩ = some (.string of2) ∧ w'.cell? ⟨w3.heap.size, 7, none⟩ = some (.string nm2) ∧ w'.cell? ⟨w3.heap.size, 8, none⟩ = some (.int .i64 tb2) ∧ w'.cell? ⟨w3.heap.size, 9, none⟩ = some (.int .i64 cl2) ∧ w'.cell? ⟨w3.heap.size, 10, none⟩ = some (.slice A2 n2 c2))) (by kernel_rfl) (HS.out _ (Below.refl _ _).drew) (fun hHeld => ?_)
          try dsimp only at hHeld
          refine wpAnyH_take (i := 0) (v := ?_) rfl (by kernel_rfl) (by kernel_rfl) (by kernel_rfl) (fun _ _ _ h => h) (Or.inl ⟨rfl, ?_⟩) hHeld ?_
          rotate_left
          focus (intro wx hSw; (try dsimp only at hSw); (try go_split_ands); go_simp; (try with_reducible rfl))
          try simp only [Act.put, List.getElem_toArray, List.getElem_cons_succ, List.getElem_cons_zero, List.setIfInBounds_toArray, List.set_cons_zero, List.set_cons_succ]
          refine wpAnyH_take (i := 1) (v := ?_) rfl (by kernel_rfl) (by kernel_rfl) (by kernel_rfl) (fun _ _ _ h => h) (Or.inl ⟨rfl, ?_⟩) hHeld ?_
          rotate_left
          focus (intro wx hSw; (try dsimp only at hSw); (try go_split_ands); go_simp; (try with_reducible rfl))
          try simp only [Act.put, List.getElem_toArray, List.getElem_cons_succ, List.getElem_cons_zero, List.setIfInBounds_toArray, List.set_cons_zero, List.set_cons_succ]
          refine wpAnyH_take (i := 2) (v := ?_) rfl (by kernel_rfl) (by kernel_rfl) (by kernel_rfl) (fun _ _ _ h => h) (Or.inl ⟨rfl, ?_⟩) hHeld ?_
          rotate_left
          focus (intro wx hSw; (try dsimp only at hSw); (try go_split_ands); go_simp; (try with_reducible rfl))
          try simp only [Act.put, List.getElem_toArray, List.getElem_cons_succ, List.getElem_cons_zero, List.setIfInBounds_toArray, List.set_cons_zero, List.set_cons_succ]
          refine wpAnyH_take (i := 4) (v := ?_) rfl (by kernel_rfl) (by kernel_rfl) (by kernel_rfl) (fun _ _ _ h => h) (Or.inl ⟨rfl, ?_⟩) hHeld ?_
          rotate_left
          focus (intro wx hSw; (try dsimp only at hSw); (try go_split_ands); go_simp; (try with_reducible rfl))
          try simp only [Act.put, List.getElem_toArray, List.getElem_cons_succ, List.getElem_cons_zero, List.setIfInBounds_toArray, List.set_cons_zero, List.set_cons_succ]
          refine wpAnyH_take (i := 5) (v := ?_) rfl (by kernel_rfl) (by kernel_rfl) (by kernel_rfl) (fun _ _ _ h => h) (Or.inl ⟨rfl, ?_⟩) hHeld ?_
          rotate_left
          focus (intro wx hSw; (try dsimp only at hSw); (try go_split_ands); go_simp; (try with_reducible rfl))
          try simp only [Act.put, List.getElem_toArray, List.getElem_cons_succ, List.getElem_cons_zero, List.setIfInBounds_toArray, List.set_cons_zero, List.set_cons_succ]
          refine wpAnyH_take (i := 6) (v := ?_) rfl (by kernel_rfl) (by kernel_rfl) (by kernel_rfl) (fun _ _ _ h => h) (Or.inl ⟨rfl, ?_⟩) hHeld ?_
          rotate_left
          focus (intro wx hSw; (try dsimp only at hSw); (try go_split_ands); go_simp; (try with_reducible rfl))
          try simp only [Act.put, List.getElem_toArray, List.getElem_cons_succ, List.getElem_cons_zero, List.setIfInBounds_toArray, List.set_cons_zero, List.set_cons_succ]
          refine wpAnyH_ready (rs := [3, 8, 9]) (by kernel_rfl) (by simp) (AllReadyH.cons rfl (fun K hK => ?_) (AllReadyH.cons rfl (fun K hK => ?_) (AllReadyH.cons rfl (fun K hK => ?_) AllReadyH.nil)))
          · go_simp
            (go_at_call 11; (with_reducible refine (hEt.out _ (bto0 hw3 (by with_reducible repeat (first | exact Below.refl _ _ | refine bdr ?_ _ | refine Below.drew ?_ | refine ball ?_ _)))).mono ?_); rintro e w4 ⟨rfl, hb4⟩)
            go_wp2_with fail
            refine hK.out _ _ ?_ (fun hHeld => ?_)
            · ((try dsimp only); (try dsimp only at hHeld); exact HS.out _ (by with_reducible repeat (first | exact Below.refl _ _ | exact hb4 | refine bto0 ?_ hb4 | refine bdr ?_ _ | refine Below.drew ?_ | refine ball ?_ _)))
            clear hK K
            try dsimp only at hHeld
            try simp only [Act.put, List.getElem_toArray, List.getElem_cons_succ, List.getElem_cons_zero, List.setIfInBounds_toArray, List.set_cons_zero, List.set_cons_succ]
            refine wpAnyH_ready (rs := [7, 8, 9]) (by kernel_rfl) (by simp) (AllReadyH.cons rfl (fun K hK => ?_) (AllReadyH.cons rfl (fun K hK => ?_) (AllReadyH.cons rfl (fun K hK => ?_) AllReadyH.nil)))
            · go_simp
              (go_at_call 11; (with_reducible refine (hE2.out _ (bto0 hbw3 (by with_reducible repeat (first | exact Below.refl _ _ | exact hb4 | refine bto0 ?_ hb4 | refine bdr ?_ _ | refine Below.drew ?_ | refine ball ?_ _))) (bto0 hw3 (by with_reducible repeat (first | exact Below.refl _ _ | exact hb4 | refine bto0 ?_ hb4 | refine bdr ?_ _ | refine Below.drew ?_ | refine ball ?_ _)))).mono ?_); rintro e w5 ⟨rfl, hb5⟩)
              have b5t : Below W3.heap.size W3 w5 := (by with_reducible repeat (first | exact Below.refl _ _ | exact hb4 | exact hb5 | refine bto0 ?_ hb4 | refine bto0 ?_ hb5 | refine bdr ?_ _ | refine Below.drew ?_ | refine ball ?_ _))
              have z4 := hb4.size
              have z5 := hb5.size
              try simp at z4
              try simp at z5
              go_wp2_with fail
              refine hK.out _ _ ?_ (fun hHeld => ?_)
              · ((try dsimp only); (try dsimp only at hHeld); exact HS.out _ (by with_reducible repeat (first | exact Below.refl _ _ | exact hb4 | exact hb5 | refine bto0 ?_ hb4 | refine bto0 ?_ hb5 | refine bdr ?_ _ | refine Below.drew ?_ | refine ball ?_ _)))
              clear hK K
              try dsimp only at hHeld
              try simp only [Act.put, List.getElem_toArray, List.getElem_cons_succ, List.getElem_cons_zero, List.setIfInBounds_toArray, List.set_cons_zero, List.set_cons_succ]
              refine wpAnyH_ready (rs := [8, 9]) (by kernel_rfl) (by simp) (AllReadyH.cons rfl (fun K hK => ?_) (AllReadyH.cons rfl (fun K hK => ?_) AllReadyH.nil))
              · go_simp
                refine hK.out _ _ ?_ (fun hHeld => ?_)
                · ((try dsimp only); (try dsimp only at hHeld); exact HS.out _ (by with_reducible repeat (first | exact Below.refl _ _ | exact hb4 | exact hb5 | refine bto0 ?_ hb4 | refine bto0 ?_ hb5 | refine bdr ?_ _ | refine Below.drew ?_ | refine ball ?_ _)))
                clear hK K
                try dsimp only at hHeld
                try simp only [Act.put, List.getElem_toArray, List.getElem_cons_succ, List.getElem_cons_zero, List.setIfInBounds_toArray, List.set_cons_zero, List.set_cons_succ]
                refine wpAnyH_ready (rs := [9]) (by kernel_rfl) (by simp) (AllReadyH.cons rfl (fun K hK => ?_) AllReadyH.nil)
                go_simp
                refine hK.out _ _ ?_ (fun hHeld => ?_)
                · ((try dsimp only); (try dsimp only at hHeld); exact HS.out _ (by with_reducible repeat (first | exact Below.refl _ _ | exact hb4 | exact hb5 | refine bto0 ?_ hb4 | refine bto0 ?_ hb5 | refine bdr ?_ _ | refine Below.drew ?_ | refine ball ?_ _)))
                clear hK K
                try dsimp only at hHeld
                try simp only [Act.put, List.getElem_toArray, List.getElem_cons_succ, List.getElem_cons_zero, List.setIfInBounds_toArray, List.set_cons_zero, List.set_cons_succ]
                refine wpAnyH_ready (rs := [10]) (by kernel_rfl) (by simp) (AllReadyH.cons rfl (fun K hK => ?_) AllReadyH.nil)
                go_simp
                refine hK.out _ _ ?_ (fun hHeld => ?_)
                · ((try dsimp only); (try dsimp only at hHeld); exact HS.out _ (by with_reducible repeat (first | exact Below.refl _ _ | exact hb4 | exact hb5 | refine bto0 ?_ hb4 | refine bto0 ?_ hb5 | refine bdr ?_ _ | refine Below.drew ?_ | refine ball ?_ _)))
                clear hK K
                try dsimp only at hHeld
                try simp only [Act.put, List.getElem_toArray, List.getElem_cons_succ, List.getElem_cons_zero, List.setIfInBounds_toArray, List.set_cons_zero, List.set_cons_succ]
                refine wpAnyH_ready (rs := [11]) (by kernel_rfl) (by simp) (AllReadyH.cons rfl (fun K hK => ?_) AllReadyH.nil)
                go_simp
                refine hK.out _ _ ?_ (fun hHeld => ?_)
                · ((try dsimp only); (try dsimp only at hHeld); exact HS.out _ (by with_reducible repeat (first | exact Below.refl _ _ | exact hb4 | exact hb5 | refine bto0 ?_ hb4 | refine bto0 ?_ hb5 | refine bdr ?_ _ | refine Below.drew ?_ | refine ball ?_ _)))
                clear hK K
                try dsimp only at hHeld
                try simp only [Act.put, List.getElem_toArray, List.getElem_cons_succ, List.getElem_cons_zero, List.setIfInBounds_toArray, List.set_cons_zero, List.set_cons_succ]
                refine wpAnyH_done (by kernel_rfl) ?_ _
                clear hHeld
                obtain ⟨WL, hWL⟩ : ∃ WL, ((w5.alloc (.cells #[.int .u8 yk, .int .i64 yi, .string ys, .bool yq] 36)).alloc (.cells #[.int .u8 yk, .int .i64 yi, .string ys, .bool yq] 36)) = WL := ⟨_, rfl⟩
                have T8 : Blk WL (w5.heap.size) 36 #[.int .u8 yk, .int .i64 yi, .string ys, .bool yq] := hWL ▸ ((Blk.newAt (by simp [World.setCell])).alloc _)
                have T9 : Blk WL (w5.heap.size + 1) 36 #[.int .u8 yk, .int .i64 yi, .string ys, .bool yq] := hWL ▸ (Blk.newAt (by simp [World.setCell]))
                have TF : Blk WL w3.heap.size 26 #[.int .u8 k2, .string op2, .bool no2, .int .u8 vk2, .int .i64 vi2, .string vs2, .string of2, .string nm2, .int .i64 tb2, .int .i64 cl2, .slice A2 n2 c2] := hWL ▸ (((blkOf b5t HF3.out.lt HF3.out).alloc _).alloc _)
                have TB : Below W3.heap.size W3 WL := hWL ▸ (ball (ball b5t _) _)
                rw [hWL]
                clear hWL
                go_wp2_with fail
                go_meet
                exact ⟨w5.heap.size, w5.heap.size + 1, yk, yi, ys, yq, rfl, rfl, rfl, T8, T9, TB, bto0 hw3 TB, TF⟩
              · go_simp
                refine hK.out _ _ ?_ (fun hHeld => ?_)
                · ((try dsimp only); (try dsimp only at hHeld); exact HS.out _ (by with_reducible repeat (first | exact Below.refl _ _ | exact hb4 | exact hb5 | refine bto0 ?_ hb4 | refine bto0 ?_ hb5 | refine bdr ?_ _ | refine Below.drew ?_ | refine ball ?_ _)))
                clear hK K
                try dsimp only at hHeld
                try simp only [Act.put, List.getElem_toArray, List.getElem_cons_succ, List.getElem_cons_zero, List.setIfInBounds_toArray, List.set_cons_zero, List.set_cons_succ]
                refine wpAnyH_ready (rs := [8]) (by kernel_rfl) (by simp) (AllReadyH.cons rfl (fun K hK => ?_) AllReadyH.nil)
                go_simp
                refine hK.out _ _ ?_ (fun hHeld => ?_)
                · ((try dsimp only); (try dsimp only at hHeld); exact HS.out _ (by with_reducible repeat (first | exact Below.refl _ _ | exact hb4 | exact hb5 | refine bto0 ?_ hb4 | refine bto0 ?_ hb5 | refine bdr ?_ _ | refine Below.drew ?_ | refine ball ?_ _)))
                clear hK K
                try dsimp only at hHeld
                try simp only [Act.put, List.getElem_toArray, List.getElem_cons_succ, List.getElem_cons_zero, List.setIfInBounds_toArray, List.set_cons_zero, List.set_cons_succ]
                refine wpAnyH_ready (rs := [10]) (by kernel_rfl) (by simp) (AllReadyH.cons rfl (fun K hK => ?_) AllReadyH.nil)
                go_simp
                refine hK.out _ _ ?_ (fun hHeld => ?_)
                · ((try dsimp only); (try dsimp only at hHeld); exact HS.out _ (by with_reducible repeat (first | exact Below.refl _ _ | exact hb4 | exact hb5 | refine bto0 ?_ hb4 | refine bto0 ?_ hb5 | refine bdr ?_ _ | refine Below.drew ?_ | refine ball ?_ _)))
                clear hK K
                try dsimp only at hHeld
                try simp only [Act.put, List.getElem_toArray, List.getElem_cons_succ, List.getElem_cons_zero, List.setIfInBounds_toArray, List.set_cons_zero, List.set_cons_succ]
                refine wpAnyH_ready (rs := [11]) (by kernel_rfl) (by simp) (AllReadyH.cons rfl (fun K hK => ?_) AllReadyH.nil)
                go_simp
                refine hK.out _ _ ?_ (fun hHeld => ?_)
                · ((try dsimp only); (try dsimp only at hHeld); exact HS.out _ (by with_reducible repeat (first | exact Below.refl _ _ | exact hb4 | exact hb5 | refine bto0 ?_ hb4 | refine bto0 ?_ hb5 | refine bdr ?_ _ | refine Below.drew ?_ | refine ball ?_ _)))
                clear hK K
                try dsimp only at hHeld
                try simp only [Act.put, List.getElem_toArray, List.getElem_cons_succ, List.getElem_cons_zero, List.setIfInBounds_toArray, List.set_cons_zero, List.set_cons_succ]
                refine wpAnyH_done (by kernel_rfl) ?_ _
                clear hHeld
                obtain ⟨WL, hWL⟩ : ∃ WL, ((w5.alloc (.cells #[.int .u8 yk, .int .i64 yi, .string ys, .bool yq] 36)).alloc (.cells #[.int .u8 yk, .int .i64 yi, .string ys, .bool yq] 36)) = WL := ⟨_, rfl⟩
                have T8 : Blk WL (w5.heap.size + 1) 36 #[.int .u8 yk, .int .i64 yi, .string ys, .bool yq] := hWL ▸ (Blk.newAt (by simp [World.setCell]))
                have T9 : Blk WL (w5.heap.size) 36 #[.int .u8 yk, .int .i64 yi, .string ys, .bool yq] := hWL ▸ ((Blk.newAt (by simp [World.setCell])).alloc _)
                have TF : Blk WL w3.heap.size 26 #[.int .u8 k2, .string op2, .bool no2, .int .u8 vk2, .int .i64 vi2, .string vs2, .string of2, .string nm2, .int .i64 tb2, .int .i64 cl2, .slice A2 n2 c2] := hWL ▸ (((blkOf b5t HF3.out.lt HF3.out).alloc _).alloc _)
                have TB : Below W3.heap.size W3 WL := hWL ▸ (ball (ball b5t _) _)
                rw [hWL]
                clear hWL
                go_wp2_with fail
                go_meet
                exact ⟨w5.heap.size + 1, w5.heap.size, yk, yi, ys, yq, rfl, rfl, rfl, T8, T9, TB, bto0 hw3 TB, TF⟩
            · go_simp
              have K8 : Blk (w4.alloc (.cells #[.int .u8 0, .int .i64 0, .string ⟨#[]⟩, .bool false] 36)) (w4.heap.size) 36 #[.int .u8 0, .int .i64 0, .string ⟨#[]⟩, .bool false] := Blk.newAt (by simp)
              refine hK.out _ _ ?_ (fun hHeld => ?_)
              · ((try dsimp only); (try dsimp only at hHeld); exact HS.out _ (by with_reducible repeat (first | exact Below.refl _ _ | exact hb4 | refine bto0 ?_ hb4 | refine bdr ?_ _ | refine Below.drew ?_ | refine ball ?_ _)))
              clear hK K
              try dsimp only at hHeld
              try simp only [Act.put, List.getElem_toArray, List.getElem_cons_succ, List.getElem_cons_zero, List.setIfInBounds_toArray, List.set_cons_zero, List.set_cons_succ]
              refine wpAnyH_ready (rs := [7, 9]) (by kernel_rfl) (by simp) (AllReadyH.cons rfl (fun K hK => ?_) (AllReadyH.cons rfl (fun K hK => ?_) AllReadyH.nil))
              · go_simp
                (go_at_call 11; (with_reducible refine (hE2.out _ (bto0 hbw3 (by with_reducible repeat (first | exact Below.refl _ _ | exact hb4 | refine bto0 ?_ hb4 | refine bdr ?_ _ | refine Below.drew ?_ | refine ball ?_ _))) (bto0 hw3 (by with_reducible repeat (first | exact Below.refl _ _ | exact hb4 | refine bto0 ?_ hb4 | refine bdr ?_ _ | refine Below.drew ?_ | refine ball ?_ _)))).mono ?_); rintro e w5 ⟨rfl, hb5⟩)
                have K8 := K8.below hb5 K8.lt
                have b5t : Below W3.heap.size W3 w5 := (by with_reducible repeat (first | exact Below.refl _ _ | exact hb4 | exact hb5 | refine bto0 ?_ hb4 | refine bto0 ?_ hb5 | refine bdr ?_ _ | refine Below.drew ?_ | refine ball ?_ _))
                have z4 := hb4.size
                have z5 := hb5.size
                try simp at z4
                try simp at z5
                have zt8 : W3.heap.size ≤ w4.heap.size := by omega
                have kl8 := K8.lt
                have y8_0 : w5.cell? ⟨w4.heap.size, 0, none⟩ = some (.int .u8 0) := K8.cell 0
                have f8_0 := K8.frozen 0
                have y8_1 : w5.cell? ⟨w4.heap.size, 1, none⟩ = some (.int .i64 0) := K8.cell 1
                have f8_1 := K8.frozen 1
                have y8_2 : w5.cell? ⟨w4.heap.size, 2, none⟩ = some (.string ⟨#[]⟩) := K8.cell 2
                have f8_2 := K8.frozen 2
                have y8_3 : w5.cell? ⟨w4.heap.size, 3, none⟩ = some (.bool false) := K8.cell 3
                have f8_3 := K8.frozen 3
                go_wp2_with fail
                refine hK.out _ _ ?_ (fun hHeld => ?_)
                · ((try dsimp only); (try dsimp only at hHeld); exact HS.out _ (by with_reducible repeat (first | exact Below.refl _ _ | refine set4b ?_ zt8 | exact hb4 | exact hb5 | refine bto0 ?_ hb4 | refine bto0 ?_ hb5 | refine bdr ?_ _ | refine Below.drew ?_ | refine ball ?_ _)))
                clear hK K
                try dsimp only at hHeld
                try simp only [Act.put, List.getElem_toArray, List.getElem_cons_succ, List.getElem_cons_zero, List.setIfInBounds_toArray, List.set_cons_zero, List.set_cons_succ]
                refine wpAnyH_ready (rs := [9]) (by kernel_rfl) (by simp) (AllReadyH.cons rfl (fun K hK => ?_) AllReadyH.nil)
                go_simp
                refine hK.out _ _ ?_ (fun hHeld => ?_)
                · ((try dsimp only); (try dsimp only at hHeld); exact HS.out _ (by with_reducible repeat (first | exact Below.refl _ _ | refine set4b ?_ zt8 | exact hb4 | exact hb5 | refine bto0 ?_ hb4 | refine bto0 ?_ hb5 | refine bdr ?_ _ | refine Below.drew ?_ | refine ball ?_ _)))
                clear hK K
                try dsimp only at hHeld
                try simp only [Act.put, List.getElem_toArray, List.getElem_cons_succ, List.getElem_cons_zero, List.setIfInBounds_toArray, List.set_cons_zero, List.set_cons_succ]
                refine wpAnyH_ready (rs := [10]) (by kernel_rfl) (by simp) (AllReadyH.cons rfl (fun K hK => ?_) AllReadyH.nil)
                go_simp
                refine hK.out _ _ ?_ (fun hHeld => ?_)
                · ((try dsimp only); (try dsimp only at hHeld); exact HS.out _ (by with_reducible repeat (first | exact Below.refl _ _ | refine set4b ?_ zt8 | exact hb4 | exact hb5 | refine bto0 ?_ hb4 | refine bto0 ?_ hb5 | refine bdr ?_ _ | refine Below.drew ?_ | refine ball ?_ _)))
                clear hK K
                try dsimp only at hHeld
                try simp only [Act.put, List.getElem_toArray, List.getElem_cons_succ, List.getElem_cons_zero, List.setIfInBounds_toArray, List.set_cons_zero, List.set_cons_succ]
                refine wpAnyH_ready (rs := [11]) (by kernel_rfl) (by simp) (AllReadyH.cons rfl (fun K hK => ?_) AllReadyH.nil)
                go_simp
                refine hK.out _ _ ?_ (fun hHeld => ?_)
                · ((try dsimp only); (try dsimp only at hHeld); exact HS.out _ (by with_reducible repeat (first | exact Below.refl _ _ | refine set4b ?_ zt8 | exact hb4 | exact hb5 | refine bto0 ?_ hb4 | refine bto0 ?_ hb5 | refine bdr ?_ _ | refine Below.drew ?_ | refine ball ?_ _)))
                clear hK K
                try dsimp only at hHeld
                try simp only [Act.put, List.getElem_toArray, List.getElem_cons_succ, List.getElem_cons_zero, List.setIfInBounds_toArray, List.set_cons_zero, List.set_cons_succ]
                refine wpAnyH_done (by kernel_rfl) ?_ _
                clear hHeld
                obtain ⟨WL, hWL⟩ : ∃ WL, (((((w5.setCell ⟨w4.heap.size, 0, none⟩ (.int .u8 yk)).setCell ⟨w4.heap.size, 1, none⟩ (.int .i64 yi)).setCell ⟨w4.heap.size, 2, none⟩ (.string ys)).setCell ⟨w4.heap.size, 3, none⟩ (.bool yq)).alloc (.cells #[.int .u8 yk, .int .i64 yi, .string ys, .bool yq] 36)) = WL := ⟨_, rfl⟩
                have T8 : Blk WL (w4.heap.size) 36 #[.int .u8 yk, .int .i64 yi, .string ys, .bool yq] := hWL ▸ ((blk4 K8).alloc _)
                have T9 : Blk WL (w5.heap.size) 36 #[.int .u8 yk, .int .i64 yi, .string ys, .bool yq] := hWL ▸ (Blk.newAt (by simp [World.setCell]))
                have TF : Blk WL w3.heap.size 26 #[.int .u8 k2, .string op2, .bool no2, .int .u8 vk2, .int .i64 vi2, .string vs2, .string of2, .string nm2, .int .i64 tb2, .int .i64 cl2, .slice A2 n2 c2] := hWL ▸ ((far4 (blkOf b5t HF3.out.lt HF3.out) (by omega)).alloc _)
                have TB : Below W3.heap.size W3 WL := hWL ▸ (ball (set4b b5t zt8) _)
                rw [hWL]
                clear hWL
                go_wp2_with fail
                go_meet
                exact ⟨w4.heap.size, w5.heap.size, yk, yi, ys, yq, rfl, rfl, rfl, T8, T9, TB, bto0 hw3 TB, TF⟩
              · go_simp
                have K9 : Blk ((w4.alloc (.cells #[.int .u8 0, .int .i64 0, .string ⟨#[]⟩, .bool false] 36)).alloc (.cells #[.int .u8 0, .int .i64 0, .string ⟨#[]⟩, .bool false] 36)) (w4.heap.size + 1) 36 #[.int .u8 0, .int .i64 0, .string ⟨#[]⟩, .bool false] := Blk.newAt (by simp)
                have K8 := K8.alloc (.cells #[.int .u8 0, .int .i64 0, .string ⟨#[]⟩, .bool false] 36)
                refine hK.out _ _ ?_ (fun hHeld => ?_)
                · ((try dsimp only); (try dsimp only at hHeld); exact HS.out _ (by with_reducible repeat (first | exact Below.refl _ _ | exact hb4 | refine bto0 ?_ hb4 | refine bdr ?_ _ | refine Below.drew ?_ | refine ball ?_ _)))
                clear hK K
                try dsimp only at hHeld
                try simp only [Act.put, List.getElem_toArray, List.getElem_cons_succ, List.getElem_cons_zero, List.setIfInBounds_toArray, List.set_cons_zero, List.set_cons_succ]
                refine wpAnyH_ready (rs := [7]) (by kernel_rfl) (by simp) (AllReadyH.cons rfl (fun K hK => ?_) AllReadyH.nil)
                go_simp
                (go_at_call 11; (with_reducible refine (hE2.out _ (bto0 hbw3 (by with_reducible repeat (first | exact Below.refl _ _ | exact hb4 | refine bto0 ?_ hb4 | refine bdr ?_ _ | refine Below.drew ?_ | refine ball ?_ _))) (bto0 hw3 (by with_reducible repeat (first | exact Below.refl _ _ | exact hb4 | refine bto0 ?_ hb4 | refine bdr ?_ _ | refine Below.drew ?_ | refine ball ?_ _)))).mono ?_); rintro e w5 ⟨rfl, hb5⟩)
                have K8 := K8.below hb5 K8.lt
                have K9 := K9.below hb5 K9.lt
                have b5t : Below W3.heap.size W3 w5 := (by with_reducible repeat (first | exact Below.refl _ _ | exact hb4 | exact hb5 | refine bto0 ?_ hb4 | refine bto0 ?_ hb5 | refine bdr ?_ _ | refine Below.drew ?_ | refine ball ?_ _))
                have z4 := hb4.size
                have z5 := hb5.size
                try simp at z4
                try simp at z5
                have zt8 : W3.heap.size ≤ w4.heap.size := by omega
                have kl8 := K8.lt
                have y8_0 : w5.cell? ⟨w4.heap.size, 0, none⟩ = some (.int .u8 0) := K8.cell 0
                have f8_0 := K8.frozen 0
                have y8_1 : w5.cell? ⟨w4.heap.size, 1, none⟩ = some (.int .i64 0) := K8.cell 1
                have f8_1 := K8.frozen 1
                have y8_2 : w5.cell? ⟨w4.heap.size, 2, none⟩ = some (.string ⟨#[]⟩) := K8.cell 2
                have f8_2 := K8.frozen 2
                have y8_3 : w5.cell? ⟨w4.heap.size, 3, none⟩ = some (.bool false) := K8.cell 3
                have f8_3 := K8.frozen 3
                have zt9 : W3.heap.size ≤ w4.heap.size + 1 := by omega
                have kl9 := K9.lt
                have y9_0 : w5.cell? ⟨w4.heap.size + 1, 0, none⟩ = some (.int .u8 0) := K9.cell 0
                have f9_0 := K9.frozen 0
                have y9_1 : w5.cell? ⟨w4.heap.size + 1, 1, none⟩ = some (.int .i64 0) := K9.cell 1
                have f9_1 := K9.frozen 1
                have y9_2 : w5.cell? ⟨w4.heap.size + 1, 2, none⟩ = some (.string ⟨#[]⟩) := K9.cell 2
                have f9_2 := K9.frozen 2
                have y9_3 : w5.cell? ⟨w4.heap.size + 1, 3, none⟩ = some (.bool false) := K9.cell 3
                have f9_3 := K9.frozen 3
                have ne98 : w4.heap.size + 1 ≠ w4.heap.size := by omega
                have K9s : Blk ((((w5.setCell ⟨w4.heap.size, 0, none⟩ (.int .u8 yk)).setCell ⟨w4.heap.size, 1, none⟩ (.int .i64 yi)).setCell ⟨w4.heap.size, 2, none⟩ (.string ys)).setCell ⟨w4.heap.size, 3, none⟩ (.bool yq)) (w4.heap.size + 1) 36 #[.int .u8 0, .int .i64 0, .string ⟨#[]⟩, .bool false] := far4 K9 ne98
                have ys_0 := K9s.cell 0
                have fs_0 := K9s.frozen 0
                have ys_1 := K9s.cell 1
                have fs_1 := K9s.frozen 1
                have ys_2 := K9s.cell 2
                have fs_2 := K9s.frozen 2
                have ys_3 := K9s.cell 3
                have fs_3 := K9s.frozen 3
                go_wp2_with fail
                refine hK.out _ _ ?_ (fun hHeld => ?_)
                · ((try dsimp only); (try dsimp only at hHeld); exact HS.out _ (by with_reducible repeat (first | exact Below.refl _ _ | refine set4b ?_ zt8 | refine set4b ?_ zt9 | exact hb4 | exact hb5 | refine bto0 ?_ hb4 | refine bto0 ?_ hb5 | refine bdr ?_ _ | refine Below.drew ?_ | refine ball ?_ _)))
                clear hK K
                try dsimp only at hHeld
                try simp only [Act.put, List.getElem_toArray, List.getElem_cons_succ, List.getElem_cons_zero, List.setIfInBounds_toArray, List.set_cons_zero, List.set_cons_succ]
                refine wpAnyH_ready (rs := [10]) (by kernel_rfl) (by simp) (AllReadyH.cons rfl (fun K hK => ?_) AllReadyH.nil)
                go_simp
                refine hK.out _ _ ?_ (fun hHeld => ?_)
                · ((try dsimp only); (try dsimp only at hHeld); exact HS.out _ (by with_reducible repeat (first | exact Below.refl _ _ | refine set4b ?_ zt8 | refine set4b ?_ zt9 | exact hb4 | exact hb5 | refine bto0 ?_ hb4 | refine bto0 ?_ hb5 | refine bdr ?_ _ | refine Below.drew ?_ | refine ball ?_ _)))
                clear hK K
                try dsimp only at hHeld
                try simp only [Act.put, List.getElem_toArray, List.getElem_cons_succ, List.getElem_cons_zero, List.setIfInBounds_toArray, List.set_cons_zero, List.set_cons_succ]
                refine wpAnyH_ready (rs := [11]) (by kernel_rfl) (by simp) (AllReadyH.cons rfl (fun K hK => ?_) AllReadyH.nil)
                go_simp
                refine hK.out _ _ ?_ (fun hHeld => ?_)
                · ((try dsimp only); (try dsimp only at hHeld); exact HS.out _ (by with_reducible repeat (first | exact Below.refl _ _ | refine set4b ?_ zt8 | refine set4b ?_ zt9 | exact hb4 | exact hb5 | refine bto0 ?_ hb4 | refine bto0 ?_ hb5 | refine bdr ?_ _ | refine Below.drew ?_ | refine ball ?_ _)))
                clear hK K
                try dsimp only at hHeld
                try simp only [Act.put, List.getElem_toArray, List.getElem_cons_succ, List.getElem_cons_zero, List.setIfInBounds_toArray, List.set_cons_zero, List.set_cons_succ]
                refine wpAnyH_done (by kernel_rfl) ?_ _
                clear hHeld
                obtain ⟨WL, hWL⟩ : ∃ WL, ((((((((w5.setCell ⟨w4.heap.size, 0, none⟩ (.int .u8 yk)).setCell ⟨w4.heap.size, 1, none⟩ (.int .i64 yi)).setCell ⟨w4.heap.size, 2, none⟩ (.string ys)).setCell ⟨w4.heap.size, 3, none⟩ (.bool yq)).setCell ⟨w4.heap.size + 1, 0, none⟩ (.int .u8 yk)).setCell ⟨w4.heap.size + 1, 1, none⟩ (.int .i64 yi)).setCell ⟨w4.heap.size + 1, 2, none⟩ (.string ys)).setCell ⟨w4.heap.size + 1, 3, none⟩ (.bool yq)) = WL := ⟨_, rfl⟩
                have T8 : Blk WL (w4.heap.size) 36 #[.int .u8 yk, .int .i64 yi, .string ys, .bool yq] := hWL ▸ (far4 (blk4 K8) (by omega))
                have T9 : Blk WL (w4.heap.size + 1) 36 #[.int .u8 yk, .int .i64 yi, .string ys, .bool yq] := hWL ▸ (blk4 (far4 K9 (by omega)))
                have TF : Blk WL w3.heap.size 26 #[.int .u8 k2, .string op2, .bool no2, .int .u8 vk2, .int .i64 vi2, .string vs2, .string of2, .string nm2, .int .i64 tb2, .int .i64 cl2, .slice A2 n2 c2] := hWL ▸ (far4 (far4 (blkOf b5t HF3.out.lt HF3.out) (by omega)) (by omega))
                have TB : Below W3.heap.size W3 WL := hWL ▸ (set4b (set4b b5t zt8) zt9)
                rw [hWL]
                clear hWL
                go_wp2_with fail
                go_meet
                exact ⟨w4.heap.size, w4.heap.size + 1, yk, yi, ys, yq, rfl, rfl, rfl, T8, T9, TB, bto0 hw3 TB, TF⟩
            · go_simp
              have K9 : Blk (w4.alloc (.cells #[.int .u8 0, .int .i64 0, .string ⟨#[]⟩, .bool false] 36)) (w4.heap.size) 36 #[.int .u8 0, .int .i64 0, .string ⟨#[]⟩, .bool false] := Blk.newAt (by simp)
              refine hK.out _ _ ?_ (fun hHeld => ?_)
              · ((try dsimp only); (try dsimp only at hHeld); exact HS.out _ (by with_reducible repeat (first | exact Below.refl _ _ | exact hb4 | refine bto0 ?_ hb4 | refine bdr ?_ _ | refine Below.drew ?_ | refine ball ?_ _)))
              clear hK K
              try dsimp only at hHeld
              try simp only [Act.put, List.getElem_toArray, List.getElem_cons_succ, List.getElem_cons_zero, List.setIfInBounds_toArray, List.set_cons_zero, List.set_cons_succ]
              refine wpAnyH_ready (rs := [7, 8]) (by kernel_rfl) (by simp) (AllReadyH.cons rfl (fun K hK => ?_) (AllReadyH.cons rfl (fun K hK => ?_) AllReadyH.nil))
              · go_simp
                (go_at_call 11; (with_reducible refine (hE2.out _ (bto0 hbw3 (by with_reducible repeat (first | exact Below.refl _ _ | exact hb4 | refine bto0 ?_ hb4 | refine bdr ?_ _ | refine Below.drew ?_ | refine ball ?_ _))) (bto0 hw3 (by with_reducible repeat (first | exact Below.refl _ _ | exact hb4 | refine bto0 ?_ hb4 | refine bdr ?_ _ | refine Below.drew ?_ | refine ball ?_ _)))).mono ?_); rintro e w5 ⟨rfl, hb5⟩)
                have K9 := K9.below hb5 K9.lt
                have b5t : Below W3.heap.size W3 w5 := (by with_reducible repeat (first | exact Below.refl _ _ | exact hb4 | exact hb5 | refine bto0 ?_ hb4 | refine bto0 ?_ hb5 | refine bdr ?_ _ | refine Below.drew ?_ | refine ball ?_ _))
                have z4 := hb4.size
                have z5 := hb5.size
                try simp at z4
                try simp at z5
                have zt9 : W3.heap.size ≤ w4.heap.size := by omega
                have kl9 := K9.lt
                have y9_0 : w5.cell? ⟨w4.heap.size, 0, none⟩ = some (.int .u8 0) := K9.cell 0
                have f9_0 := K9.frozen 0
                have y9_1 : w5.cell? ⟨w4.heap.size, 1, none⟩ = some (.int .i64 0) := K9.cell 1
                have f9_1 := K9.frozen 1
                have y9_2 : w5.cell? ⟨w4.heap.size, 2, none⟩ = some (.string ⟨#[]⟩) := K9.cell 2
                have f9_2 := K9.frozen 2
                have y9_3 : w5.cell? ⟨w4.heap.size, 3, none⟩ = some (.bool false) := K9.cell 3
                have f9_3 := K9.frozen 3
                go_wp2_with fail
                refine hK.out _ _ ?_ (fun hHeld => ?_)
                · ((try dsimp only); (try dsimp only at hHeld); exact HS.out _ (by with_reducible repeat (first | exact Below.refl _ _ | refine set4b ?_ zt9 | exact hb4 | exact hb5 | refine bto0 ?_ hb4 | refine bto0 ?_ hb5 | refine bdr ?_ _ | refine Below.drew ?_ | refine ball ?_ _)))
                clear hK K
                try dsimp only at hHeld
                try simp only [Act.put, List.getElem_toArray, List.getElem_cons_succ, List.getElem_cons_zero, List.setIfInBounds_toArray, List.set_cons_zero, List.set_cons_succ]
                refine wpAnyH_ready (rs := [8]) (by kernel_rfl) (by simp) (AllReadyH.cons rfl (fun K hK => ?_) AllReadyH.nil)
                go_simp
                refine hK.out _ _ ?_ (fun hHeld => ?_)
                · ((try dsimp only); (try dsimp only at hHeld); exact HS.out _ (by with_reducible repeat (first | exact Below.refl _ _ | refine set4b ?_ zt9 | exact hb4 | exact hb5 | refine bto0 ?_ hb4 | refine bto0 ?_ hb5 | refine bdr ?_ _ | refine Below.drew ?_ | refine ball ?_ _)))
                clear hK K
                try dsimp only at hHeld
                try simp only [Act.put, List.getElem_toArray, List.getElem_cons_succ, List.getElem_cons_zero, List.setIfInBounds_toArray, List.set_cons_zero, List.set_cons_succ]
                refine wpAnyH_ready (rs := [10]) (by kernel_rfl) (by simp) (AllReadyH.cons rfl (fun K hK => ?_) AllReadyH.nil)
                go_simp
                refine hK.out _ _ ?_ (fun hHeld => ?_)
                · ((try dsimp only); (try dsimp only at hHeld); exact HS.out _ (by with_reducible repeat (first | exact Below.refl _ _ | refine set4b ?_ zt9 | exact hb4 | exact hb5 | refine bto0 ?_ hb4 | refine bto0 ?_ hb5 | refine bdr ?_ _ | refine Below.drew ?_ | refine ball ?_ _)))
                clear hK K
                try dsimp only at hHeld
                try simp only [Act.put, List.getElem_toArray, List.getElem_cons_succ, List.getElem_cons_zero, List.setIfInBounds_toArray, List.set_cons_zero, List.set_cons_succ]
                refine wpAnyH_ready (rs := [11]) (by kernel_rfl) (by simp) (AllReadyH.cons rfl (fun K hK => ?_) AllReadyH.nil)
                go_simp
                refine hK.out _ _ ?_ (fun hHeld => ?_)
                · ((try dsimp only); (try dsimp only at hHeld); exact HS.out _ (by with_reducible repeat (first | exact Below.refl _ _ | refine set4b ?_ zt9 | exact hb4 | exact hb5 | refine bto0 ?_ hb4 | refine bto0 ?_ hb5 | refine bdr ?_ _ | refine Below.drew ?_ | refine ball ?_ _)))
                clear hK K
                try dsimp only at hHeld
                try simp only [Act.put, List.getElem_toArray, List.getElem_cons_succ, List.getElem_cons_zero, List.setIfInBounds_toArray, List.set_cons_zero, List.set_cons_succ]
                refine wpAnyH_done (by kernel_rfl) ?_ _
                clear hHeld
                obtain ⟨WL, hWL⟩ : ∃ WL, (((((w5.setCell ⟨w4.heap.size, 0, none⟩ (.int .u8 yk)).setCell ⟨w4.heap.size, 1, none⟩ (.int .i64 yi)).setCell ⟨w4.heap.size, 2, none⟩ (.string ys)).setCell ⟨w4.heap.size, 3, none⟩ (.bool yq)).alloc (.cells #[.int .u8 yk, .int .i64 yi, .string ys, .bool yq] 36)) = WL := ⟨_, rfl⟩
                have T8 : Blk WL (w5.heap.size) 36 #[.int .u8 yk, .int .i64 yi, .string ys, .bool yq] := hWL ▸ (Blk.newAt (by simp [World.setCell]))
                have T9 : Blk WL (w4.heap.size) 36 #[.int .u8 yk, .int .i64 yi, .string ys, .bool yq] := hWL ▸ ((blk4 K9).alloc _)
                have TF : Blk WL w3.heap.size 26 #[.int .u8 k2, .string op2, .bool no2, .int .u8 vk2, .int .i64 vi2, .string vs2, .string of2, .string nm2, .int .i64 tb2, .int .i64 cl2, .slice A2 n2 c2] := hWL ▸ ((far4 (blkOf b5t HF3.out.lt HF3.out) (by omega)).alloc _)
                have TB : Below W3.heap.size W3 WL := hWL ▸ (ball (set4b b5t zt9) _)
                rw [hWL]
                clear hWL
                go_wp2_with fail
                go_meet
                exact ⟨w5.heap.size, w4.heap.size, yk, yi, ys, yq, rfl, rfl, rfl, T8, T9, TB, bto0 hw3 TB, TF⟩
              · go_simp
                have K8 : Blk ((w4.alloc (.cells #[.int .u8 0, .int .i64 0, .string ⟨#[]⟩, .bool false] 36)).alloc (.cells #[.int .u8 0, .int .i64 0, .string ⟨#[]⟩, .bool false] 36)) (w4.heap.size + 1) 36 #[.int .u8 0, .int .i64 0, .string ⟨#[]⟩, .bool false] := Blk.newAt (by simp)
                have K9 := K9.alloc (.cells #[.int .u8 0, .int .i64 0, .string ⟨#[]⟩, .bool false] 36)
                refine hK.out _ _ ?_ (fun hHeld => ?_)
                · ((try dsimp only); (try dsimp only at hHeld); exact HS.out _ (by with_reducible repeat (first | exact Below.refl _ _ | exact hb4 | refine bto0 ?_ hb4 | refine bdr ?_ _ | refine Below.drew ?_ | refine ball ?_ _)))
                clear hK K
                try dsimp only at hHeld
                try simp only [Act.put, List.getElem_toArray, List.getElem_cons_succ, List.getElem_cons_zero, List.setIfInBounds_toArray, List.set_cons_zero, List.set_cons_succ]
                refine wpAnyH_ready (rs := [7]) (by kernel_rfl) (by simp) (AllReadyH.cons rfl (fun K hK => ?_) AllReadyH.nil)
                go_simp
                (go_at_call 11; (with_reducible refine (hE2.out _ (bto0 hbw3 (by with_reducible repeat (first | exact Below.refl _ _ | exact hb4 | refine bto0 ?_ hb4 | refine bdr ?_ _ | refine Below.drew ?_ | refine ball ?_ _))) (bto0 hw3 (by with_reducible repeat (first | exact Below.refl _ _ | exact hb4 | refine bto0 ?_ hb4 | refine bdr ?_ _ | refine Below.drew ?_ | refine ball ?_ _)))).mono ?_); rintro e w5 ⟨rfl, hb5⟩)
                have K9 := K9.below hb5 K9.lt
                have K8 := K8.below hb5 K8.lt
                have b5t : Below W3.heap.size W3 w5 := (by with_reducible repeat (first | exact Below.refl _ _ | exact hb4 | exact hb5 | refine bto0 ?_ hb4 | refine bto0 ?_ hb5 | refine bdr ?_ _ | refine Below.drew ?_ | refine ball ?_ _))
                have z4 := hb4.size
                have z5 := hb5.size
                try simp at z4
                try simp at z5
                have zt9 : W3.heap.size ≤ w4.heap.size := by omega
                have kl9 := K9.lt
                have y9_0 : w5.cell? ⟨w4.heap.size, 0, none⟩ = some (.int .u8 0) := K9.cell 0
                have f9_0 := K9.frozen 0
                have y9_1 : w5.cell? ⟨w4.heap.size, 1, none⟩ = some (.int .i64 0) := K9.cell 1
                have f9_1 := K9.frozen 1
                have y9_2 : w5.cell? ⟨w4.heap.size, 2, none⟩ = some (.string ⟨#[]⟩) := K9.cell 2
                have f9_2 := K9.frozen 2
                have y9_3 : w5.cell? ⟨w4.heap.size, 3, none⟩ = some (.bool false) := K9.cell 3
                have f9_3 := K9.frozen 3
                have zt8 : W3.heap.size ≤ w4.heap.size + 1 := by omega
                have kl8 := K8.lt
                have y8_0 : w5.cell? ⟨w4.heap.size + 1, 0, none⟩ = some (.int .u8 0) := K8.cell 0
                have f8_0 := K8.frozen 0
                have y8_1 : w5.cell? ⟨w4.heap.size + 1, 1, none⟩ = some (.int .i64 0) := K8.cell 1
                have f8_1 := K8.frozen 1
                have y8_2 : w5.cell? ⟨w4.heap.size + 1, 2, none⟩ = some (.string ⟨#[]⟩) := K8.cell 2
                have f8_2 := K8.frozen 2
                have y8_3 : w5.cell? ⟨w4.heap.size + 1, 3, none⟩ = some (.bool false) := K8.cell 3
                have f8_3 := K8.frozen 3
                have ne98 : w4.heap.size ≠ w4.heap.size + 1 := by omega
                have K9s : Blk ((((w5.setCell ⟨w4.heap.size + 1, 0, none⟩ (.int .u8 yk)).setCell ⟨w4.heap.size + 1, 1, none⟩ (.int .i64 yi)).setCell ⟨w4.heap.size + 1, 2, none⟩ (.string ys)).setCell ⟨w4.heap.size + 1, 3, none⟩ (.bool yq)) (w4.heap.size) 36 #[.int .u8 0, .int .i64 0, .string ⟨#[]⟩, .bool false] := far4 K9 ne98
                have ys_0 := K9s.cell 0
                have fs_0 := K9s.frozen 0
                have ys_1 := K9s.cell 1
                have fs_1 := K9s.frozen 1
                have ys_2 := K9s.cell 2
                have fs_2 := K9s.frozen 2
                have ys_3 := K9s.cell 3
                have fs_3 := K9s.frozen 3
                go_wp2_with fail
                refine hK.out _ _ ?_ (fun hHeld => ?_)
                · ((try dsimp only); (try dsimp only at hHeld); exact HS.out _ (by with_reducible repeat (first | exact Below.refl _ _ | refine set4b ?_ zt9 | refine set4b ?_ zt8 | exact hb4 | exact hb5 | refine bto0 ?_ hb4 | refine bto0 ?_ hb5 | refine bdr ?_ _ | refine Below.drew ?_ | refine ball ?_ _)))
                clear hK K
                try dsimp only at hHeld
                try simp only [Act.put, List.getElem_toArray, List.getElem_cons_succ, List.getElem_cons_zero, List.setIfInBounds_toArray, List.set_cons_zero, List.set_cons_succ]
                refine wpAnyH_ready (rs := [10]) (by kernel_rfl) (by simp) (AllReadyH.cons rfl (fun K hK => ?_) AllReadyH.nil)
                go_simp
                refine hK.out _ _ ?_ (fun hHeld => ?_)
                · ((try dsimp only); (try dsimp only at hHeld); exact HS.out _ (by with_reducible repeat (first | exact Below.refl _ _ | refine set4b ?_ zt9 | refine set4b ?_ zt8 | exact hb4 | exact hb5 | refine bto0 ?_ hb4 | refine bto0 ?_ hb5 | refine bdr ?_ _ | refine Below.drew ?_ | refine ball ?_ _)))
                clear hK K
                try dsimp only at hHeld
                try simp only [Act.put, List.getElem_toArray, List.getElem_cons_succ, List.getElem_cons_zero, List.setIfInBounds_toArray, List.set_cons_zero, List.set_cons_succ]
                refine wpAnyH_ready (rs := [11]) (by kernel_rfl) (by simp) (AllReadyH.cons rfl (fun K hK => ?_) AllReadyH.nil)
                go_simp
                refine hK.out _ _ ?_ (fun hHeld => ?_)
                · ((try dsimp only); (try dsimp only at hHeld); exact HS.out _ (by with_reducible repeat (first | exact Below.refl _ _ | refine set4b ?_ zt9 | refine set4b ?_ zt8 | exact hb4 | exact hb5 | refine bto0 ?_ hb4 | refine bto0 ?_ hb5 | refine bdr ?_ _ | refine Below.drew ?_ | refine ball ?_ _)))
                clear hK K
                try dsimp only at hHeld
                try simp only [Act.put, List.getElem_toArray, List.getElem_cons_succ, List.getElem_cons_zero, List.setIfInBounds_toArray, List.set_cons_zero, List.set_cons_succ]
                refine wpAnyH_done (by kernel_rfl) ?_ _
                clear hHeld
                obtain ⟨WL, hWL⟩ : ∃ WL, ((((((((w5.setCell ⟨w4.heap.size + 1, 0, none⟩ (.int .u8 yk)).setCell ⟨w4.heap.size + 1, 1, none⟩ (.int .i64 yi)).setCell ⟨w4.heap.size + 1, 2, none⟩ (.string ys)).setCell ⟨w4.heap.size + 1, 3, none⟩ (.bool yq)).setCell ⟨w4.heap.size, 0, none⟩ (.int .u8 yk)).setCell ⟨w4.heap.size, 1, none⟩ (.int .i64 yi)).setCell ⟨w4.heap.size, 2, none⟩ (.string ys)).setCell ⟨w4.heap.size, 3, none⟩ (.bool yq)) = WL := ⟨_, rfl⟩
                have T8 : Blk WL (w4.heap.size + 1) 36 #[.int .u8 yk, .int .i64 yi, .string ys, .bool yq] := hWL ▸ (far4 (blk4 K8) (by omega))
                have T9 : Blk WL (w4.heap.size) 36 #[.int .u8 yk, .int .i64 yi, .string ys, .bool yq] := hWL ▸ (blk4 (far4 K9 (by omega)))
                have TF : Blk WL w3.heap.size 26 #[.int .u8 k2, .string op2, .bool no2, .int .u8 vk2, .int .i64 vi2, .string vs2, .string of2, .string nm2, .int .i64 tb2, .int .i64 cl2, .slice A2 n2 c2] := hWL ▸ (far4 (far4 (blkOf b5t HF3.out.lt HF3.out) (by omega)) (by omega))
                have TB : Below W3.heap.size W3 WL := hWL ▸ (set4b (set4b b5t zt8) zt9)
                rw [hWL]
                clear hWL
                go_wp2_with fail
                go_meet
                exact ⟨w4.heap.size + 1, w4.heap.size, yk, yi, ys, yq, rfl, rfl, rfl, T8, T9, TB, bto0 hw3 TB, TF⟩
          · go_simp
            have K8 : Blk (W3.drew.alloc (.cells #[.int .u8 0, .int .i64 0, .string ⟨#[]⟩, .bool false] 36)) (W3.heap.size) 36 #[.int .u8 0, .int .i64 0, .string ⟨#[]⟩, .bool false] := Blk.newAt (by simp)
            refine hK.out _ _ ?_ (fun hHeld => ?_)
            · ((try dsimp only); (try dsimp only at hHeld); exact HS.out _ (by with_reducible repeat (first | exact Below.refl _ _ | refine bdr ?_ _ | refine Below.drew ?_ | refine ball ?_ _)))
            clear hK K
            try dsimp only at hHeld
            try simp only [Act.put, List.getElem_toArray, List.getElem_cons_succ, List.getElem_cons_zero, List.setIfInBounds_toArray, List.set_cons_zero, List.set_cons_succ]
            refine wpAnyH_ready (rs := [3, 9]) (by kernel_rfl) (by simp) (AllReadyH.cons rfl (fun K hK => ?_) (AllReadyH.cons rfl (fun K hK => ?_) AllReadyH.nil))
            · go_simp
              (go_at_call 11; (with_reducible refine (hEt.out _ (bto0 hw3 (by with_reducible repeat (first | exact Below.refl _ _ | refine bdr ?_ _ | refine Below.drew ?_ | refine ball ?_ _)))).mono ?_); rintro e w4 ⟨rfl, hb4⟩)
              have K8 := K8.below hb4 K8.lt
              go_wp2_with fail
              refine hK.out _ _ ?_ (fun hHeld => ?_)
              · ((try dsimp only); (try dsimp only at hHeld); exact HS.out _ (by with_reducible repeat (first | exact Below.refl _ _ | exact hb4 | refine bto0 ?_ hb4 | refine bdr ?_ _ | refine Below.drew ?_ | refine ball ?_ _)))
              clear hK K
              try dsimp only at hHeld
              try simp only [Act.put, List.getElem_toArray, List.getElem_cons_succ, List.getElem_cons_zero, List.setIfInBounds_toArray, List.set_cons_zero, List.set_cons_succ]
              refine wpAnyH_ready (rs := [7, 9]) (by kernel_rfl) (by simp) (AllReadyH.cons rfl (fun K hK => ?_) (AllReadyH.cons rfl (fun K hK => ?_) AllReadyH.nil))
              · go_simp
                (go_at_call 11; (with_reducible refine (hE2.out _ (bto0 hbw3 (by with_reducible repeat (first | exact Below.refl _ _ | exact hb4 | refine bto0 ?_ hb4 | refine bdr ?_ _ | refine Below.drew ?_ | refine ball ?_ _))) (bto0 hw3 (by with_reducible repeat (first | exact Below.refl _ _ | exact hb4 | refine bto0 ?_ hb4 | refine bdr ?_ _ | refine Below.drew ?_ | refine ball ?_ _)))).mono ?_); rintro e w5 ⟨rfl, hb5⟩)
                have K8 := K8.below hb5 K8.lt
                have b5t : Below W3.heap.size W3 w5 := (by with_reducible repeat (first | exact Below.refl _ _ | exact hb4 | exact hb5 | refine bto0 ?_ hb4 | refine bto0 ?_ hb5 | refine bdr ?_ _ | refine Below.drew ?_ | refine ball ?_ _))
                have z4 := hb4.size
                have z5 := hb5.size
                try simp at z4
                try simp at z5
                have zt8 : W3.heap.size ≤ W3.heap.size := by omega
                have kl8 := K8.lt
                have y8_0 : w5.cell? ⟨W3.heap.size, 0, none⟩ = some (.int .u8 0) := K8.cell 0
                have f8_0 := K8.frozen 0
                have y8_1 : w5.cell? ⟨W3.heap.size, 1, none⟩ = some (.int .i64 0) := K8.cell 1
                have f8_1 := K8.frozen 1
                have y8_2 : w5.cell? ⟨W3.heap.size, 2, none⟩ = some (.string ⟨#[]⟩) := K8.cell 2
                have f8_2 := K8.frozen 2
                have y8_3 : w5.cell? ⟨W3.heap.size, 3, none⟩ = some (.bool false) := K8.cell 3
                have f8_3 := K8.frozen 3
                go_wp2_with fail
                refine hK.out _ _ ?_ (fun hHeld => ?_)
                · ((try dsimp only); (try dsimp only at hHeld); exact HS.out _ (by with_reducible repeat (first | exact Below.refl _ _ | refine set4b ?_ zt8 | exact hb4 | exact hb5 | refine bto0 ?_ hb4 | refine bto0 ?_ hb5 | refine bdr ?_ _ | refine Below.drew ?_ | refine ball ?_ _)))
                clear hK K
                try dsimp only at hHeld
                try simp only [Act.put, List.getElem_toArray, List.getElem_cons_succ, List.getElem_cons_zero, List.setIfInBounds_toArray, List.set_cons_zero, List.set_cons_succ]
                refine wpAnyH_ready (rs := [9]) (by kernel_rfl) (by simp) (AllReadyH.cons rfl (fun K hK => ?_) AllReadyH.nil)
                go_simp
                refine hK.out _ _ ?_ (fun hHeld => ?_)
                · ((try dsimp only); (try dsimp only at hHeld); exact HS.out _ (by with_reducible repeat (first | exact Below.refl _ _ | refine set4b ?_ zt8 | exact hb4 | exact hb5 | refine bto0 ?_ hb4 | refine bto0 ?_ hb5 | refine bdr ?_ _ | refine Below.drew ?_ | refine ball ?_ _)))
                clear hK K
                try dsimp only at hHeld
                try simp only [Act.put, List.getElem_toArray, List.getElem_cons_succ, List.getElem_cons_zero, List.setIfInBounds_toArray, List.set_cons_zero, List.set_cons_succ]
                refine wpAnyH_ready (rs := [10]) (by kernel_rfl) (by simp) (AllReadyH.cons rfl (fun K hK => ?_) AllReadyH.nil)
                go_simp
                refine hK.out _ _ ?_ (fun hHeld => ?_)
                · ((try dsimp only); (try dsimp only at hHeld); exact HS.out _ (by with_reducible repeat (first | exact Below.refl _ _ | refine set4b ?_ zt8 | exact hb4 | exact hb5 | refine bto0 ?_ hb4 | refine bto0 ?_ hb5 | refine bdr ?_ _ | refine Below.drew ?_ | refine ball ?_ _)))
                clear hK K
                try dsimp only at hHeld
                try simp only [Act.put, List.getElem_toArray, List.getElem_cons_succ, List.getElem_cons_zero, List.setIfInBounds_toArray, List.set_cons_zero, List.set_cons_succ]
                refine wpAnyH_ready (rs := [11]) (by kernel_rfl) (by simp) (AllReadyH.cons rfl (fun K hK => ?_) AllReadyH.nil)
                go_simp
                refine hK.out _ _ ?_ (fun hHeld => ?_)
                · ((try dsimp only); (try dsimp only at hHeld); exact HS.out _ (by with_reducible repeat (first | exact Below.refl _ _ | refine set4b ?_ zt8 | exact hb4 | exact hb5 | refine bto0 ?_ hb4 | refine bto0 ?_ hb5 | refine bdr ?_ _ | refine Below.drew ?_ | refine ball ?_ _)))
                clear hK K
                try dsimp only at hHeld
                try simp only [Act.put, List.getElem_toArray, List.getElem_cons_succ, List.getElem_cons_zero, List.setIfInBounds_toArray, List.set_cons_zero, List.set_cons_succ]
                refine wpAnyH_done (by kernel_rfl) ?_ _
                clear hHeld
                obtain ⟨WL, hWL⟩ : ∃ WL, (((((w5.setCell ⟨W3.heap.size, 0, none⟩ (.int .u8 yk)).setCell ⟨W3.heap.size, 1, none⟩ (.int .i64 yi)).setCell ⟨W3.heap.size, 2, none⟩ (.string ys)).setCell ⟨W3.heap.size, 3, none⟩ (.bool yq)).alloc (.cells #[.int .u8 yk, .int .i64 yi, .string ys, .bool yq] 36)) = WL := ⟨_, rfl⟩
                have T8 : Blk WL (W3.heap.size) 36 #[.int .u8 yk, .int .i64 yi, .string ys, .bool yq] := hWL ▸ ((blk4 K8).alloc _)
                have T9 : Blk WL (w5.heap.size) 36 #[.int .u8 yk, .int .i64 yi, .string ys, .bool yq] := hWL ▸ (Blk.newAt (by simp [World.setCell]))
                have TF : Blk WL w3.heap.size 26 #[.int .u8 k2, .string op2, .bool no2, .int .u8 vk2, .int .i64 vi2, .string vs2, .string of2, .string nm2, .int .i64 tb2, .int .i64 cl2, .slice A2 n2 c2] := hWL ▸ ((far4 (blkOf b5t HF3.out.lt HF3.out) (by omega)).alloc _)
                have TB : Below W3.heap.size W3 WL := hWL ▸ (ball (set4b b5t zt8) _)
                rw [hWL]
                clear hWL
                go_wp2_with fail
                go_meet
                exact ⟨W3.heap.size, w5.heap.size, yk, yi, ys, yq, rfl, rfl, rfl, T8, T9, TB, bto0 hw3 TB, TF⟩
              · go_simp
                have K9 : Blk (w4.alloc (.cells #[.int .u8 0, .int .i64 0, .string ⟨#[]⟩, .bool false] 36)) (w4.heap.size) 36 #[.int .u8 0, .int .i64 0, .string ⟨#[]⟩, .bool false] := Blk.newAt (by simp)
                have K8 := K8.alloc (.cells #[.int .u8 0, .int .i64 0, .string ⟨#[]⟩, .bool false] 36)
                refine hK.out _ _ ?_ (fun hHeld => ?_)
                · ((try dsimp only); (try dsimp only at hHeld); exact HS.out _ (by with_reducible repeat (first | exact Below.refl _ _ | exact hb4 | refine bto0 ?_ hb4 | refine bdr ?_ _ | refine Below.drew ?_ | refine ball ?_ _)))
                clear hK K
                try dsimp only at hHeld
                try simp only [Act.put, List.getElem_toArray, List.getElem_cons_succ, List.getElem_cons_zero, List.setIfInBounds_toArray, List.set_cons_zero, List.set_cons_succ]
                refine wpAnyH_ready (rs := [7]) (by kernel_rfl) (by simp) (AllReadyH.cons rfl (fun K hK => ?_) AllReadyH.nil)
                go_simp
                (go_at_call 11; (with_reducible refine (hE2.out _ (bto0 hbw3 (by with_reducible repeat (first | exact Below.refl _ _ | exact hb4 | refine bto0 ?_ hb4 | refine bdr ?_ _ | refine Below.drew ?_ | refine ball ?_ _))) (bto0 hw3 (by with_reducible repeat (first | exact Below.refl _ _ | exact hb4 | refine bto0 ?_ hb4 | refine bdr ?_ _ | refine Below.drew ?_ | refine ball ?_ _)))).mono ?_); rintro e w5 ⟨rfl, hb5⟩)
                have K8 := K8.below hb5 K8.lt
                have K9 := K9.below hb5 K9.lt
                have b5t : Below W3.heap.size W3 w5 := (by with_reducible repeat (first | exact Below.refl _ _ | exact hb4 | exact hb5 | refine bto0 ?_ hb4 | refine bto0 ?_ hb5 | refine bdr ?_ _ | refine Below.drew ?_ | refine ball ?_ _))
                have z4 := hb4.size
                have z5 := hb5.size
                try simp at z4
                try simp at z5
                have zt8 : W3.heap.size ≤ W3.heap.size := by omega
                have kl8 := K8.lt
                have y8_0 : w5.cell? ⟨W3.heap.size, 0, none⟩ = some (.int .u8 0) := K8.cell 0
                have f8_0 := K8.frozen 0
                have y8_1 : w5.cell? ⟨W3.heap.size, 1, none⟩ = some (.int .i64 0) := K8.cell 1
                have f8_1 := K8.frozen 1
                have y8_2 : w5.cell? ⟨W3.heap.size, 2, none⟩ = some (.string ⟨#[]⟩) := K8.cell 2
                have f8_2 := K8.frozen 2
                have y8_3 : w5.cell? ⟨W3.heap.size, 3, none⟩ = some (.bool false) := K8.cell 3
                have f8_3 := K8.frozen 3
                have zt9 : W3.heap.size ≤ w4.heap.size := by omega
                have kl9 := K9.lt
                have y9_0 : w5.cell? ⟨w4.heap.size, 0, none⟩ = some (.int .u8 0) := K9.cell 0
                have f9_0 := K9.frozen 0
                have y9_1 : w5.cell? ⟨w4.heap.size, 1, none⟩ = some (.int .i64 0) := K9.cell 1
                have f9_1 := K9.frozen 1
                have y9_2 : w5.cell? ⟨w4.heap.size, 2, none⟩ = some (.string ⟨#[]⟩) := K9.cell 2
                have f9_2 := K9.frozen 2
                have y9_3 : w5.cell? ⟨w4.heap.size, 3, none⟩ = some (.bool false) := K9.cell 3
                have f9_3 := K9.frozen 3
                have ne98 : w4.heap.size ≠ W3.heap.size := by omega
                have K9s : Blk ((((w5.setCell ⟨W3.heap.size, 0, none⟩ (.int .u8 yk)).setCell ⟨W3.heap.size, 1, none⟩ (.int .i64 yi)).setCell ⟨W3.heap.size, 2, none⟩ (.string ys)).setCell ⟨W3.heap.size, 3, none⟩ (.bool yq)) (w4.heap.size) 36 #[.int .u8 0, .int .i64 0, .string ⟨#[]⟩, .bool false] := far4 K9 ne98
                have ys_0 := K9s.cell 0
                have fs_0 := K9s.frozen 0
                have ys_1 := K9s.cell 1
                have fs_1 := K9s.frozen 1
                have ys_2 := K9s.cell 2
                have fs_2 := K9s.frozen 2
                have ys_3 := K9s.cell 3
                have fs_3 := K9s.frozen 3
                go_wp2_with fail
                refine hK.out _ _ ?_ (fun hHeld => ?_)
                · ((try dsimp only); (try dsimp only at hHeld); exact HS.out _ (by with_reducible repeat (first | exact Below.refl _ _ | refine set4b ?_ zt8 | refine set4b ?_ zt9 | exact hb4 | exact hb5 | refine bto0 ?_ hb4 | refine bto0 ?_ hb5 | refine bdr ?_ _ | refine Below.drew ?_ | refine ball ?_ _)))
                clear hK K
                try dsimp only at hHeld
                try simp only [Act.put, List.getElem_toArray, List.getElem_cons_succ, List.getElem_cons_zero, List.setIfInBounds_toArray, List.set_cons_zero, List.set_cons_succ]
                refine wpAnyH_ready (rs := [10]) (by kernel_rfl) (by simp) (AllReadyH.cons rfl (fun K hK => ?_) AllReadyH.nil)
                go_simp
                refine hK.out _ _ ?_ (fun hHeld => ?_)
                · ((try dsimp only); (try dsimp only at hHeld); exact HS.out _ (by with_reducible repeat (first | exact Below.refl _ _ | refine set4b ?_ zt8 | refine set4b ?_ zt9 | exact hb4 | exact hb5 | refine bto0 ?_ hb4 | refine bto0 ?_ hb5 | refine bdr ?_ _ | refine Below.drew ?_ | refine ball ?_ _)))
                clear hK K
                try dsimp only at hHeld
                try simp only [Act.put, List.getElem_toArray, List.getElem_cons_succ, List.getElem_cons_zero, List.setIfInBounds_toArray, List.set_cons_zero, List.set_cons_succ]
                refine wpAnyH_ready (rs := [11]) (by kernel_rfl) (by simp) (AllReadyH.cons rfl (fun K hK => ?_) AllReadyH.nil)
                go_simp
                refine hK.out _ _ ?_ (fun hHeld => ?_)
                · ((try dsimp only); (try dsimp only at hHeld); exact HS.out _ (by with_reducible repeat (first | exact Below.refl _ _ | refine set4b ?_ zt8 | refine set4b ?_ zt9 | exact hb4 | exact hb5 | refine bto0 ?_ hb4 | refine bto0 ?_ hb5 | refine bdr ?_ _ | refine Below.drew ?_ | refine ball ?_ _)))
                clear hK K
                try dsimp only at hHeld
                try simp only [Act.put, List.getElem_toArray, List.getElem_cons_succ, List.getElem_cons_zero, List.setIfInBounds_toArray, List.set_cons_zero, List.set_cons_succ]
                refine wpAnyH_done (by kernel_rfl) ?_ _
                clear hHeld
                obtain ⟨WL, hWL⟩ : ∃ WL, ((((((((w5.setCell ⟨W3.heap.size, 0, none⟩ (.int .u8 yk)).setCell ⟨W3.heap.size, 1, none⟩ (.int .i64 yi)).setCell ⟨W3.heap.size, 2, none⟩ (.string ys)).setCell ⟨W3.heap.size, 3, none⟩ (.bool yq)).setCell ⟨w4.heap.size, 0, none⟩ (.int .u8 yk)).setCell ⟨w4.heap.size, 1, none⟩ (.int .i64 yi)).setCell ⟨w4.heap.size, 2, none⟩ (.string ys)).setCell ⟨w4.heap.size, 3, none⟩ (.bool yq)) = WL := ⟨_, rfl⟩
                have T8 : Blk WL (W3.heap.size) 36 #[.int .u8 yk, .int .i64 yi, .string ys, .bool yq] := hWL ▸ (far4 (blk4 K8) (by omega))
                have T9 : Blk WL (w4.heap.size) 36 #[.int .u8 yk, .int .i64 yi, .string ys, .bool yq] := hWL ▸ (blk4 (far4 K9 (by omega)))
                have TF : Blk WL w3.heap.size 26 #[.int .u8 k2, .string op2, .bool no2, .int .u8 vk2, .int .i64 vi2, .string vs2, .string of2, .string nm2, .int .i64 tb2, .int .i64 cl2, .slice A2 n2 c2] := hWL ▸ (far4 (far4 (blkOf b5t HF3.out.lt HF3.out) (by omega)) (by omega))
                have TB : Below W3.heap.size W3 WL := hWL ▸ (set4b (set4b b5t zt8) zt9)
                rw [hWL]
                clear hWL
                go_wp2_with fail
                go_meet
                exact ⟨W3.heap.size, w4.heap.size, yk, yi, ys, yq, rfl, rfl, rfl, T8, T9, TB, bto0 hw3 TB, TF⟩
            · go_simp
              have K9 : Blk ((W3.drew.alloc (.cells #[.int .u8 0, .int .i64 0, .string ⟨#[]⟩, .bool false] 36)).alloc (.cells #[.int .u8 0, .int .i64 0, .string ⟨#[]⟩, .bool false] 36)) (W3.heap.size + 1) 36 #[.int .u8 0, .int .i64 0, .string ⟨#[]⟩, .bool false] := Blk.newAt (by simp)
              have K8 := K8.alloc (.cells #[.int .u8 0, .int .i64 0, .string ⟨#[]⟩, .bool false] 36)
              refine hK.out _ _ ?_ (fun hHeld => ?_)
              · ((try dsimp only); (try dsimp only at hHeld); exact HS.out _ (by with_reducible repeat (first | exact Below.refl _ _ | refine bdr ?_ _ | refine Below.drew ?_ | refine ball ?_ _)))
              clear hK K
              try dsimp only at hHeld
              try simp only [Act.put, List.getElem_toArray, List.getElem_cons_succ, List.getElem_cons_zero, List.setIfInBounds_toArray, List.set_cons_zero, List.set_cons_succ]
              refine wpAnyH_ready (rs := [3]) (by kernel_rfl) (by simp) (AllReadyH.cons rfl (fun K hK => ?_) AllReadyH.nil)
              go_simp
              (go_at_call 11; (with_reducible refine (hEt.out _ (bto0 hw3 (by with_reducible repeat (first | exact Below.refl _ _ | refine bdr ?_ _ | refine Below.drew ?_ | refine ball ?_ _)))).mono ?_); rintro e w4 ⟨rfl, hb4⟩)
              have K8 := K8.below hb4 K8.lt
              have K9 := K9.below hb4 K9.lt
              go_wp2_with fail
              refine hK.out _ _ ?_ (fun hHeld => ?_)
              · ((try dsimp only); (try dsimp only at hHeld); exact HS.out _ (by with_reducible repeat (first | exact Below.refl _ _ | exact hb4 | refine bto0 ?_ hb4 | refine bdr ?_ _ | refine Below.drew ?_ | refine ball ?_ _)))
              clear hK K
              try dsimp only at hHeld
              try simp only [Act.put, List.getElem_toArray, List.getElem_cons_succ, List.getElem_cons_zero, List.setIfInBounds_toArray, List.set_cons_zero, List.set_cons_succ]
              refine wpAnyH_ready (rs := [7]) (by kernel_rfl) (by simp) (AllReadyH.cons rfl (fun K hK => ?_) AllReadyH.nil)
              go_simp
              (go_at_call 11; (with_reducible refine (hE2.out _ (bto0 hbw3 (by with_reducible repeat (first | exact Below.refl _ _ | exact hb4 | refine bto0 ?_ hb4 | refine bdr ?_ _ | refine Below.drew ?_ | refine ball ?_ _))) (bto0 hw3 (by with_reducible repeat (first | exact Below.refl _ _ | exact hb4 | refine bto0 ?_ hb4 | refine bdr ?_ _ | refine Below.drew ?_ | refine ball ?_ _)))).mono ?_); rintro e w5 ⟨rfl, hb5⟩)
              have K8 := K8.below hb5 K8.lt
              have K9 := K9.below hb5 K9.lt
              have b5t : Below W3.heap.size W3 w5 := (by with_reducible repeat (first | exact Below.refl _ _ | exact hb4 | exact hb5 | refine bto0 ?_ hb4 | refine bto0 ?_ hb5 | refine bdr ?_ _ | refine Below.drew ?_ | refine ball ?_ _))
              have z4 := hb4.size
              have z5 := hb5.size
              try simp at z4
              try simp at z5
              have zt8 : W3.heap.size ≤ W3.heap.size := by omega
              have kl8 := K8.lt
              have y8_0 : w5.cell? ⟨W3.heap.size, 0, none⟩ = some (.int .u8 0) := K8.cell 0
              have f8_0 := K8.frozen 0
              have y8_1 : w5.cell? ⟨W3.heap.size, 1, none⟩ = some (.int .i64 0) := K8.cell 1
              have f8_1 := K8.frozen 1
              have y8_2 : w5.cell? ⟨W3.heap.size, 2, none⟩ = some (.string ⟨#[]⟩) := K8.cell 2
              have f8_2 := K8.frozen 2
              have y8_3 : w5.cell? ⟨W3.heap.size, 3, none⟩ = some (.bool false) := K8.cell 3
              have f8_3 := K8.frozen 3
              have zt9 : W3.heap.size ≤ W3.heap.size + 1 := by omega
              have kl9 := K9.lt
              have y9_0 : w5.cell? ⟨W3.heap.size + 1, 0, none⟩ = some (.int .u8 0) := K9.cell 0
              have f9_0 := K9.frozen 0
              have y9_1 : w5.cell? ⟨W3.heap.size + 1, 1, none⟩ = some (.int .i64 0) := K9.cell 1
              have f9_1 := K9.frozen 1
              have y9_2 : w5.cell? ⟨W3.heap.size + 1, 2, none⟩ = some (.string ⟨#[]⟩) := K9.cell 2
              have f9_2 := K9.frozen 2
              have y9_3 : w5.cell? ⟨W3.heap.size + 1, 3, none⟩ = some (.bool false) := K9.cell 3
              have f9_3 := K9.frozen 3
              have ne98 : W3.heap.size + 1 ≠ W3.heap.size := by omega
              have K9s : Blk ((((w5.setCell ⟨W3.heap.size, 0, none⟩ (.int .u8 yk)).setCell ⟨W3.heap.size, 1, none⟩ (.int .i64 yi)).setCell ⟨W3.heap.size, 2, none⟩ (.string ys)).setCell ⟨W3.heap.size, 3, none⟩ (.bool yq)) (W3.heap.size + 1) 36 #[.int .u8 0, .int .i64 0, .string ⟨#[]⟩, .bool false] := far4 K9 ne98
              have ys_0 := K9s.cell 0
              have fs_0 := K9s.frozen 0
              have ys_1 := K9s.cell 1
              have fs_1 := K9s.frozen 1
              have ys_2 := K9s.cell 2
              have fs_2 := K9s.frozen 2
              have ys_3 := K9s.cell 3
              have fs_3 := K9s.frozen 3
              go_wp2_with fail
              refine hK.out _ _ ?_ (fun hHeld => ?_)
              · ((try dsimp only); (try dsimp only at hHeld); exact HS.out _ (by with_reducible repeat (first | exact Below.refl _ _ | refine set4b ?_ zt8 | refine set4b ?_ zt9 | exact hb4 | exact hb5 | refine bto0 ?_ hb4 | refine bto0 ?_ hb5 | refine bdr ?_ _ | refine Below.drew ?_ | refine ball ?_ _)))
              clear hK K
              try dsimp only at hHeld
              try simp only [Act.put, List.getElem_toArray, List.getElem_cons_succ, List.getElem_cons_zero, List.setIfInBounds_toArray, List.set_cons_zero, List.set_cons_succ]
              refine wpAnyH_ready (rs := [10]) (by kernel_rfl) (by simp) (AllReadyH.cons rfl (fun K hK => ?_) AllReadyH.nil)
              go_simp
              refine hK.out _ _ ?_ (fun hHeld => ?_)
              · ((try dsimp only); (try dsimp only at hHeld); exact HS.out _ (by with_reducible repeat (first | exact Below.refl _ _ | refine set4b ?_ zt8 | refine set4b ?_ zt9 | exact hb4 | exact hb5 | refine bto0 ?_ hb4 | refine bto0 ?_ hb5 | refine bdr ?_ _ | refine Below.drew ?_ | refine ball ?_ _)))
              clear hK K
              try dsimp only at hHeld
              try simp only [Act.put, List.getElem_toArray, List.getElem_cons_succ, List.getElem_cons_zero, List.setIfInBounds_toArray, List.set_cons_zero, List.set_cons_succ]
              refine wpAnyH_ready (rs := [11]) (by kernel_rfl) (by simp) (AllReadyH.cons rfl (fun K hK => ?_) AllReadyH.nil)
              go_simp
              refine hK.out _ _ ?_ (fun hHeld => ?_)
              · ((try dsimp only); (try dsimp only at hHeld); exact HS.out _ (by with_reducible repeat (first | exact Below.refl _ _ | refine set4b ?_ zt8 | refine set4b ?_ zt9 | exact hb4 | exact hb5 | refine bto0 ?_ hb4 | refine bto0 ?_ hb5 | refine bdr ?_ _ | refine Below.drew ?_ | refine ball ?_ _)))
              clear hK K
              try dsimp only at hHeld
              try simp only [Act.put, List.getElem_toArray, List.getElem_cons_succ, List.getElem_cons_zero, List.setIfInBounds_toArray, List.set_cons_zero, List.set_cons_succ]
              refine wpAnyH_done (by kernel_rfl) ?_ _
              clear hHeld
              obtain ⟨WL, hWL⟩ : ∃ WL, ((((((((w5.setCell ⟨W3.heap.size, 0, none⟩ (.int .u8 yk)).setCell ⟨W3.heap.size, 1, none⟩ (.int .i64 yi)).setCell ⟨W3.heap.size, 2, none⟩ (.string ys)).setCell ⟨W3.heap.size, 3, none⟩ (.bool yq)).setCell ⟨W3.heap.size + 1, 0, none⟩ (.int .u8 yk)).setCell ⟨W3.heap.size + 1, 1, none⟩ (.int .i64 yi)).setCell ⟨W3.heap.size + 1, 2, none⟩ (.string ys)).setCell ⟨W3.heap.size + 1, 3, none⟩ (.bool yq)) = WL := ⟨_, rfl⟩
              have T8 : Blk WL (W3.heap.size) 36 #[.int .u8 yk, .int .i64 yi, .string ys, .bool yq] := hWL ▸ (far4 (blk4 K8) (by omega))
              have T9 : Blk WL (W3.heap.size + 1) 36 #[.int .u8 yk, .int .i64 yi, .string ys, .bool yq] := hWL ▸ (blk4 (far4 K9 (by omega)))
              have TF : Blk WL w3.heap.size 26 #[.int .u8 k2, .string op2, .bool no2, .int .u8 vk2, .int .i64 vi2, .string vs2, .string of2, .string nm2, .int .i64 tb2, .int .i64 cl2, .slice A2 n2 c2] := hWL ▸ (far4 (far4 (blkOf b5t HF3.out.lt HF3.out) (by omega)) (by omega))
              have TB : Below W3.heap.size W3 WL := hWL ▸ (set4b (set4b b5t zt8) zt9)
              rw [hWL]
              clear hWL
              go_wp2_with fail
              go_meet
              exact ⟨W3.heap.size, W3.heap.size + 1, yk, yi, ys, yq, rfl, rfl, rfl, T8, T9, TB, bto0 hw3 TB, TF⟩
          · go_simp
            have K9 : Blk (W3.drew.alloc (.cells #[.int .u8 0, .int .i64 0, .string ⟨#[]⟩, .bool false] 36)) (W3.heap.size) 36 #[.int .u8 0, .int .i64 0, .string ⟨#[]⟩, .bool false] := Blk.newAt (by simp)
            refine hK.out _ _ ?_ (fun hHeld => ?_)
            · ((try dsimp only); (try dsimp only at hHeld); exact HS.out _ (by with_reducible repeat (first | exact Below.refl _ _ | refine bdr ?_ _ | refine Below.drew ?_ | refine ball ?_ _)))
            clear hK K
            try dsimp only at hHeld
            try simp only [Act.put, List.getElem_toArray, List.getElem_cons_succ, List.getElem_cons_zero, List.setIfInBounds_toArray, List.set_cons_zero, List.set_cons_succ]
            refine wpAnyH_ready (rs := [3, 8]) (by kernel_rfl) (by simp) (AllReadyH.cons rfl (fun K hK => ?_) (AllReadyH.cons rfl (fun K hK => ?_) AllReadyH.nil))
            · go_simp
              (go_at_call 11; (with_reducible refine (hEt.out _ (bto0 hw3 (by with_reducible repeat (first | exact Below.refl _ _ | refine bdr ?_ _ | refine Below.drew ?_ | refine ball ?_ _)))).mono ?_); rintro e w4 ⟨rfl, hb4⟩)
              have K9 := K9.below hb4 K9.lt
              go_wp2_with fail
              refine hK.out _ _ ?_ (fun hHeld => ?_)
              · ((try dsimp only); (try dsimp only at hHeld); exact HS.out _ (by with_reducible repeat (first | exact Below.refl _ _ | exact hb4 | refine bto0 ?_ hb4 | refine bdr ?_ _ | refine Below.drew ?_ | refine ball ?_ _)))
              clear hK K
              try dsimp only at hHeld
              try simp only [Act.put, List.getElem_toArray, List.getElem_cons_succ, List.getElem_cons_zero, List.setIfInBounds_toArray, List.set_cons_zero, List.set_cons_succ]
              refine wpAnyH_ready (rs := [7, 8]) (by kernel_rfl) (by simp) (AllReadyH.cons rfl (fun K hK => ?_) (AllReadyH.cons rfl (fun K hK => ?_) AllReadyH.nil))
              · go_simp
                (go_at_call 11; (with_reducible refine (hE2.out _ (bto0 hbw3 (by with_reducible repeat (first | exact Below.refl _ _ | exact hb4 | refine bto0 ?_ hb4 | refine bdr ?_ _ | refine Below.drew ?_ | refine ball ?_ _))) (bto0 hw3 (by with_reducible repeat (first | exact Below.refl _ _ | exact hb4 | refine bto0 ?_ hb4 | refine bdr ?_ _ | refine Below.drew ?_ | refine ball ?_ _)))).mono ?_); rintro e w5 ⟨rfl, hb5⟩)
                have K9 := K9.below hb5 K9.lt
                have b5t : Below W3.heap.size W3 w5 := (by with_reducible repeat (first | exact Below.refl _ _ | exact hb4 | exact hb5 | refine bto0 ?_ hb4 | refine bto0 ?_ hb5 | refine bdr ?_ _ | refine Below.drew ?_ | refine ball ?_ _))
                have z4 := hb4.size
                have z5 := hb5.size
                try simp at z4
                try simp at z5
                have zt9 : W3.heap.size ≤ W3.heap.size := by omega
                have kl9 := K9.lt
                have y9_0 : w5.cell? ⟨W3.heap.size, 0, none⟩ = some (.int .u8 0) := K9.cell 0
                have f9_0 := K9.frozen 0
                have y9_1 : w5.cell? ⟨W3.heap.size, 1, none⟩ = some (.int .i64 0) := K9.cell 1
                have f9_1 := K9.frozen 1
                have y9_2 : w5.cell? ⟨W3.heap.size, 2, none⟩ = some (.string ⟨#[]⟩) := K9.cell 2
                have f9_2 := K9.frozen 2
                have y9_3 : w5.cell? ⟨W3.heap.size, 3, none⟩ = some (.bool false) := K9.cell 3
                have f9_3 := K9.frozen 3
                go_wp2_with fail
                refine hK.out _ _ ?_ (fun hHeld => ?_)
                · ((try dsimp only); (try dsimp only at hHeld); exact HS.out _ (by with_reducible repeat (first | exact Below.refl _ _ | refine set4b ?_ zt9 | exact hb4 | exact hb5 | refine bto0 ?_ hb4 | refine bto0 ?_ hb5 | refine bdr ?_ _ | refine Below.drew ?_ | refine ball ?_ _)))
                clear hK K
                try dsimp only at hHeld
                try simp only [Act.put, List.getElem_toArray, List.getElem_cons_succ, List.getElem_cons_zero, List.setIfInBounds_toArray, List.set_cons_zero, List.set_cons_succ]
                refine wpAnyH_ready (rs := [8]) (by kernel_rfl) (by simp) (AllReadyH.cons rfl (fun K hK => ?_) AllReadyH.nil)
                go_simp
                refine hK.out _ _ ?_ (fun hHeld => ?_)
                · ((try dsimp only); (try dsimp only at hHeld); exact HS.out _ (by with_reducible repeat (first | exact Below.refl _ _ | refine set4b ?_ zt9 | exact hb4 | exact hb5 | refine bto0 ?_ hb4 | refine bto0 ?_ hb5 | refine bdr ?_ _ | refine Below.drew ?_ | refine ball ?_ _)))
                clear hK K
                try dsimp only at hHeld
                try simp only [Act.put, List.getElem_toArray, List.getElem_cons_succ, List.getElem_cons_zero, List.setIfInBounds_toArray, List.set_cons_zero, List.set_cons_succ]
                refine wpAnyH_ready (rs := [10]) (by kernel_rfl) (by simp) (AllReadyH.cons rfl (fun K hK => ?_) AllReadyH.nil)
                go_simp
                refine hK.out _ _ ?_ (fun hHeld => ?_)
                · ((try dsimp only); (try dsimp only at hHeld); exact HS.out _ (by with_reducible repeat (first | exact Below.refl _ _ | refine set4b ?_ zt9 | exact hb4 | exact hb5 | refine bto0 ?_ hb4 | refine bto0 ?_ hb5 | refine bdr ?_ _ | refine Below.drew ?_ | refine ball ?_ _)))
                clear hK K
                try dsimp only at hHeld
                try simp only [Act.put, List.getElem_toArray, List.getElem_cons_succ, List.getElem_cons_zero, List.setIfInBounds_toArray, List.set_cons_zero, List.set_cons_succ]
                refine wpAnyH_ready (rs := [11]) (by kernel_rfl) (by simp) (AllReadyH.cons rfl (fun K hK => ?_) AllReadyH.nil)
                go_simp
                refine hK.out _ _ ?_ (fun hHeld => ?_)
                · ((try dsimp only); (try dsimp only at hHeld); exact HS.out _ (by with_reducible repeat (first | exact Below.refl _ _ | refine set4b ?_ zt9 | exact hb4 | exact hb5 | refine bto0 ?_ hb4 | refine bto0 ?_ hb5 | refine bdr ?_ _ | refine Below.drew ?_ | refine ball ?_ _)))
                clear hK K
                try dsimp only at hHeld
                try simp only [Act.put, List.getElem_toArray, List.getElem_cons_succ, List.getElem_cons_zero, List.setIfInBounds_toArray, List.set_cons_zero, List.set_cons_succ]
                refine wpAnyH_done (by kernel_rfl) ?_ _
                clear hHeld
                obtain ⟨WL, hWL⟩ : ∃ WL, (((((w5.setCell ⟨W3.heap.size, 0, none⟩ (.int .u8 yk)).setCell ⟨W3.heap.size, 1, none⟩ (.int .i64 yi)).setCell ⟨W3.heap.size, 2, none⟩ (.string ys)).setCell ⟨W3.heap.size, 3, none⟩ (.bool yq)).alloc (.cells #[.int .u8 yk, .int .i64 yi, .string ys, .bool yq] 36)) = WL := ⟨_, rfl⟩
                have T8 : Blk WL (w5.heap.size) 36 #[.int .u8 yk, .int .i64 yi, .string ys, .bool yq] := hWL ▸ (Blk.newAt (by simp [World.setCell]))
                have T9 : Blk WL (W3.heap.size) 36 #[.int .u8 yk, .int .i64 yi, .string ys, .bool yq] := hWL ▸ ((blk4 K9).alloc _)
                have TF : Blk WL w3.heap.size 26 #[.int .u8 k2, .string op2, .bool no2, .int .u8 vk2, .int .i64 vi2, .string vs2, .string of2, .string nm2, .int .i64 tb2, .int .i64 cl2, .slice A2 n2 c2] := hWL ▸ ((far4 (blkOf b5t HF3.out.lt HF3.out) (by omega)).alloc _)
                have TB : Below W3.heap.size W3 WL := hWL ▸ (ball (set4b b5t zt9) _)
                rw [hWL]
                clear hWL
                go_wp2_with fail
                go_meet
                exact ⟨w5.heap.size, W3.heap.size, yk, yi, ys, yq, rfl, rfl, rfl, T8, T9, TB, bto0 hw3 TB, TF⟩
              · go_simp
                have K8 : Blk (w4.alloc (.cells #[.int .u8 0, .int .i64 0, .string ⟨#[]⟩, .bool false] 36)) (w4.heap.size) 36 #[.int .u8 0, .int .i64 0, .string ⟨#[]⟩, .bool false] := Blk.newAt (by simp)
                have K9 := K9.alloc (.cells #[.int .u8 0, .int .i64 0, .string ⟨#[]⟩, .bool false] 36)
                refine hK.out _ _ ?_ (fun hHeld => ?_)
                · ((try dsimp only); (try dsimp only at hHeld); exact HS.out _ (by with_reducible repeat (first | exact Below.refl _ _ | exact hb4 | refine bto0 ?_ hb4 | refine bdr ?_ _ | refine Below.drew ?_ | refine ball ?_ _)))
                clear hK K
                try dsimp only at hHeld
                try simp only [Act.put, List.getElem_toArray, List.getElem_cons_succ, List.getElem_cons_zero, List.setIfInBounds_toArray, List.set_cons_zero, List.set_cons_succ]
                refine wpAnyH_ready (rs := [7]) (by kernel_rfl) (by simp) (AllReadyH.cons rfl (fun K hK => ?_) AllReadyH.nil)
                go_simp
                (go_at_call 11; (with_reducible refine (hE2.out _ (bto0 hbw3 (by with_reducible repeat (first | exact Below.refl _ _ | exact hb4 | refine bto0 ?_ hb4 | refine bdr ?_ _ | refine Below.drew ?_ | refine ball ?_ _))) (bto0 hw3 (by with_reducible repeat (first | exact Below.refl _ _ | exact hb4 | refine bto0 ?_ hb4 | refine bdr ?_ _ | refine Below.drew ?_ | refine ball ?_ _)))).mono ?_); rintro e w5 ⟨rfl, hb5⟩)
                have K9 := K9.below hb5 K9.lt
                have K8 := K8.below hb5 K8.lt
                have b5t : Below W3.heap.size W3 w5 := (by with_reducible repeat (first | exact Below.refl _ _ | exact hb4 | exact hb5 | refine bto0 ?_ hb4 | refine bto0 ?_ hb5 | refine bdr ?_ _ | refine Below.drew ?_ | refine ball ?_ _))
                have z4 := hb4.size
                have z5 := hb5.size
                try simp at z4
                try simp at z5
                have zt9 : W3.heap.size ≤ W3.heap.size := by omega
                have kl9 := K9.lt
                have y9_0 : w5.cell? ⟨W3.heap.size, 0, none⟩ = some (.int .u8 0) := K9.cell 0
                have f9_0 := K9.frozen 0
                have y9_1 : w5.cell? ⟨W3.heap.size, 1, none⟩ = some (.int .i64 0) := K9.cell 1
                have f9_1 := K9.frozen 1
                have y9_2 : w5.cell? ⟨W3.heap.size, 2, none⟩ = some (.string ⟨#[]⟩) := K9.cell 2
                have f9_2 := K9.frozen 2
                have y9_3 : w5.cell? ⟨W3.heap.size, 3, none⟩ = some (.bool false) := K9.cell 3
                have f9_3 := K9.frozen 3
                have zt8 : W3.heap.size ≤ w4.heap.size := by omega
                have kl8 := K8.lt
                have y8_0 : w5.cell? ⟨w4.heap.size, 0, none⟩ = some (.int .u8 0) := K8.cell 0
                have f8_0 := K8.frozen 0
                have y8_1 : w5.cell? ⟨w4.heap.size, 1, none⟩ = some (.int .i64 0) := K8.cell 1
                have f8_1 := K8.frozen 1
                have y8_2 : w5.cell? ⟨w4.heap.size, 2, none⟩ = some (.string ⟨#[]⟩) := K8.cell 2
                have f8_2 := K8.frozen 2
                have y8_3 : w5.cell? ⟨w4.heap.size, 3, none⟩ = some (.bool false) := K8.cell 3
                have f8_3 := K8.frozen 3
                have ne98 : W3.heap.size ≠ w4.heap.size := by omega
                have K9s : Blk ((((w5.setCell ⟨w4.heap.size, 0, none⟩ (.int .u8 yk)).setCell ⟨w4.heap.size, 1, none⟩ (.int .i64 yi)).setCell ⟨w4.heap.size, 2, none⟩ (.string ys)).setCell ⟨w4.heap.size, 3, none⟩ (.bool yq)) (W3.heap.size) 36 #[.int .u8 0, .int .i64 0, .string ⟨#[]⟩, .bool false] := far4 K9 ne98
                have ys_0 := K9s.cell 0
                have fs_0 := K9s.frozen 0
                have ys_1 := K9s.cell 1
                have fs_1 := K9s.frozen 1
                have ys_2 := K9s.cell 2
                have fs_2 := K9s.frozen 2
                have ys_3 := K9s.cell 3
                have fs_3 := K9s.frozen 3
                go_wp2_with fail
                refine hK.out _ _ ?_ (fun hHeld => ?_)
                · ((try dsimp only); (try dsimp only at hHeld); exact HS.out _ (by with_reducible repeat (first | exact Below.refl _ _ | refine set4b ?_ zt9 | refine set4b ?_ zt8 | exact hb4 | exact hb5 | refine bto0 ?_ hb4 | refine bto0 ?_ hb5 | refine bdr ?_ _ | refine Below.drew ?_ | refine ball ?_ _)))
                clear hK K
                try dsimp only at hHeld
                try simp only [Act.put, List.getElem_toArray, List.getElem_cons_succ, List.getElem_cons_zero, List.setIfInBounds_toArray, List.set_cons_zero, List.set_cons_succ]
                refine wpAnyH_ready (rs := [10]) (by kernel_rfl) (by simp) (AllReadyH.cons rfl (fun K hK => ?_) AllReadyH.nil)
                go_simp
                refine hK.out _ _ ?_ (fun hHeld => ?_)
                · ((try dsimp only); (try dsimp only at hHeld); exact HS.out _ (by with_reducible repeat (first | exact Below.refl _ _ | refine set4b ?_ zt9 | refine set4b ?_ zt8 | exact hb4 | exact hb5 | refine bto0 ?_ hb4 | refine bto0 ?_ hb5 | refine bdr ?_ _ | refine Below.drew ?_ | refine ball ?_ _)))
                clear hK K
                try dsimp only at hHeld
                try simp only [Act.put, List.getElem_toArray, List.getElem_cons_succ, List.getElem_cons_zero, List.setIfInBounds_toArray, List.set_cons_zero, List.set_cons_succ]
                refine wpAnyH_ready (rs := [11]) (by kernel_rfl) (by simp) (AllReadyH.cons rfl (fun K hK => ?_) AllReadyH.nil)
                go_simp
                refine hK.out _ _ ?_ (fun hHeld => ?_)
                · ((try dsimp only); (try dsimp only at hHeld); exact HS.out _ (by with_reducible repeat (first | exact Below.refl _ _ | refine set4b ?_ zt9 | refine set4b ?_ zt8 | exact hb4 | exact hb5 | refine bto0 ?_ hb4 | refine bto0 ?_ hb5 | refine bdr ?_ _ | refine Below.drew ?_ | refine ball ?_ _)))
                clear hK K
                try dsimp only at hHeld
                try simp only [Act.put, List.getElem_toArray, List.getElem_cons_succ, List.getElem_cons_zero, List.setIfInBounds_toArray, List.set_cons_zero, List.set_cons_succ]
                refine wpAnyH_done (by kernel_rfl) ?_ _
                clear hHeld
                obtain ⟨WL, hWL⟩ : ∃ WL, ((((((((w5.setCell ⟨w4.heap.size, 0, none⟩ (.int .u8 yk)).setCell ⟨w4.heap.size, 1, none⟩ (.int .i64 yi)).setCell ⟨w4.heap.size, 2, none⟩ (.string ys)).setCell ⟨w4.heap.size, 3, none⟩ (.bool yq)).setCell ⟨W3.heap.size, 0, none⟩ (.int .u8 yk)).setCell ⟨W3.heap.size, 1, none⟩ (.int .i64 yi)).setCell ⟨W3.heap.size, 2, none⟩ (.string ys)).setCell ⟨W3.heap.size, 3, none⟩ (.bool yq)) = WL := ⟨_, rfl⟩
                have T8 : Blk WL (w4.heap.size) 36 #[.int .u8 yk, .int .i64 yi, .string ys, .bool yq] := hWL ▸ (far4 (blk4 K8) (by omega))
                have T9 : Blk WL (W3.heap.size) 36 #[.int .u8 yk, .int .i64 yi, .string ys, .bool yq] := hWL ▸ (blk4 (far4 K9 (by omega)))
                have TF : Blk WL w3.heap.size 26 #[.int .u8 k2, .string op2, .bool no2, .int .u8 vk2, .int .i64 vi2, .string vs2, .string of2, .string nm2, .int .i64 tb2, .int .i64 cl2, .slice A2 n2 c2] := hWL ▸ (far4 (far4 (blkOf b5t HF3.out.lt HF3.out) (by omega)) (by omega))
                have TB : Below W3.heap.size W3 WL := hWL ▸ (set4b (set4b b5t zt8) zt9)
                rw [hWL]
                clear hWL
                go_wp2_with fail
                go_meet
                exact ⟨w4.heap.size, W3.heap.size, yk, yi, ys, yq, rfl, rfl, rfl, T8, T9, TB, bto0 hw3 TB, TF⟩
            · go_simp
              have K8 : Blk ((W3.drew.alloc (.cells #[.int .u8 0, .int .i64 0, .string ⟨#[]⟩, .bool false] 36)).alloc (.cells #[.int .u8 0, .int .i64 0, .string ⟨#[]⟩, .bool false] 36)) (W3.heap.size + 1) 36 #[.int .u8 0, .int .i64 0, .string ⟨#[]⟩, .bool false] := Blk.newAt (by simp)
              have K9 := K9.alloc (.cells #[.int .u8 0, .int .i64 0, .string ⟨#[]⟩, .bool false] 36)
              refine hK.out _ _ ?_ (fun hHeld => ?_)
              · ((try dsimp only); (try dsimp only at hHeld); exact HS.out _ (by with_reducible repeat (first | exact Below.refl _ _ | refine bdr ?_ _ | refine Below.drew ?_ | refine ball ?_ _)))
              clear hK K
              try dsimp only at hHeld
              try simp only [Act.put, List.getElem_toArray, List.getElem_cons_succ, List.getElem_cons_zero, List.setIfInBounds_toArray, List.set_cons_zero, List.set_cons_succ]
              refine wpAnyH_ready (rs := [3]) (by kernel_rfl) (by simp) (AllReadyH.cons rfl (fun K hK => ?_) AllReadyH.nil)
              go_simp
              (go_at_call 11; (with_reducible refine (hEt.out _ (bto0 hw3 (by with_reducible repeat (first | exact Below.refl _ _ | refine bdr ?_ _ | refine Below.drew ?_ | refine ball ?_ _)))).mono ?_); rintro e w4 ⟨rfl, hb4⟩)
              have K9 := K9.below hb4 K9.lt
              have K8 := K8.below hb4 K8.lt
              go_wp2_with fail
              refine hK.out _ _ ?_ (fun hHeld => ?_)
              · ((try dsimp only); (try dsimp only at hHeld); exact HS.out _ (by with_reducible repeat (first | exact Below.refl _ _ | exact hb4 | refine bto0 ?_ hb4 | refine bdr ?_ _ | refine Below.drew ?_ | refine ball ?_ _)))
              clear hK K
              try dsimp only at hHeld
              try simp only [Act.put, List.getElem_toArray, List.getElem_cons_succ, List.getElem_cons_zero, List.setIfInBounds_toArray, List.set_cons_zero, List.set_cons_succ]
              refine wpAnyH_ready (rs := [7]) (by kernel_rfl) (by simp) (AllReadyH.cons rfl (fun K hK => ?_) AllReadyH.nil)
              go_simp
              (go_at_call 11; (with_reducible refine (hE2.out _ (bto0 hbw3 (by with_reducible repeat (first | exact Below.refl _ _ | exact hb4 | refine bto0 ?_ hb4 | refine bdr ?_ _ | refine Below.drew ?_ | refine ball ?_ _))) (bto0 hw3 (by with_reducible repeat (first | exact Below.refl _ _ | exact hb4 | refine bto0 ?_ hb4 | refine bdr ?_ _ | refine Below.drew ?_ | refine ball ?_ _)))).mono ?_); rintro e w5 ⟨rfl, hb5⟩)
              have K9 := K9.below hb5 K9.lt
              have K8 := K8.below hb5 K8.lt
              have b5t : Below W3.heap.size W3 w5 := (by with_reducible repeat (first | exact Below.refl _ _ | exact hb4 | exact hb5 | refine bto0 ?_ hb4 | refine bto0 ?_ hb5 | refine bdr ?_ _ | refine Below.drew ?_ | refine ball ?_ _))
              have z4 := hb4.size
              have z5 := hb5.size
              try simp at z4
              try simp at z5
              have zt9 : W3.heap.size ≤ W3.heap.size := by omega
              have kl9 := K9.lt
              have y9_0 : w5.cell? ⟨W3.heap.size, 0, none⟩ = some (.int .u8 0) := K9.cell 0
              have f9_0 := K9.frozen 0
              have y9_1 : w5.cell? ⟨W3.heap.size, 1, none⟩ = some (.int .i64 0) := K9.cell 1
              have f9_1 := K9.frozen 1
              have y9_2 : w5.cell? ⟨W3.heap.size, 2, none⟩ = some (.string ⟨#[]⟩) := K9.cell 2
              have f9_2 := K9.frozen 2
              have y9_3 : w5.cell? ⟨W3.heap.size, 3, none⟩ = some (.bool false) := K9.cell 3
              have f9_3 := K9.frozen 3
              have zt8 : W3.heap.size ≤ W3.heap.size + 1 := by omega
              have kl8 := K8.lt
              have y8_0 : w5.cell? ⟨W3.heap.size + 1, 0, none⟩ = some (.int .u8 0) := K8.cell 0
              have f8_0 := K8.frozen 0
              have y8_1 : w5.cell? ⟨W3.heap.size + 1, 1, none⟩ = some (.int .i64 0) := K8.cell 1
              have f8_1 := K8.frozen 1
              have y8_2 : w5.cell? ⟨W3.heap.size + 1, 2, none⟩ = some (.string ⟨#[]⟩) := K8.cell 2
              have f8_2 := K8.frozen 2
              have y8_3 : w5.cell? ⟨W3.heap.size + 1, 3, none⟩ = some (.bool false) := K8.cell 3
              have f8_3 := K8.frozen 3
              have ne98 : W3.heap.size ≠ W3.heap.size + 1 := by omega
              have K9s : Blk ((((w5.setCell ⟨W3.heap.size + 1, 0, none⟩ (.int .u8 yk)).setCell ⟨W3.heap.size + 1, 1, none⟩ (.int .i64 yi)).setCell ⟨W3.heap.size + 1, 2, none⟩ (.string ys)).setCell ⟨W3.heap.size + 1, 3, none⟩ (.bool yq)) (W3.heap.size) 36 #[.int .u8 0, .int .i64 0, .string ⟨#[]⟩, .bool false] := far4 K9 ne98
              have ys_0 := K9s.cell 0
              have fs_0 := K9s.frozen 0
              have ys_1 := K9s.cell 1
              have fs_1 := K9s.frozen 1
              have ys_2 := K9s.cell 2
              have fs_2 := K9s.frozen 2
              have ys_3 := K9s.cell 3
              have fs_3 := K9s.frozen 3
              go_wp2_with fail
              refine hK.out _ _ ?_ (fun hHeld => ?_)
              · ((try dsimp only); (try dsimp only at hHeld); exact HS.out _ (by with_reducible repeat (first | exact Below.refl _ _ | refine set4b ?_ zt9 | refine set4b ?_ zt8 | exact hb4 | exact hb5 | refine bto0 ?_ hb4 | refine bto0 ?_ hb5 | refine bdr ?_ _ | refine Below.drew ?_ | refine ball ?_ _)))
              clear hK K
              try dsimp only at hHeld
              try simp only [Act.put, List.getElem_toArray, List.getElem_cons_succ, List.getElem_cons_zero, List.setIfInBounds_toArray, List.set_cons_zero, List.set_cons_succ]
              refine wpAnyH_ready (rs := [10]) (by kernel_rfl) (by simp) (AllReadyH.cons rfl (fun K hK => ?_) AllReadyH.nil)
              go_simp
              refine hK.out _ _ ?_ (fun hHeld => ?_)
              · ((try dsimp only); (try dsimp only at hHeld); exact HS.out _ (by with_reducible repeat (first | exact Below.refl _ _ | refine set4b ?_ zt9 | refine set4b ?_ zt8 | exact hb4 | exact hb5 | refine bto0 ?_ hb4 | refine bto0 ?_ hb5 | refine bdr ?_ _ | refine Below.drew ?_ | refine ball ?_ _)))
              clear hK K
              try dsimp only at hHeld
              try simp only [Act.put, List.getElem_toArray, List.getElem_cons_succ, List.getElem_cons_zero, List.setIfInBounds_toArray, List.set_cons_zero, List.set_cons_succ]
              refine wpAnyH_ready (rs := [11]) (by kernel_rfl) (by simp) (AllReadyH.cons rfl (fun K hK => ?_) AllReadyH.nil)
              go_simp
              refine hK.out _ _ ?_ (fun hHeld => ?_)
              · ((try dsimp only); (try dsimp only at hHeld); exact HS.out _ (by with_reducible repeat (first | exact Below.refl _ _ | refine set4b ?_ zt9 | refine set4b ?_ zt8 | exact hb4 | exact hb5 | refine bto0 ?_ hb4 | refine bto0 ?_ hb5 | refine bdr ?_ _ | refine Below.drew ?_ | refine ball ?_ _)))
              clear hK K
              try dsimp only at hHeld
              try simp only [Act.put, List.getElem_toArray, List.getElem_cons_succ, List.getElem_cons_zero, List.setIfInBounds_toArray, List.set_cons_zero, List.set_cons_succ]
              refine wpAnyH_done (by kernel_rfl) ?_ _
              clear hHeld
              obtain ⟨WL, hWL⟩ : ∃ WL, ((((((((w5.setCell ⟨W3.heap.size + 1, 0, none⟩ (.int .u8 yk)).setCell ⟨W3.heap.size + 1, 1, none⟩ (.int .i64 yi)).setCell ⟨W3.heap.size + 1, 2, none⟩ (.string ys)).setCell ⟨W3.heap.size + 1, 3, none⟩ (.bool yq)).setCell ⟨W3.heap.size, 0, none⟩ (.int .u8 yk)).setCell ⟨W3.heap.size, 1, none⟩ (.int .i64 yi)).setCell ⟨W3.heap.size, 2, none⟩ (.string ys)).setCell ⟨W3.heap.size, 3, none⟩ (.bool yq)) = WL := ⟨_, rfl⟩
              have T8 : Blk WL (W3.heap.size + 1) 36 #[.int .u8 yk, .int .i64 yi, .string ys, .bool yq] := hWL ▸ (far4 (blk4 K8) (by omega))
              have T9 : Blk WL (W3.heap.size) 36 #[.int .u8 yk, .int .i64 yi, .string ys, .bool yq] := hWL ▸ (blk4 (far4 K9 (by omega)))
              have TF : Blk WL w3.heap.size 26 #[.int .u8 k2, .string op2, .bool no2, .int .u8 vk2, .int .i64 vi2, .string vs2, .string of2, .string nm2, .int .i64 tb2, .int .i64 cl2, .slice A2 n2 c2] := hWL ▸ (far4 (far4 (blkOf b5t HF3.out.lt HF3.out) (by omega)) (by omega))
              have TB : Below W3.heap.size W3 WL := hWL ▸ (set4b (set4b b5t zt8) zt9)
              rw [hWL]
              clear hWL
              go_wp2_with fail
              go_meet
              exact ⟨W3.heap.size + 1, W3.heap.size, yk, yi, ys, yq, rfl, rfl, rfl, T8, T9, TB, bto0 hw3 TB, TF⟩
        case rest =>
          obtain ⟨b8, b9, k, i, s, q, hy, rfl, rfl, T8, T9, TB, TW, TF⟩ := hcut
          injection hy with hy
          simp at hy
          obtain ⟨rfl, rfl, rfl, rfl⟩ := hy
          have hbw3c : Below w3.heap.size w3 wc := bto0 hbw3 TB
          have hz8 := T8.lt
          have hz9 := T9.lt
          have a8_0 : wc.cell? ⟨b8, 0, none⟩ = some (.int .u8 yk) := T8.cell 0
          have a9_0 : wc.cell? ⟨b9, 0, none⟩ = some (.int .u8 yk) := T9.cell 0
          have a8_1 : wc.cell? ⟨b8, 1, none⟩ = some (.int .i64 yi) := T8.cell 1
          have a9_1 : wc.cell? ⟨b9, 1, none⟩ = some (.int .i64 yi) := T9.cell 1
          have a8_2 : wc.cell? ⟨b8, 2, none⟩ = some (.string ys) := T8.cell 2
          have a9_2 : wc.cell? ⟨b9, 2, none⟩ = some (.string ys) := T9.cell 2
          have a8_3 : wc.cell? ⟨b8, 3, none⟩ = some (.bool yq) := T8.cell 3
          have a9_3 : wc.cell? ⟨b9, 3, none⟩ = some (.bool yq) := T9.cell 3
          have hS : Hid (∀ W, Below wc.heap.size wc W → W.cell? ⟨w3.heap.size, 0, none⟩ = some (.int .u8 k2) ∧ W.cell? ⟨w3.heap.size, 1, none⟩ = some (.string op2) ∧ W.cell? ⟨w3.heap.size, 2, none⟩ = some (.bool no2) ∧ W.cell? ⟨w3.heap.size, 3, none⟩ = some (.int .u8 vk2) ∧ W.cell? ⟨w3.heap.size, 4, none⟩ = some (.int .i64 vi2) ∧ W.cell? ⟨w3.heap.size, 5, none⟩ = some (.string vs2) ∧ W.cell? ⟨w3.heap.size, 6, none⟩ = some (.string of2) ∧ W.cell? ⟨w3.heap.size, 7, none⟩ = some (.string nm2) ∧ W.cell? ⟨w3.heap.size, 8, none⟩ = some (.int .i64 tb2) ∧ W.cell? ⟨w3.heap.size, 9, none⟩ = some (.int .i64 cl2) ∧ W.cell? ⟨w3.heap.size, 10, none⟩ = some (.slice A2 n2 c2) ∧ Below wc.heap.size wc W) := by
            refine Lib.hid fun W hW => ?_
            have hF := blkOf hW TF.lt TF
            exact ⟨hF.cell 0, hF.cell 1, hF.cell 2, hF.cell 3, hF.cell 4, hF.cell 5, hF.cell 6, hF.cell 7, hF.cell 8, hF.cell 9, hF.cell 10, hW⟩
          have HT := Lib.hid (And.intro TB TW)
          clear T8 T9 TB TF hb0 hb03 HB hzw hz3 HS HF3 hEt hE2 G2 G3 GR
          have hstart := hS.out wc (Below.refl _ _)
          cases yq
          all_goals
            go_wp2_with fail
            clear a8_0 a8_1 a8_2 a8_3 a9_0 a9_1 a9_2 a9_3
            go_region_held3 (fun W => W.cell? ⟨w3.heap.size, 0, none⟩ = some (.int .u8 k2) ∧ W.cell? ⟨w3.heap.size, 1, none⟩ = some (.string op2) ∧ W.cell? ⟨w3.heap.size, 2, none⟩ = some (.bool no2) ∧ W.cell? ⟨w3.heap.size, 3, none⟩ = some (.int .u8 vk2) ∧ W.cell? ⟨w3.heap.size, 4, none⟩ = some (.int .i64 vi2) ∧ W.cell? ⟨w3.heap.size, 5, none⟩ = some (.string vs2) ∧ W.cell? ⟨w3.heap.size, 6, none⟩ = some (.string of2) ∧ W.cell? ⟨w3.heap.size, 7, none⟩ = some (.string nm2) ∧ W.cell? ⟨w3.heap.size, 8, none⟩ = some (.int .i64 tb2) ∧ W.cell? ⟨w3.heap.size, 9, none⟩ = some (.int .i64 cl2) ∧ W.cell? ⟨w3.heap.size, 10, none⟩ = some (.slice A2 n2 c2) ∧ Below wc.heap.size wc W)
              (first | exact hS.out _ (by with_reducible repeat (first | exact Below.refl _ _ | exact hb4 | exact hb3 | exact hb2 | exact hb1 | refine bto0 ?_ hb4 | refine bto0 ?_ hb3 | refine bto0 ?_ hb2 | refine bto0 ?_ hb1 | refine bdr ?_ _ | refine Below.drew ?_ | refine ball ?_ _)) | assumption)
              (first
                | (go_at_call 9; (with_reducible refine (FX.out _).mono ?_); rintro e w6 ⟨rfl, hb1⟩)
                | (go_at_call 17; (with_reducible refine (hD1.out _ (bto0 hbw3c (by with_reducible repeat (first | exact Below.refl _ _ | exact hb4 | exact hb3 | exact hb2 | exact hb1 | refine bto0 ?_ hb4 | refine bto0 ?_ hb3 | refine bto0 ?_ hb2 | refine bto0 ?_ hb1 | refine bdr ?_ _ | refine Below.drew ?_ | refine ball ?_ _))) (bto0 TW (by with_reducible repeat (first | exact Below.refl _ _ | exact hb4 | exact hb3 | exact hb2 | exact hb1 | refine bto0 ?_ hb4 | refine bto0 ?_ hb3 | refine bto0 ?_ hb2 | refine bto0 ?_ hb1 | refine bdr ?_ _ | refine Below.drew ?_ | refine ball ?_ _)))).mono ?_); rintro e w7 ⟨rfl, hb2⟩)
                | (go_at_call 16; (with_reducible refine (hF2.out _ (bto0 hbw3c (by with_reducible repeat (first | exact Below.refl _ _ | exact hb4 | exact hb3 | exact hb2 | exact hb1 | refine bto0 ?_ hb4 | refine bto0 ?_ hb3 | refine bto0 ?_ hb2 | refine bto0 ?_ hb1 | refine bdr ?_ _ | refine Below.drew ?_ | refine ball ?_ _))) (bto0 TW (by with_reducible repeat (first | exact Below.refl _ _ | exact hb4 | exact hb3 | exact hb2 | exact hb1 | refine bto0 ?_ hb4 | refine bto0 ?_ hb3 | refine bto0 ?_ hb2 | refine bto0 ?_ hb1 | refine bdr ?_ _ | refine Below.drew ?_ | refine ball ?_ _)))).mono ?_); rintro e w8 ⟨t2, rfl, hf2, hq2, hb3⟩; have hti2 : TmIn w8 w8.heap.size t2 := hq2.tin fun b hb => hb.2; have HS4 := Lib.hid fun (W : World) (hW : Below w8.heap.size w8 W) (hW3 : Below w3.heap.size w3 W) (hW0 : Below w.heap.size w W) => hS1.out t2 W hW3 hf2 ((hti2.under hW).more hW.size) hW0; clear hf2 hq2 hti2; obtain ⟨⟨k4, op4, no4, ⟨vk4, vi4, vs4⟩, of4, nm4, tb4, cl4⟩, A4, n4, c4, l4⟩ := t2; simp only [Tm.agg, TmH.agg, Tm.h, Tm.A, Tm.n, Tm.c] at HS4 ⊢)
                | (go_at_call 18; (with_reducible refine (HS4.out _ (by with_reducible repeat (first | exact Below.refl _ _ | exact hb4 | exact hb3 | exact hb2 | exact hb1 | refine bto0 ?_ hb4 | refine bto0 ?_ hb3 | refine bto0 ?_ hb2 | refine bto0 ?_ hb1 | refine bdr ?_ _ | refine Below.drew ?_ | refine ball ?_ _)) (bto0 hbw3c (by with_reducible repeat (first | exact Below.refl _ _ | exact hb4 | exact hb3 | exact hb2 | exact hb1 | refine bto0 ?_ hb4 | refine bto0 ?_ hb3 | refine bto0 ?_ hb2 | refine bto0 ?_ hb1 | refine bdr ?_ _ | refine Below.drew ?_ | refine ball ?_ _))) (bto0 TW (by with_reducible repeat (first | exact Below.refl _ _ | exact hb4 | exact hb3 | exact hb2 | exact hb1 | refine bto0 ?_ hb4 | refine bto0 ?_ hb3 | refine bto0 ?_ hb2 | refine bto0 ?_ hb1 | refine bdr ?_ _ | refine Below.drew ?_ | refine ball ?_ _)))).mono ?_); rintro e w9 ⟨rfl, hb4⟩))
            go_wp2
            go_ret
            exact ⟨rfl, bto0 TW (by with_reducible repeat (first | exact Below.refl _ _ | exact hb4 | exact hb3 | exact hb2 | exact hb1 | refine bto0 ?_ hb4 | refine bto0 ?_ hb3 | refine bto0 ?_ hb2 | refine bto0 ?_ hb1 | refine bdr ?_ _ | refine Below.drew ?_ | refine ball ?_ _))⟩
end Go.Proofs.Ytilopgfpifhccaa
