/-
  Several texts in one: IN.
-/
import Derived.Test.YtdimkeoncgjegaaMfaz
import Derived.Deep.DeepCutAuto
/-
  HeapFills: the reference's Fill; rows that may not be, and where no page is free.
-/
namespace Go.Proofs.Ytdimkeoncgjegaa
section
set_option linter.unusedSimpArgs false
set_option linter.unusedVariables false
open Go.RowKit Go.Maps

def RetRF (w : World) (A A2 : Option Addr) (n : Nat) (R : FP) (e : Ending) (w' : World) : Prop :=
  ∃ h : Hh, e = .returned (.tuple #[.agg h.arr, .int .i64 R.err]) ∧ h.n = n ∧ h.n ≤ h.c ∧ h.n ≤ h.d ∧ Reads w' w'.heap.size 1 h.A h.n (sL R.ps) ∧ Reads w' w'.heap.size 1 h.B h.n (tL R.T) ∧ (R.err = 0 → h.first = R.first ∧ h.r = R.rids.length ∧ Reads w' w'.heap.size 2 h.D h.r (ridV R.rids) ∧ ∀ ad, h.D = some ad → w.heap.size ≤ ad.block) ∧ Below w.heap.size w w' ∧ (∀ ad, h.A = some ad → A = some ad ∨ w.heap.size ≤ ad.block) ∧ (∀ ad, h.B = some ad → A2 = some ad ∨ w.heap.size ≤ ad.block)
theorem rfill_end {W : World} {R : Nat} {tm : Array Value} {Q : Ending → World → Prop} {h : Hh} {v : Value} (hR : Blk W R 43 h.arr)
    (h4 : tm[4]? = some (.pointer (some ⟨R, 0, none⟩))) (h5 : tm[5]? = some v) (hq : Q (.returned (.tuple #[.agg h.arr, v])) W) :
    bodyPost Try.prog Try.f11 Q Exit.ret { tmps := tm, defers := [] } W := by
  have q0 : W.cell? ⟨R, 0, none⟩ = _ := hR.cell 0
  have q1 : W.cell? ⟨R, 1, none⟩ = _ := hR.cell 1
  have q2 : W.cell? ⟨R, 2, none⟩ = _ := hR.cell 2
  have q3 : W.cell? ⟨R, 3, none⟩ = _ := hR.cell 3
  have q4 : W.cell? ⟨R, 4, none⟩ = _ := hR.cell 4
  have q5 : W.cell? ⟨R, 5, none⟩ = _ := hR.cell 5
  have q6 : W.cell? ⟨R, 6, none⟩ = _ := hR.cell 6
  have q7 : W.cell? ⟨R, 7, none⟩ = _ := hR.cell 7
  unfold Hh.arr at q0 q1 q2 q3 q4 q5 q6 q7 hq
  simp at q0 q1 q2 q3 q4 q5 q6 q7
  exact bodyPost_ret (v := .tuple #[.agg #[.slice h.A h.n h.c, .slice h.B h.n h.d, .int .u32 h.first, .int .u32 h.at_, .int .u32 h.next, .slice h.C h.k h.e, .slice h.D h.r h.f, .bool h.began], v]) (by simp [results, Try.results11, go_sem, h4, h5, q0, q1, q2, q3, q4, q5, q6, q7]) rfl hq
set_option maxRecDepth 100000 in
set_option maxHeartbeats 16000000 in
theorem rfill_any {w : World} {A A2 B : Option Addr} {c c2 n m cb : Nat} {ps : List (List UInt8)} {T : List Bool} {l : List (List UInt8)} (hr1 : Reads w w.heap.size 1 A n (sL ps)) (hr2 : Reads w w.heap.size 1 A2 n (tL T)) (hc1 : n ≤ c) (hc2 : n ≤ c2) (hn : n ≤ 10000) (hl : Reads w w.heap.size 1 B m (sL l)) (hm : m ≤ 100000) :
    Calls Try.prog 11 #[.agg #[.slice A n c, .slice A2 n c2], .slice B m cb] w (RetRF w A A2 n (fillP l ps T)) := by
  have mI : (m : Int) ≤ 100000 := by omega
  have HB0 : Hid (Blk ((w.alloc (.cells #[.slice A n c, .slice A2 n c2] 32)).alloc (.cells #[.slice none 0 0, .slice none 0 0, .int .u32 0, .int .u32 0, .int .u32 0, .slice none 0 0, .slice none 0 0, .bool false] 43)) w.heap.size 32 #[.slice A n c, .slice A2 n c2] ∧ Blk ((w.alloc (.cells #[.slice A n c, .slice A2 n c2] 32)).alloc (.cells #[.slice none 0 0, .slice none 0 0, .int .u32 0, .int .u32 0, .int .u32 0, .slice none 0 0, .slice none 0 0, .bool false] 43)) (w.heap.size + 1) 43 #[.slice none 0 0, .slice none 0 0, .int .u32 0, .int .u32 0, .int .u32 0, .slice none 0 0, .slice none 0 0, .bool false] ∧ Below w.heap.size w ((w.alloc (.cells #[.slice A n c, .slice A2 n c2] 32)).alloc (.cells #[.slice none 0 0, .slice none 0 0, .int .u32 0, .int .u32 0, .int .u32 0, .slice none 0 0, .slice none 0 0, .bool false] 43))) := Lib.hid ⟨(Blk.newAt rfl).alloc _, Blk.newAt (by simp), ball (ball (Below.refl _ _) _) _⟩
  have hll : l.length = m := by have := hl.1; unfold sL at this; rw [List.length_map] at this; omega
  have H0 := Lib.hid (And.intro hr1 (And.intro hr2 (And.intro hl (And.intro hc1 hc2))))
  clear hr1 hr2 hl hc1 hc2
  go_enter Try.func11, Try.ntmps11
  go_wp2_with fail
  obtain ⟨W0, hW0⟩ : ∃ W0, ((w.alloc (.cells #[.slice A n c, .slice A2 n c2] 32)).alloc (.cells #[.slice none 0 0, .slice none 0 0, .int .u32 0, .int .u32 0, .int .u32 0, .slice none 0 0, .slice none 0 0, .bool false] 43)) = W0 := ⟨_, rfl⟩
  have hW0s : W0.heap.size = w.heap.size + 1 + 1 := by rw [← hW0]; simp
  have HWs := Lib.hid hW0s
  have hWlt : w.heap.size + 1 < W0.heap.size := by omega
  clear hW0s
  rw [hW0] at HB0
  rw [hW0]
  clear hW0
  have HL := Lib.hid (H0.out.2.2.1.below HB0.out.2.2)
  have d0 : W0.cell? ⟨w.heap.size, 0, none⟩ = some (.slice A n c) := HB0.out.1.cell 0
  have d1 : W0.cell? ⟨w.heap.size, 1, none⟩ = some (.slice A2 n c2) := HB0.out.1.cell 1
  have k0 : W0.cell? ⟨w.heap.size + 1, 0, none⟩ = some (.slice none 0 0) := HB0.out.2.1.cell 0
  have g0 := HB0.out.2.1.frozen 0
  have k1 : W0.cell? ⟨w.heap.size + 1, 1, none⟩ = some (.slice none 0 0) := HB0.out.2.1.cell 1
  have g1 := HB0.out.2.1.frozen 1
  have k2 : W0.cell? ⟨w.heap.size + 1, 2, none⟩ = some (.int .u32 0) := HB0.out.2.1.cell 2
  have g2 := HB0.out.2.1.frozen 2
  have k3 : W0.cell? ⟨w.heap.size + 1, 3, none⟩ = some (.int .u32 0) := HB0.out.2.1.cell 3
  have g3 := HB0.out.2.1.frozen 3
  have k4 : W0.cell? ⟨w.heap.size + 1, 4, none⟩ = some (.int .u32 0) := HB0.out.2.1.cell 4
  have g4 := HB0.out.2.1.frozen 4
  have k5 : W0.cell? ⟨w.heap.size + 1, 5, none⟩ = some (.slice none 0 0) := HB0.out.2.1.cell 5
  have g5 := HB0.out.2.1.frozen 5
  have k6 : W0.cell? ⟨w.heap.size + 1, 6, none⟩ = some (.slice none 0 0) := HB0.out.2.1.cell 6
  have g6 := HB0.out.2.1.frozen 6
  have k7 : W0.cell? ⟨w.heap.size + 1, 7, none⟩ = some (.bool false) := HB0.out.2.1.cell 7
  have g7 := HB0.out.2.1.frozen 7
  go_loop [6, 15] (fun u6 u15 => ∃ k : Nat, u15 = .int .i64 k ∧ k ≤ m ∧ okR (l.take k) = true) (fun _ u15 => m - (intOf u15).toNat)
  case atStart => exact ⟨0, rfl, by omega, rfl⟩
  case round =>
    obtain ⟨k, rfl, hk, hok⟩ := hrel
    have k0 : (0 : Int) ≤ (k : Int) := by omega
    by_cases hlt : k < m
    · have k1 : (k : Int) < (m : Int) := by omega
      obtain ⟨ad, q, rfl, had, hq, hcell⟩ := HL.out.text hlt
      have hsz : (str q).size = q.length := str_size q
      have HOK := Lib.hid (And.intro hok hq)
      clear hok hq
      by_cases hb1 : q.length = 0
      · have e1 : ((q.length : Int) == 0) = true := by rw [hb1]; rfl
        have hbad : okR l = false := by
          unfold okR
          rw [List.all_eq_false]
          exact ⟨q, List.mem_of_getElem? HOK.out.2, by simp; omega⟩
        have HBD := Lib.hid hbad
        clear hbad hb1
        go_wp2
        have BZ := ((((((((HB0.out.2.2.setCell (p := ⟨w.heap.size + 1, 0, none⟩) (by simp) (.slice A n c)).setCell (p := ⟨w.heap.size + 1, 1, none⟩) (by simp) (.slice A2 n c2)).setCell (p := ⟨w.heap.size + 1, 2, none⟩) (by simp) (.int .u32 0)).setCell (p := ⟨w.heap.size + 1, 3, none⟩) (by simp) (.int .u32 0)).setCell (p := ⟨w.heap.size + 1, 4, none⟩) (by simp) (.int .u32 0)).setCell (p := ⟨w.heap.size + 1, 5, none⟩) (by simp) (.slice none 0 0)).setCell (p := ⟨w.heap.size + 1, 6, none⟩) (by simp) (.slice none 0 0)).setCell (p := ⟨w.heap.size + 1, 7, none⟩) (by simp) (.bool false))
        have TZ := ((((((((HB0.out.2.1).set_ 0 (.slice A n c)).set_ 1 (.slice A2 n c2)).set_ 2 (.int .u32 0)).set_ 3 (.int .u32 0)).set_ 4 (.int .u32 0)).set_ 5 (.slice none 0 0)).set_ 6 (.slice none 0 0)).set_ 7 (.bool false)
        simp only [List.setIfInBounds_toArray, List.set_cons_zero, List.set_cons_succ] at TZ
        refine rfill_end (h := ⟨A, n, c, A2, c2, 0, 0, 0, none, 0, 0, none, 0, 0, false⟩) (R := w.heap.size + 1) (v := .int .i64 1) ?_ (by simp) (by simp) ?_
        · exact TZ
        · unfold fillP
          rw [HBD.out]
          exact ⟨⟨A, n, c, A2, c2, 0, 0, 0, none, 0, 0, none, 0, 0, false⟩, rfl, rfl, H0.out.2.2.2.1, H0.out.2.2.2.2, (H0.out.1.below BZ).more BZ.size, (H0.out.2.1.below BZ).more BZ.size, fun h => by simp at h, BZ, fun ad e => .inl e, fun ad e => .inl e⟩
      have e1 : ((q.length : Int) == 0) = false := by rw [beq_eq_false_iff_ne]; omega
      by_cases hb2 : 500 < q.length
      · have e2 : decide ((500 : Int) < (q.length : Int)) = true := by simp; omega
        have hbad : okR l = false := by
          unfold okR
          rw [List.all_eq_false]
          exact ⟨q, List.mem_of_getElem? HOK.out.2, by simp; omega⟩
        have HBD := Lib.hid hbad
        clear hbad hb1
        go_wp2
        have BZ := ((((((((HB0.out.2.2.setCell (p := ⟨w.heap.size + 1, 0, none⟩) (by simp) (.slice A n c)).setCell (p := ⟨w.heap.size + 1, 1, none⟩) (by simp) (.slice A2 n c2)).setCell (p := ⟨w.heap.size + 1, 2, none⟩) (by simp) (.int .u32 0)).setCell (p := ⟨w.heap.size + 1, 3, none⟩) (by simp) (.int .u32 0)).setCell (p := ⟨w.heap.size + 1, 4, none⟩) (by simp) (.int .u32 0)).setCell (p := ⟨w.heap.size + 1, 5, none⟩) (by simp) (.slice none 0 0)).setCell (p := ⟨w.heap.size + 1, 6, none⟩) (by simp) (.slice none 0 0)).setCell (p := ⟨w.heap.size + 1, 7, none⟩) (by simp) (.bool false))
        have TZ := ((((((((HB0.out.2.1).set_ 0 (.slice A n c)).set_ 1 (.slice A2 n c2)).set_ 2 (.int .u32 0)).set_ 3 (.int .u32 0)).set_ 4 (.int .u32 0)).set_ 5 (.slice none 0 0)).set_ 6 (.slice none 0 0)).set_ 7 (.bool false)
        simp only [List.setIfInBounds_toArray, List.set_cons_zero, List.set_cons_succ] at TZ
        refine rfill_end (h := ⟨A, n, c, A2, c2, 0, 0, 0, none, 0, 0, none, 0, 0, false⟩) (R := w.heap.size + 1) (v := .int .i64 1) ?_ (by simp) (by simp) ?_
        · exact TZ
        · unfold fillP
          rw [HBD.out]
          exact ⟨⟨A, n, c, A2, c2, 0, 0, 0, none, 0, 0, none, 0, 0, false⟩, rfl, rfl, H0.out.2.2.2.1, H0.out.2.2.2.2, (H0.out.1.below BZ).more BZ.size, (H0.out.2.1.below BZ).more BZ.size, fun h => by simp at h, BZ, fun ad e => .inl e, fun ad e => .inl e⟩
      have e2 : decide ((500 : Int) < (q.length : Int)) = false := by simp; omega
      have HQ := Lib.hid (And.intro (by omega : 1 ≤ q.length) (by omega : q.length ≤ 500))
      clear hb1 hb2
      go_wp2
      go_round
      case rel =>
        refine ⟨k + 1, by go_num, by omega, ?_⟩
        rw [List.take_add_one, HOK.out.2]
        unfold okR
        rw [List.all_append]
        have := HOK.out.1
        unfold okR at this
        rw [this]
        simp [HQ.out.1, HQ.out.2]
      case measure => simp [intOf]; omega
    · obtain rfl : m = k := by omega
      rw [List.take_of_length_le (by omega)] at hok
      have HK := Lib.hid hok
      clear hok
      have HI0 : Hid (∀ W, Below W0.heap.size W0 W → HhIn W ⟨A, n, c, A2, c2, 0, 0, 0, none, 0, 0, none, 0, 0, false⟩ ps T []) := Lib.hid fun W hW => ⟨(H0.out.1.below (bto0 HB0.out.2.2 hW)).more (bto0 HB0.out.2.2 hW).size, (H0.out.2.1.below (bto0 HB0.out.2.2 hW)).more (bto0 HB0.out.2.2 hW).size, H0.out.2.2.2.1, H0.out.2.2.2.2, reads_none _, Nat.le_refl _⟩
      have hTl : T.length = n := by have := H0.out.2.1.1; rw [tL_len] at this; omega
      have NX : Hid (Calls Try.prog 29 #[.agg #[.slice A n c, .slice A2 n c2, .int .u32 0, .int .u32 0, .int .u32 0, .slice none 0 0, .slice none 0 0, .bool false]] W0 (RetNx W0 ⟨A, n, c, A2, c2, 0, 0, 0, none, 0, 0, none, 0, 0, false⟩ ps T [])) := Lib.hid (hnext_any (h := ⟨A, n, c, A2, c2, 0, 0, 0, none, 0, 0, none, 0, 0, false⟩) (HI0.out W0 (Below.refl _ _)) hn (fun h => by cases h))
      go_wp2_with fail
      refine NX.out.mono ?_
      rintro e w1 (⟨i, hfr, hin, NY⟩ | ⟨hfr, HX⟩)
      rotate_left
      · have HX : RetHx W0 ⟨A, n, c, A2, c2, 0, 0, 0, none, 0, 0, none, 0, 0, false⟩ 7 ps T [] e w1 := by simpa using HX
        obtain ⟨h1, rfl, hnn, hi1, hb1, a1, a2⟩ := HX
        dsimp only at hnn a1 a2
        have FR := Lib.hid hfr
        have T1 := HB0.out.2.1.below hb1 HB0.out.2.1.lt
        have hRl := HB0.out.2.1.lt
        have z1 := T1.lt
        clear NX hfr
        clear k0 k1 k2 k3 k4 k5 k6 k7 g0 g1 g2 g3 g4 g5 g6 g7 d0 d1
        have k0 : w1.cell? ⟨w.heap.size + 1, 0, none⟩ = some (.slice none 0 0) := T1.cell 0
        have g0 := T1.frozen 0
        have k1 : w1.cell? ⟨w.heap.size + 1, 1, none⟩ = some (.slice none 0 0) := T1.cell 1
        have g1 := T1.frozen 1
        have k2 : w1.cell? ⟨w.heap.size + 1, 2, none⟩ = some (.int .u32 0) := T1.cell 2
        have g2 := T1.frozen 2
        have k3 : w1.cell? ⟨w.heap.size + 1, 3, none⟩ = some (.int .u32 0) := T1.cell 3
        have g3 := T1.frozen 3
        have k4 : w1.cell? ⟨w.heap.size + 1, 4, none⟩ = some (.int .u32 0) := T1.cell 4
        have g4 := T1.frozen 4
        have k5 : w1.cell? ⟨w.heap.size + 1, 5, none⟩ = some (.slice none 0 0) := T1.cell 5
        have g5 := T1.frozen 5
        have k6 : w1.cell? ⟨w.heap.size + 1, 6, none⟩ = some (.slice none 0 0) := T1.cell 6
        have g6 := T1.frozen 6
        have k7 : w1.cell? ⟨w.heap.size + 1, 7, none⟩ = some (.bool false) := T1.cell 7
        have g7 := T1.frozen 7
        have HA := Lib.hid (And.intro hi1 (And.intro hb1 (And.intro hnn (And.intro a1 (And.intro a2 T1)))))
        clear hi1 hb1 a1 a2 T1 hnn
        have nA : ∀ (X : Option Addr) (xs : List Value), Reads w w.heap.size 1 X n xs → ∀ Y : Option Addr, (∀ ad, Y = some ad → X = some ad ∨ W0.heap.size ≤ ad.block) → 0 < h1.n → ∀ ad, Y = some ad → some (w.heap.size + 1) ≠ some ad.block := fun X xs hx Y hY hp ad e => by
          have h9 := HA.out.2.2.1
          rcases hY ad e with h4 | h4
          · obtain ⟨ad', e', h5, _⟩ := hx.2 (by omega)
            rw [h4] at e'
            obtain rfl := Option.some.inj e'
            simp; omega
          · simp; omega
        have NA := Lib.hid nA
        clear nA
        unfold Hh.arr
        go_wp2
        obtain ⟨W5, hW5⟩ : ∃ W5, ((((((((w1).setCell ⟨w.heap.size + 1, 0, none⟩ (.slice h1.A h1.n h1.c)).setCell ⟨w.heap.size + 1, 1, none⟩ (.slice h1.B h1.n h1.d)).setCell ⟨w.heap.size + 1, 2, none⟩ (.int .u32 h1.first)).setCell ⟨w.heap.size + 1, 3, none⟩ (.int .u32 h1.at_)).setCell ⟨w.heap.size + 1, 4, none⟩ (.int .u32 h1.next)).setCell ⟨w.heap.size + 1, 5, none⟩ (.slice h1.C h1.k h1.e)).setCell ⟨w.heap.size + 1, 6, none⟩ (.slice h1.D h1.r h1.f)).setCell ⟨w.heap.size + 1, 7, none⟩ (.bool h1.began) = W5 := ⟨_, rfl⟩
        have S5 : Sets w1 W5 (w.heap.size + 1) := hW5 ▸ sets8 _ _ _ _ _ _ _ _
        have B5 : Blk W5 (w.heap.size + 1) 43 h1.arr := hW5 ▸ blk8 HA.out.2.2.2.2.2
        rw [hW5]
        clear hW5 k0 g0 k1 g1 k2 g2 k3 g3 k4 g4 k5 g5 k6 g6 k7 g7
        refine rfill_end (h := h1) (R := w.heap.size + 1) (v := .int .i64 7) ?_ (by simp) (by simp) ?_
        · exact B5.alloc _
        · unfold fillP
          rw [HK.out, FR.out]
          have b5 : Below w.heap.size w W5 := S5.below (bto0 HB0.out.2.2 HA.out.2.1) (by omega)
          exact ⟨h1, rfl, HA.out.2.2.1, HA.out.1.c1, HA.out.1.c2, reads_alloc (reads_grown HA.out.1.r1 S5.grown (NA.out _ _ H0.out.1 h1.A HA.out.2.2.2.1)) _, reads_alloc (reads_grown HA.out.1.r2 S5.grown (NA.out _ _ H0.out.2.1 h1.B HA.out.2.2.2.2.1)) _, fun h => absurd h (show (7 : Int) ≠ 0 by decide), ball b5 _, fun ad e => (HA.out.2.2.2.1 ad e).imp id (fun h => by omega), fun ad e => (HA.out.2.2.2.2.1 ad e).imp id (fun h => by omega)⟩
      have NY : RetNy W0 ⟨A, n, c, A2, c2, 0, 0, 0, none, 0, 0, none, 0, 0, false⟩ i i ps (T.set i true) e w1 := by simpa using NY
      obtain ⟨h1, rfl, hnn, hfi, hat, hnx, hD, hr, hf, hbg, hi1, hb1, a1, a2⟩ := NY
      dsimp only at hnn a1 a2 hD hr hf
      have hRes : fillP l ps T = fillE i (fillL l ps (T.set i true) i [] []) := by unfold fillP; rw [HK.out, hfr]; rfl
      have HRes := Lib.hid hRes
      obtain ⟨RR, hR⟩ : ∃ RR, fillL l ps (T.set i true) i [] [] = RR := ⟨_, rfl⟩
      have hRl := HB0.out.2.1.lt
      have T1 := HB0.out.2.1.below hb1 hRl
      have z1 := T1.lt
      have bz := hb1.size
      have nA : ∀ {X : Option Addr} {xs : List Value}, Reads w w.heap.size 1 X n xs → ∀ (Y : Option Addr) (ys : List Value), Reads w1 w1.heap.size 1 Y h1.n ys → (∀ ad, Y = some ad → X = some ad ∨ W0.heap.size ≤ ad.block) → Nb (w1.alloc (.cells h1.arr 43)) Y h1.n (w.heap.size + 1) w1.heap.size (.slice h1.D h1.r h1.f) := fun hx Y ys hy hY hp ad e => by
        obtain ⟨ad2, e2, h6, _⟩ := hy.2 hp
        rw [e] at e2
        obtain rfl := Option.some.inj e2
        refine ⟨by simp; omega, ?_, by omega, by rw [hD]; simp [Value.ownBlock]⟩
        rcases hY ad e with h4 | h4
        · obtain ⟨ad', e', h5, _⟩ := hx.2 (by omega)
          rw [h4] at e'
          obtain rfl := Option.some.inj e'
          omega
        · omega
      have hkk : h1.k = 0 := by have := hi1.r3.1; simp [sL] at this; omega
      have F0 : FS w A A2 (w1.alloc (.cells h1.arr 43)) (w.heap.size + 1) w1.heap.size w.heap.size h1 ps (T.set i true) [] [] :=
        ⟨ball (bto0 HB0.out.2.2 hb1) _, T1.alloc _, Blk.new _ _ _, by omega, by omega, Nat.le_refl _, by simp; omega, hi1.below (ball (Below.refl _ _) _), hr, by rw [hD, hr, hf]; exact World.ownsRow_nil _ _ _ _, nA H0.out.1 _ _ hi1.r1 a1, nA H0.out.2.1 _ _ hi1.r2 a2, fun hp => by omega, fun ad e => (a1 ad e).imp id (fun h => by omega), fun ad e => (a2 ad e).imp id (fun h => by omega)⟩
      have HF := Lib.hid (And.intro F0 (And.intro hnn (And.intro hfi (And.intro hat (And.intro hnx (And.intro hbg hR))))))
      clear NX hfr hRes hR hi1 a1 a2 nA F0 hD hr hf T1 hkk hnn hfi hat hnx hbg
      clear k0 k1 k2 k3 k4 k5 k6 k7 g0 g1 g2 g3 g4 g5 g6 g7 d0 d1
      unfold Hh.arr
      go_wp2_with fail
      obtain ⟨W1, hW1⟩ : ∃ W1, w1.alloc (.cells #[.slice h1.A h1.n h1.c, .slice h1.B h1.n h1.d, .int .u32 h1.first, .int .u32 h1.at_, .int .u32 h1.next, .slice h1.C h1.k h1.e, .slice h1.D h1.r h1.f, .bool h1.began] 43) = W1 := ⟨_, rfl⟩
      have HF : Hid (FS w A A2 W1 (w.heap.size + 1) w1.heap.size w.heap.size h1 ps (T.set i true) [] [] ∧ h1.n = n ∧ h1.first = i ∧ h1.at_ = i ∧ h1.next = 0 ∧ h1.began = true ∧ fillL l ps (T.set i true) i [] [] = RR) := by rw [← hW1]; exact HF
      rw [hW1]
      clear hW1
      obtain ⟨G, hG⟩ : ∃ G, w1.heap.size = G := ⟨_, rfl⟩
      rw [hG] at HF ⊢
      clear hG z1 bz hb1
      obtain ⟨i0, hi0, hz0, hs0, hy0⟩ := int_info8 Try.infoRid
      obtain ⟨i1, hi1, hz1, hs1, hy1⟩ := int_info8 Try.infoS
      go_loopw [9, 10, 11, 12, 47] (fun u9 u10 u11 u12 u47 wr => ∃ (k : Nat) (rs : List (List UInt8)) (rids : List (Nat × Nat)) (ps' : List (List UInt8)) (T' : List Bool) (h : Hh), u47 = .int .i64 k ∧ k ≤ m ∧ h.at_ < n ∧ h.first = i ∧ h.next = 0 ∧ h.began = true ∧ h.n = n ∧ Fits rs ∧ rids.length = k ∧ FS w A A2 wr (w.heap.size + 1) G w.heap.size h ps' T' rs rids ∧ fillL (l.drop k) ps' T' h.at_ rs rids = RR) (fun _ _ _ _ u47 _ => m - (intOf u47).toNat)
      case atStart => exact ⟨0, [], [], ps, T.set i true, h1, rfl, by omega, by rw [HF.out.2.2.2.1]; exact hin, HF.out.2.2.1, HF.out.2.2.2.2.1, HF.out.2.2.2.2.2.1, HF.out.2.1, Fits.nil, rfl, HF.out.1, by rw [List.drop_zero, HF.out.2.2.2.1]; exact HF.out.2.2.2.2.2.2⟩
      case round =>
        obtain ⟨wo, rfl⟩ : ∃ wo : World, wo = wr := ⟨_, rfl⟩
        obtain ⟨k, rs, rids, ps', T', h, rfl, hk, hat, hfi, hnx, hbg, hhn, hft, hrl, fs, hres⟩ := hrel
        have k0 : (0 : Int) ≤ (k : Int) := by omega
        by_cases hlt : k < m
        · have k1 : (k : Int) < (m : Int) := by omega
          obtain ⟨ad, q, rfl, had, hq, hcell⟩ := H0.out.2.2.1.text hlt
          have hsz : (str q).size = q.length := str_size q
          have hdrop : l.drop k = q :: l.drop (k + 1) := by rw [List.drop_eq_getElem?_toList_append, hq]; rfl
          have hok : 1 ≤ q.length ∧ q.length ≤ 500 := by
            have h1 := List.all_eq_true.1 HK.out q (List.mem_of_getElem? hq)
            simpa using h1
          have hm6 : rs.length ≤ 126 := by have := hft.1; omega
          have htt : tot rs ≤ 504 := by have := hft.1; omega
          have hkk := fs.k
          have RM : Hid (∀ W, Below wo.heap.size wo W → Calls Try.prog 30 #[.agg #[.int .u32 h.next, .slice h.C h.k h.e]] W (RetB W (.int .i64 (roomL rs : Nat)))) := Lib.hid fun W hW => by
            have h1 := rroom_any (c := h.e) h.next ((fs.ir.r3.below hW).more hW.size) (by omega) (by omega)
            rw [hkk] at h1
            unfold roomL
            rw [hkk]
            exact h1
          obtain ⟨RO, hRO⟩ : ∃ RO, roomL rs = RO := ⟨_, rfl⟩
          rw [hRO] at RM
          have hROe : RO = 508 - (8 + 4 * rs.length + tot rs) := by rw [← hRO]; rfl
          have roI : (RO : Int) ≤ 508 := by omega
          have ro0 : (0 : Int) ≤ (RO : Int) := by omega
          have HC : Hid (∀ W, Below w.heap.size w W → W.cell? (ad.add k) = some (.string (str q))) := Lib.hid fun W hW => (hW.cell (by rw [block_of_add]; exact had)).trans hcell
          have HS : Hid (∀ W, Below wo.heap.size wo W → W.cell? ⟨G, 4, none⟩ = some (.int .u32 h.next) ∧ W.cell? ⟨G, 5, none⟩ = some (.slice h.C h.k h.e) ∧ W.cell? (ad.add k) = some (.string (str q))) := Lib.hid fun W hW =>
            ⟨(fs.bG.below hW fs.bG.lt).cell 4, (fs.bG.below hW fs.bG.lt).cell 5, HC.out W (bto0 fs.hb hW)⟩
          have HE := Lib.hid (And.intro hok (And.intro hROe (And.intro (And.intro hfi (And.intro hnx (And.intro hbg hhn))) (And.intro hrl hkk))))
          have HQ := Lib.hid (And.intro fs (And.intro hres (And.intro hdrop (And.intro hft (And.intro hat hRO)))))
          have hGlt := fs.bG.lt
          have kq6 : (h.k : Int) ≤ 126 := by omega
          have q500 : (q.length : Int) ≤ 500 := by omega
          clear fs hres hdrop hft hq hRO hfi hnx hbg hhn hrl hkk hROe hok hcell htt hm6
          go_wp2_with fail
          go_region_held3 (fun w' => w'.cell? ⟨G, 4, none⟩ = some (.int .u32 h.next) ∧ w'.cell? ⟨G, 5, none⟩ = some (.slice h.C h.k h.e) ∧ w'.cell? (ad.add k) = some (.string (str q)) ∧ Below wo.heap.size wo w')
            (first | exact ⟨(HS.out _ (Below.refl _ _)).1, (HS.out _ (Below.refl _ _)).2.1, (HS.out _ (Below.refl _ _)).2.2, Below.refl _ _⟩ | exact ⟨(HS.out _ (Below.drew (Below.refl _ _))).1, (HS.out _ (Below.drew (Below.refl _ _))).2.1, (HS.out _ (Below.drew (Below.refl _ _))).2.2, Below.drew (Below.refl _ _)⟩ | exact ⟨(HS.out _ hb2).1, (HS.out _ hb2).2.1, (HS.out _ hb2).2.2, hb2⟩ | assumption)
            (first
              | (go_at_call 30; refine (RM.out _ (by with_reducible repeat (first | exact Below.refl _ _ | refine Below.drew ?_ | refine bdr ?_ _))).mono ?_; rintro e w2 ⟨rfl, hb2'⟩; have hb2 : Below wo.heap.size wo w2 := bto0 (by with_reducible repeat (first | exact Below.refl _ _ | refine Below.drew ?_ | refine bdr ?_ _)) hb2'))
          have fs2 := Lib.hid (HQ.out.1.call hb2)
          clear hb2' RM HS
          have hz2 := hb2.size
          by_cases hroom : q.length ≤ RO
          · have e5 : ¬ RO < q.length := by omega
            have hstep : fillL (l.drop (k + 1)) ps' T' h.at_ (rs ++ [q]) (rids ++ [(h.at_, h.k)]) = RR := by rw [← HQ.out.2.1, HQ.out.2.2.1, fillL_fit (by rw [HQ.out.2.2.2.2.2]; exact hroom), HE.out.2.2.2.2]
            have hfit2 : Fits (rs ++ [q]) := by
              have hf := HQ.out.2.2.2.1
              exact hf.snoc (r := q) (fun e => by have := HE.out.1.1; rw [e] at this; simp at this) (by have := HE.out.2.1; have := HE.out.1.1; omega)
            have HST := Lib.hid (And.intro hstep hfit2)
            clear hstep hfit2 hroom
            have k3 : w2.cell? ⟨G, 3, none⟩ = some (.int .u32 h.at_) := fs2.out.bG.cell 3
            have k5 : w2.cell? ⟨G, 5, none⟩ = some (.slice h.C h.k h.e) := fs2.out.bG.cell 5
            have k6 : w2.cell? ⟨G, 6, none⟩ = some (.slice h.D h.r h.f) := fs2.out.bG.cell 6
            have hG2 := fs2.out.bG.lt
            have lbs8 := fs2.out.lbs
            have hrb : h.r ≤ 100000 := by have := fs2.out.hr; have := HE.out.2.2.2.1; omega
            go_wp2_with (first | (at_builtin; refine wpList_pushR (news := [.int .u32 (h.at_ : Int), .int .u16 (h.k : Int)]) rfl (.tmp 70) (.tmp 79) 37 rfl w.heap.size 50 i0 _ 2 8 Try.underlying37 hi0 hz0 hs0 hy0 rfl (by decide) (.slice h.D h.r h.f) h.r _ (by first | rfl | (simp [Act.eval, Act.put]; done)) fs2.out.row rfl _ (by first | rfl | (simp [Act.eval, Act.put]; done)) (by first | rfl | simp) rfl (by intro u hu; simp only [List.mem_cons, List.not_mem_nil, or_false] at hu; rcases hu with rfl | rfl <;> rfl) (by omega) (by omega) lbs8 ?_; intro v8 w8 own8 kp8 ob8; obtain ⟨D8, c8, rfl, hc8⟩ := own_form own8; have bG8 := (fs2.out.bG.alloc (.cells #[.int .u32 (h.at_ : Int), .int .u16 (h.k : Int)] 50)).grown kp8 (fun e => fs2.out.ownNe fs2.out.bG (by decide) e.symm); have g6 := bG8.frozen 6; have k66 : w8.cell? ⟨G, 6, none⟩ = some (.slice h.D h.r h.f) := bG8.cell 6; have k5 : w8.cell? ⟨G, 5, none⟩ = some (.slice h.C h.k h.e) := bG8.cell 5; have F8 := fs2.out.rid (x := (h.at_, h.k)) own8 kp8 ob8; have z8 : (w8.setCell ⟨G, 6, none⟩ (.slice D8 (h.r + 1) c8)).heap.size = w8.heap.size := (by simp [World.setCell]); have H8 := Lib.hid (And.intro F8 z8); have G8 := bG8.lt; clear own8 kp8 ob8 bG8 F8 z8 k3 k6) | (at_builtin; refine wpList_append_any _ rfl (.tmp 83) (.tmp 86) 29 rfl w8.heap.size 9 i1 (.string ⟨#[]⟩) 1 16 Try.underlying29 hi1 hz1 hs1 hy1 rfl (by decide) (.slice (some ⟨w8.heap.size, 0, none⟩) 0 0) 0 [] (by first | rfl | (simp [Act.eval, Act.put]; done)) (by rw [← H8.out.2]; exact own_empty _ _ _ rfl) w8.heap.size h.C h.k h.e (sL (rs)) (by first | rfl | (simp [Act.eval, Act.put]; done)) (by rw [← H8.out.2]; exact H8.out.1.ir.r3.alloc (Nat.le_refl _) _) (sL_one (rs)) (by unfold maxLen; omega) (by omega) (by simp [World.setCell]) ?_; intro v9 w9 own9 kp9 _; simp only [Nat.zero_add, List.nil_append] at own9; obtain ⟨A9, c9, rfl, hc9⟩ := own_form own9; have b9 : Below (w8.setCell ⟨G, 6, none⟩ (.slice D8 (h.r + 1) c8)).heap.size (w8.setCell ⟨G, 6, none⟩ (.slice D8 (h.r + 1) c8)) w9 := (ball (Below.refl _ _) _).grown kp9 (by simp) (fun k e => by simp [Value.ownBlock] at e; rw [H8.out.2]; omega); have q9 : w9.cell? (ad.add k) = some (.string (str q)) := HC.out _ (bto0 H8.out.1.hb b9); have g5 := (H8.out.1.call b9).bG.frozen 5; have z9 : w8.heap.size ≤ w9.heap.size := (by have := b9.size; rw [H8.out.2] at this; exact this); have H9 := Lib.hid (And.intro own9 b9); clear own9 kp9 b9 k5 g6 k66) | (at_builtin; refine wpList_push1 rfl (.tmp 88) (.tmp 93) 29 rfl w8.heap.size 9 i1 (.string ⟨#[]⟩) 16 Try.underlying29 hi1 hz1 hs1 hy1 rfl (.slice A9 h.k c9) h.k (sL (rs)) (.string (str q)) (by first | rfl | (simp [Act.eval, Act.put]; done)) H9.out.1 _ (by first | rfl | (simp [Act.eval, Act.put]; done)) (by first | rfl | simp) rfl (by omega) (by omega) z9 ?_; intro v10 w10 own10 kp10; obtain ⟨A10, c10, rfl, hc10⟩ := own_form own10; have b10 := below_grown H9.out.1 (by rw [H8.out.2]; exact Nat.le_refl _) z9 kp10 H9.out.2; have g55 := (H8.out.1.call b10).bG.frozen 5; have k55 : w10.cell? ⟨G, 5, none⟩ = some (.slice h.C h.k h.e) := (H8.out.1.call b10).bG.cell 5; have H10 := Lib.hid (And.intro own10 (And.intro b10 hc10)); clear own10 kp10 b10 g5 q9 hc10))
            have F10 := H8.out.1.recs (rs' := rs ++ [q]) H10.out.2.1 (by rw [H8.out.2, ← sL_snoc]; exact H10.out.1) H10.out.2.2
            exact ⟨⟨k + 1, rs ++ [q], rids ++ [(h.at_, h.k)], _, _, { { h with D := D8, r := h.r + 1, f := c8 } with C := A10, k := h.k + 1, e := c10 }, by go_num, by omega, HQ.out.2.2.2.2.1, HE.out.2.2.1.1, HE.out.2.2.1.2.1, HE.out.2.2.1.2.2.1, HE.out.2.2.1.2.2.2, HST.out.2, by rw [List.length_append, HE.out.2.2.2.1]; rfl, F10, HST.out.1⟩, by simp [intOf]; omega⟩
          · have e5 : RO < q.length := by omega
            have NX : Hid (Calls Try.prog 29 #[.agg #[.slice h.A h.n h.c, .slice h.B h.n h.d, .int .u32 h.first, .int .u32 h.at_, .int .u32 h.next, .slice h.C h.k h.e, .slice h.D h.r h.f, .bool h.began]] w2 (RetNx w2 h ps' T' rs)) := Lib.hid (hnext_any (h := h) fs2.out.ir (by rw [HE.out.2.2.1.2.2.2]; exact hn) (fun _ => ⟨by rw [HE.out.2.2.1.2.2.2]; exact HQ.out.2.2.2.2.1, HQ.out.2.2.2.1, by rw [HE.out.2.2.1.2.1]; omega⟩))
            have HR2 := Lib.hid hroom
            clear hroom
            have k0 : w2.cell? ⟨G, 0, none⟩ = some (.slice h.A h.n h.c) := fs2.out.bG.cell 0
            have g0 := fs2.out.bG.frozen 0
            have k1 : w2.cell? ⟨G, 1, none⟩ = some (.slice h.B h.n h.d) := fs2.out.bG.cell 1
            have g1 := fs2.out.bG.frozen 1
            have k2 : w2.cell? ⟨G, 2, none⟩ = some (.int .u32 h.first) := fs2.out.bG.cell 2
            have g2 := fs2.out.bG.frozen 2
            have k3 : w2.cell? ⟨G, 3, none⟩ = some (.int .u32 h.at_) := fs2.out.bG.cell 3
            have g3 := fs2.out.bG.frozen 3
            have k4 : w2.cell? ⟨G, 4, none⟩ = some (.int .u32 h.next) := fs2.out.bG.cell 4
            have g4 := fs2.out.bG.frozen 4
            have k5 : w2.cell? ⟨G, 5, none⟩ = some (.slice h.C h.k h.e) := fs2.out.bG.cell 5
            have g5 := fs2.out.bG.frozen 5
            have k6 : w2.cell? ⟨G, 6, none⟩ = some (.slice h.D h.r h.f) := fs2.out.bG.cell 6
            have g6 := fs2.out.bG.frozen 6
            have k7 : w2.cell? ⟨G, 7, none⟩ = some (.bool h.began) := fs2.out.bG.cell 7
            have g7 := fs2.out.bG.frozen 7
            have hG2 := fs2.out.bG.lt
            go_wp2_with fail
            refine NX.out.mono ?_
            rintro e w3 (⟨j, hfr, hjn, NY⟩ | ⟨hfr, HX⟩)
            · have NY : RetNy w2 h j h.first (ps'.set h.at_ (layL j rs)) ((T'.set j true).set h.at_ true) e w3 := by simpa [HE.out.2.2.1.2.2.1] using NY
              obtain ⟨h3, rfl, hnn, hf3, hat3, hnx3, hD3, hr3, hff3, hbg3, hi3, hb3, a3, b3⟩ := NY
              have hstep : fillL (l.drop (k + 1)) (ps'.set h.at_ (layL j rs)) ((T'.set j true).set h.at_ true) j [q] (rids ++ [(j, 0)]) = RR := by rw [← HQ.out.2.1, HQ.out.2.2.1, fillL_some (by rw [HQ.out.2.2.2.2.2]; exact HR2.out) hfr]
              have T3 := fs2.out.bG.below hb3 fs2.out.bG.lt
              have hG3 := T3.lt
              have hkk3 : h3.k = 0 := by have := hi3.r3.1; simp [sL] at this; omega
              have HY := Lib.hid (And.intro hnn (And.intro hf3 (And.intro hat3 (And.intro hnx3 (And.intro hD3 (And.intro hr3 (And.intro hff3 (And.intro hbg3 (And.intro hi3 (And.intro hb3 (And.intro a3 (And.intro b3 (And.intro hstep (And.intro hkk3 T3))))))))))))))
              clear NX hfr hnn hf3 hat3 hnx3 hD3 hr3 hff3 hbg3 hi3 a3 b3 hstep hkk3 T3
              clear k0 g0 k1 g1 k2 g2 k3 g3 k4 g4 k5 g5 k6 g6 k7 g7
              have k0 : w3.cell? ⟨G, 0, none⟩ = some (.slice h.A h.n h.c) := HY.out.2.2.2.2.2.2.2.2.2.2.2.2.2.2.cell 0
              have g0 := HY.out.2.2.2.2.2.2.2.2.2.2.2.2.2.2.frozen 0
              have k1 : w3.cell? ⟨G, 1, none⟩ = some (.slice h.B h.n h.d) := HY.out.2.2.2.2.2.2.2.2.2.2.2.2.2.2.cell 1
              have g1 := HY.out.2.2.2.2.2.2.2.2.2.2.2.2.2.2.frozen 1
              have k2 : w3.cell? ⟨G, 2, none⟩ = some (.int .u32 h.first) := HY.out.2.2.2.2.2.2.2.2.2.2.2.2.2.2.cell 2
              have g2 := HY.out.2.2.2.2.2.2.2.2.2.2.2.2.2.2.frozen 2
              have k3 : w3.cell? ⟨G, 3, none⟩ = some (.int .u32 h.at_) := HY.out.2.2.2.2.2.2.2.2.2.2.2.2.2.2.cell 3
              have g3 := HY.out.2.2.2.2.2.2.2.2.2.2.2.2.2.2.frozen 3
              have k4 : w3.cell? ⟨G, 4, none⟩ = some (.int .u32 h.next) := HY.out.2.2.2.2.2.2.2.2.2.2.2.2.2.2.cell 4
              have g4 := HY.out.2.2.2.2.2.2.2.2.2.2.2.2.2.2.frozen 4
              have k5 : w3.cell? ⟨G, 5, none⟩ = some (.slice h.C h.k h.e) := HY.out.2.2.2.2.2.2.2.2.2.2.2.2.2.2.cell 5
              have g5 := HY.out.2.2.2.2.2.2.2.2.2.2.2.2.2.2.frozen 5
              have k6 : w3.cell? ⟨G, 6, none⟩ = some (.slice h.D h.r h.f) := HY.out.2.2.2.2.2.2.2.2.2.2.2.2.2.2.cell 6
              have g6 := HY.out.2.2.2.2.2.2.2.2.2.2.2.2.2.2.frozen 6
              have k7 : w3.cell? ⟨G, 7, none⟩ = some (.bool h.began) := HY.out.2.2.2.2.2.2.2.2.2.2.2.2.2.2.cell 7
              have g7 := HY.out.2.2.2.2.2.2.2.2.2.2.2.2.2.2.frozen 7
              unfold Hh.arr
              go_upto_region 16 with fail
              obtain ⟨W4, hW4⟩ : ∃ W4, ((((((((w3).setCell ⟨G, 0, none⟩ (.slice h3.A h3.n h3.c)).setCell ⟨G, 1, none⟩ (.slice h3.B h3.n h3.d)).setCell ⟨G, 2, none⟩ (.int .u32 h3.first)).setCell ⟨G, 3, none⟩ (.int .u32 h3.at_)).setCell ⟨G, 4, none⟩ (.int .u32 h3.next)).setCell ⟨G, 5, none⟩ (.slice h3.C h3.k h3.e)).setCell ⟨G, 6, none⟩ (.slice h3.D h3.r h3.f)).setCell ⟨G, 7, none⟩ (.bool h3.began) = W4 := ⟨_, rfl⟩
              have S4 : Sets w3 W4 G := hW4 ▸ sets8 _ _ _ _ _ _ _ _
              have B4 : Blk W4 G 43 h3.arr := hW4 ▸ blk8 HY.out.2.2.2.2.2.2.2.2.2.2.2.2.2.2
              rw [hW4]
              clear hW4 k0 g0 k1 g1 k2 g2 k3 g3 k4 g4 k5 g5 k6 g6 k7 g7
              have F4 := fs2.out.nxt HY.out.2.2.2.2.2.2.2.2.2.1 HY.out.2.2.2.2.2.2.2.2.1 HY.out.2.2.2.2.1 HY.out.2.2.2.2.2.1 HY.out.2.2.2.2.2.2.1 HY.out.1 HY.out.2.2.2.2.2.2.2.2.2.2.1 HY.out.2.2.2.2.2.2.2.2.2.2.2.1 S4 B4
              obtain ⟨W6, hW6⟩ : ∃ W6, W4.alloc (.cells #[.slice h3.A h3.n h3.c, .slice h3.B h3.n h3.d, .int .u32 h3.first, .int .u32 h3.at_, .int .u32 h3.next, .slice h3.C h3.k h3.e, .slice h3.D h3.r h3.f, .bool h3.began] 43) = W6 := ⟨_, rfl⟩
              have fs4 := Lib.hid (hW6 ▸ F4.call (ball (Below.refl _ _) _) : FS w A A2 W6 (w.heap.size + 1) G w.heap.size h3 _ _ [] rids)
              rw [hW6]
              clear hW6 F4 S4 B4 hb3 hG3 hG2
              have hkq : h3.k ≤ 126 := by have := HY.out.2.2.2.2.2.2.2.2.2.2.2.2.2.1; omega
              have kq7 : (h3.k : Int) ≤ 126 := by omega
              have hfit2 : Fits [q] := Fits.nil.snoc (r := q) (fun e => by have := HE.out.1.1; rw [e] at this; simp at this) (by have := HE.out.1.2; simp [tot, bk]; omega)
              have HST := Lib.hid hfit2
              clear hfit2
              have k3 : W6.cell? ⟨G, 3, none⟩ = some (.int .u32 h3.at_) := fs4.out.bG.cell 3
              have k5 : W6.cell? ⟨G, 5, none⟩ = some (.slice h3.C h3.k h3.e) := fs4.out.bG.cell 5
              have k6 : W6.cell? ⟨G, 6, none⟩ = some (.slice h3.D h3.r h3.f) := fs4.out.bG.cell 6
              have hG2 := fs4.out.bG.lt
              have lbs8 := fs4.out.lbs
              have hrb : h3.r ≤ 100000 := by have := fs4.out.hr; have := HE.out.2.2.2.1; omega
              go_wp2_with (first | (at_builtin; refine wpList_pushR (news := [.int .u32 (h3.at_ : Int), .int .u16 (h3.k : Int)]) rfl (.tmp 70) (.tmp 79) 37 rfl w.heap.size 50 i0 _ 2 8 Try.underlying37 hi0 hz0 hs0 hy0 rfl (by decide) (.slice h3.D h3.r h3.f) h3.r _ (by first | rfl | (simp [Act.eval, Act.put]; done)) fs4.out.row rfl _ (by first | rfl | (simp [Act.eval, Act.put]; done)) (by first | rfl | simp) rfl (by intro u hu; simp only [List.mem_cons, List.not_mem_nil, or_false] at hu; rcases hu with rfl | rfl <;> rfl) (by omega) (by omega) lbs8 ?_; intro v8 w8 own8 kp8 ob8; obtain ⟨D8, c8, rfl, hc8⟩ := own_form own8; have bG8 := (fs4.out.bG.alloc (.cells #[.int .u32 (h3.at_ : Int), .int .u16 (h3.k : Int)] 50)).grown kp8 (fun e => fs4.out.ownNe fs4.out.bG (by decide) e.symm); have g6 := bG8.frozen 6; have k66 : w8.cell? ⟨G, 6, none⟩ = some (.slice h3.D h3.r h3.f) := bG8.cell 6; have k5 : w8.cell? ⟨G, 5, none⟩ = some (.slice h3.C h3.k h3.e) := bG8.cell 5; have F8 := fs4.out.rid (x := (h3.at_, h3.k)) own8 kp8 ob8; have z8 : (w8.setCell ⟨G, 6, none⟩ (.slice D8 (h3.r + 1) c8)).heap.size = w8.heap.size := (by simp [World.setCell]); have H8 := Lib.hid (And.intro F8 z8); have G8 := bG8.lt; clear own8 kp8 ob8 bG8 F8 z8 k3 k6) | (at_builtin; refine wpList_append_any _ rfl (.tmp 83) (.tmp 86) 29 rfl w8.heap.size 9 i1 (.string ⟨#[]⟩) 1 16 Try.underlying29 hi1 hz1 hs1 hy1 rfl (by decide) (.slice (some ⟨w8.heap.size, 0, none⟩) 0 0) 0 [] (by first | rfl | (simp [Act.eval, Act.put]; done)) (by rw [← H8.out.2]; exact own_empty _ _ _ rfl) w8.heap.size h3.C h3.k h3.e (sL (([] : List (List UInt8)))) (by first | rfl | (simp [Act.eval, Act.put]; done)) (by rw [← H8.out.2]; exact H8.out.1.ir.r3.alloc (Nat.le_refl _) _) (sL_one (([] : List (List UInt8)))) (by unfold maxLen; omega) (by omega) (by simp [World.setCell]) ?_; intro v9 w9 own9 kp9 _; simp only [Nat.zero_add, List.nil_append] at own9; obtain ⟨A9, c9, rfl, hc9⟩ := own_form own9; have b9 : Below (w8.setCell ⟨G, 6, none⟩ (.slice D8 (h3.r + 1) c8)).heap.size (w8.setCell ⟨G, 6, none⟩ (.slice D8 (h3.r + 1) c8)) w9 := (ball (Below.refl _ _) _).grown kp9 (by simp) (fun k e => by simp [Value.ownBlock] at e; rw [H8.out.2]; omega); have q9 : w9.cell? (ad.add k) = some (.string (str q)) := HC.out _ (bto0 H8.out.1.hb b9); have g5 := (H8.out.1.call b9).bG.frozen 5; have z9 : w8.heap.size ≤ w9.heap.size := (by have := b9.size; rw [H8.out.2] at this; exact this); have H9 := Lib.hid (And.intro own9 b9); clear own9 kp9 b9 k5 g6 k66) | (at_builtin; refine wpList_push1 rfl (.tmp 88) (.tmp 93) 29 rfl w8.heap.size 9 i1 (.string ⟨#[]⟩) 16 Try.underlying29 hi1 hz1 hs1 hy1 rfl (.slice A9 h3.k c9) h3.k (sL (([] : List (List UInt8)))) (.string (str q)) (by first | rfl | (simp [Act.eval, Act.put]; done)) H9.out.1 _ (by first | rfl | (simp [Act.eval, Act.put]; done)) (by first | rfl | simp) rfl (by omega) (by omega) z9 ?_; intro v10 w10 own10 kp10; obtain ⟨A10, c10, rfl, hc10⟩ := own_form own10; have b10 := below_grown H9.out.1 (by rw [H8.out.2]; exact Nat.le_refl _) z9 kp10 H9.out.2; have g55 := (H8.out.1.call b10).bG.frozen 5; have k55 : w10.cell? ⟨G, 5, none⟩ = some (.slice h3.C h3.k h3.e) := (H8.out.1.call b10).bG.cell 5; have H10 := Lib.hid (And.intro own10 (And.intro b10 hc10)); clear own10 kp10 b10 g5 q9 hc10))
              have F10 := H8.out.1.recs (rs' := ([] : List (List UInt8)) ++ [q]) H10.out.2.1 (by rw [H8.out.2, ← sL_snoc]; exact H10.out.1) H10.out.2.2
              exact ⟨⟨k + 1, ([] : List (List UInt8)) ++ [q], rids ++ [(h3.at_, h3.k)], _, _, { { h3 with D := D8, r := h3.r + 1, f := c8 } with C := A10, k := h3.k + 1, e := c10 }, by go_num, by omega, by show h3.at_ < n; rw [HY.out.2.2.1]; have := HE.out.2.2.1.2.2.2; omega, HY.out.2.1.trans HE.out.2.2.1.1, HY.out.2.2.2.1, HY.out.2.2.2.2.2.2.2.1, HY.out.1.trans HE.out.2.2.1.2.2.2, HST.out, by rw [List.length_append, HE.out.2.2.2.1]; rfl, F10, by rw [HY.out.2.2.1, HY.out.2.2.2.2.2.2.2.2.2.2.2.2.2.1]; exact HY.out.2.2.2.2.2.2.2.2.2.2.2.2.1⟩, by simp [intOf]; omega⟩
            · have HX : RetHx w2 h 7 (ps'.set h.at_ (layL 0 rs)) (T'.set h.at_ true) rs e w3 := by simpa [HE.out.2.2.1.2.2.1, HE.out.2.2.1.2.1] using HX
              obtain ⟨h3, rfl, hnn, hi3, hb3, a3, b3⟩ := HX
              have hstep : (ps'.set h.at_ (layL 0 rs), T'.set h.at_ true, none) = RR := by rw [← HQ.out.2.1, HQ.out.2.2.1, fillL_none (by rw [HQ.out.2.2.2.2.2]; exact HR2.out) hfr]
              have T3 := fs2.out.bG.below hb3 fs2.out.bG.lt
              have R3 := fs2.out.bR.below hb3 fs2.out.bR.lt
              have hG3 := T3.lt
              have hR3 := R3.lt
              have HY := Lib.hid (And.intro hnn (And.intro hi3 (And.intro hb3 (And.intro a3 (And.intro b3 (And.intro hstep (And.intro R3 T3)))))))
              clear NX hfr hnn hi3 a3 b3 hstep T3 R3
              clear k0 g0 k1 g1 k2 g2 k3 g3 k4 g4 k5 g5 k6 g6 k7 g7
              have k0 : w3.cell? ⟨G, 0, none⟩ = some (.slice h.A h.n h.c) := HY.out.2.2.2.2.2.2.2.cell 0
              have g0 := HY.out.2.2.2.2.2.2.2.frozen 0
              have k1 : w3.cell? ⟨G, 1, none⟩ = some (.slice h.B h.n h.d) := HY.out.2.2.2.2.2.2.2.cell 1
              have g1 := HY.out.2.2.2.2.2.2.2.frozen 1
              have k2 : w3.cell? ⟨G, 2, none⟩ = some (.int .u32 h.first) := HY.out.2.2.2.2.2.2.2.cell 2
              have g2 := HY.out.2.2.2.2.2.2.2.frozen 2
              have k3 : w3.cell? ⟨G, 3, none⟩ = some (.int .u32 h.at_) := HY.out.2.2.2.2.2.2.2.cell 3
              have g3 := HY.out.2.2.2.2.2.2.2.frozen 3
              have k4 : w3.cell? ⟨G, 4, none⟩ = some (.int .u32 h.next) := HY.out.2.2.2.2.2.2.2.cell 4
              have g4 := HY.out.2.2.2.2.2.2.2.frozen 4
              have k5 : w3.cell? ⟨G, 5, none⟩ = some (.slice h.C h.k h.e) := HY.out.2.2.2.2.2.2.2.cell 5
              have g5 := HY.out.2.2.2.2.2.2.2.frozen 5
              have k6 : w3.cell? ⟨G, 6, none⟩ = some (.slice h.D h.r h.f) := HY.out.2.2.2.2.2.2.2.cell 6
              have g6 := HY.out.2.2.2.2.2.2.2.frozen 6
              have k7 : w3.cell? ⟨G, 7, none⟩ = some (.bool h.began) := HY.out.2.2.2.2.2.2.2.cell 7
              have g7 := HY.out.2.2.2.2.2.2.2.frozen 7
              unfold Hh.arr
              go_upto_region 16 with fail
              obtain ⟨W4, hW4⟩ : ∃ W4, ((((((((w3).setCell ⟨G, 0, none⟩ (.slice h3.A h3.n h3.c)).setCell ⟨G, 1, none⟩ (.slice h3.B h3.n h3.d)).setCell ⟨G, 2, none⟩ (.int .u32 h3.first)).setCell ⟨G, 3, none⟩ (.int .u32 h3.at_)).setCell ⟨G, 4, none⟩ (.int .u32 h3.next)).setCell ⟨G, 5, none⟩ (.slice h3.C h3.k h3.e)).setCell ⟨G, 6, none⟩ (.slice h3.D h3.r h3.f)).setCell ⟨G, 7, none⟩ (.bool h3.began) = W4 := ⟨_, rfl⟩
              have S4 : Sets w3 W4 G := hW4 ▸ sets8 _ _ _ _ _ _ _ _
              have B4 : Blk W4 G 43 h3.arr := hW4 ▸ blk8 HY.out.2.2.2.2.2.2.2
              rw [hW4]
              clear hW4 k0 g0 k1 g1 k2 g2 k3 g3 k4 g4 k5 g5 k6 g6 k7 g7
              have R4 := HY.out.2.2.2.2.2.2.1.grown S4.grown (by have := fs2.out.lG; simp; omega)
              have hG4 := B4.lt
              have hR4 := R4.lt
              have HZ := Lib.hid (And.intro S4 (And.intro B4 R4))
              have k0 : W4.cell? ⟨G, 0, none⟩ = some (.slice h3.A h3.n h3.c) := B4.cell 0
              have k1 : W4.cell? ⟨G, 1, none⟩ = some (.slice h3.B h3.n h3.d) := B4.cell 1
              have k2 : W4.cell? ⟨G, 2, none⟩ = some (.int .u32 h3.first) := B4.cell 2
              have k3 : W4.cell? ⟨G, 3, none⟩ = some (.int .u32 h3.at_) := B4.cell 3
              have k4 : W4.cell? ⟨G, 4, none⟩ = some (.int .u32 h3.next) := B4.cell 4
              have k5 : W4.cell? ⟨G, 5, none⟩ = some (.slice h3.C h3.k h3.e) := B4.cell 5
              have k6 : W4.cell? ⟨G, 6, none⟩ = some (.slice h3.D h3.r h3.f) := B4.cell 6
              have k7 : W4.cell? ⟨G, 7, none⟩ = some (.bool h3.began) := B4.cell 7
              have p0 : W4.cell? ⟨w.heap.size + 1, 0, none⟩ = some (.slice none 0 0) := R4.cell 0
              have g0 := R4.frozen 0
              have p1 : W4.cell? ⟨w.heap.size + 1, 1, none⟩ = some (.slice none 0 0) := R4.cell 1
              have g1 := R4.frozen 1
              have p2 : W4.cell? ⟨w.heap.size + 1, 2, none⟩ = some (.int .u32 0) := R4.cell 2
              have g2 := R4.frozen 2
              have p3 : W4.cell? ⟨w.heap.size + 1, 3, none⟩ = some (.int .u32 0) := R4.cell 3
              have g3 := R4.frozen 3
              have p4 : W4.cell? ⟨w.heap.size + 1, 4, none⟩ = some (.int .u32 0) := R4.cell 4
              have g4 := R4.frozen 4
              have p5 : W4.cell? ⟨w.heap.size + 1, 5, none⟩ = some (.slice none 0 0) := R4.cell 5
              have g5 := R4.frozen 5
              have p6 : W4.cell? ⟨w.heap.size + 1, 6, none⟩ = some (.slice none 0 0) := R4.cell 6
              have g6 := R4.frozen 6
              have p7 : W4.cell? ⟨w.heap.size + 1, 7, none⟩ = some (.bool false) := R4.cell 7
              have g7 := R4.frozen 7
              clear S4 B4 R4
              go_wp2
              obtain ⟨W5, hW5⟩ : ∃ W5, ((((((((W4).setCell ⟨w.heap.size + 1, 0, none⟩ (.slice h3.A h3.n h3.c)).setCell ⟨w.heap.size + 1, 1, none⟩ (.slice h3.B h3.n h3.d)).setCell ⟨w.heap.size + 1, 2, none⟩ (.int .u32 h3.first)).setCell ⟨w.heap.size + 1, 3, none⟩ (.int .u32 h3.at_)).setCell ⟨w.heap.size + 1, 4, none⟩ (.int .u32 h3.next)).setCell ⟨w.heap.size + 1, 5, none⟩ (.slice h3.C h3.k h3.e)).setCell ⟨w.heap.size + 1, 6, none⟩ (.slice h3.D h3.r h3.f)).setCell ⟨w.heap.size + 1, 7, none⟩ (.bool h3.began) = W5 := ⟨_, rfl⟩
              have S5 : Sets W4 W5 (w.heap.size + 1) := hW5 ▸ sets8 _ _ _ _ _ _ _ _
              have B5 : Blk W5 (w.heap.size + 1) 43 h3.arr := hW5 ▸ blk8 HZ.out.2.2
              rw [hW5]
              clear hW5 k0 g0 p0 k1 g1 p1 k2 g2 p2 k3 g3 p3 k4 g4 p4 k5 g5 p5 k6 g6 p6 k7 g7 p7
              refine rfill_end (h := h3) (R := w.heap.size + 1) (v := .int .i64 7) ?_ (by simp) (by simp) ?_
              · exact B5.alloc _
              · rw [HRes.out, HF.out.2.2.2.2.2.2, ← HY.out.2.2.2.2.2.1]
                have b5 : Below w.heap.size w W5 := S5.below (HZ.out.1.below (bto0 fs2.out.hb HY.out.2.2.1) (by have := fs2.out.lG; omega)) (by omega)
                have nX : ∀ (X Y : Option Addr), Nb w2 X h.n (w.heap.size + 1) G (.slice h.D h.r h.f) → (∀ ad, Y = some ad → X = some ad ∨ w2.heap.size ≤ ad.block) → 0 < h3.n → ∀ ad, Y = some ad → ad.block ≠ w.heap.size + 1 ∧ ad.block ≠ G := fun X Y h8 h9 hp ad e => by
                  have h10 := HY.out.1
                  rcases h9 ad e with h4 | h4
                  · exact ⟨(h8 (by omega) ad h4).2.1, (h8 (by omega) ad h4).2.2.1⟩
                  · have := fs2.out.bR.lt
                    have := fs2.out.bG.lt
                    exact ⟨by omega, by omega⟩
                refine ⟨h3, rfl, HY.out.1.trans HE.out.2.2.1.2.2.2, HY.out.2.1.c1, HY.out.2.1.c2, reads_alloc (reads_grown (reads_grown HY.out.2.1.r1 HZ.out.1.grown fun hp ad e => ?_) S5.grown fun hp ad e => ?_) _, reads_alloc (reads_grown (reads_grown HY.out.2.1.r2 HZ.out.1.grown fun hp ad e => ?_) S5.grown fun hp ad e => ?_) _, fun h => absurd h (show (7 : Int) ≠ 0 by decide), ball b5 _, fun ad e => (HY.out.2.2.2.1 ad e).elim (fs2.out.oA ad) (fun h => .inr (Nat.le_trans fs2.out.hb.size h)), fun ad e => (HY.out.2.2.2.2.1 ad e).elim (fs2.out.oB ad) (fun h => .inr (Nat.le_trans fs2.out.hb.size h))⟩
                · have := (nX _ _ fs2.out.nA HY.out.2.2.2.1 hp ad e).2; simp; omega
                · have := (nX _ _ fs2.out.nA HY.out.2.2.2.1 hp ad e).1; simp; omega
                · have := (nX _ _ fs2.out.nB HY.out.2.2.2.2.1 hp ad e).2; simp; omega
                · have := (nX _ _ fs2.out.nB HY.out.2.2.2.2.1 hp ad e).1; simp; omega
        · obtain rfl : m = k := by omega
          have WR : Hid (Calls Try.prog 31 #[.agg #[.slice h.A h.n h.c, .slice h.B h.n h.d, .int .u32 h.first, .int .u32 h.at_, .int .u32 h.next, .slice h.C h.k h.e, .slice h.D h.r h.f, .bool h.began]] wo (RetHw wo h ps' T' rs)) := Lib.hid (hwrite_any (h := h) fs.ir (by rw [hhn]; exact hat) (by rw [hhn]; exact hn) hft (by omega))
          have hend : (ps'.set h.at_ (layL 0 rs), T'.set h.at_ true, some rids) = RR := by rw [← hres, List.drop_of_length_le (by omega)]; rfl
          have HQ := Lib.hid (And.intro fs (And.intro hend (And.intro hfi (And.intro hnx (And.intro hhn hrl)))))
          have hGlt := fs.bG.lt
          have k0 : wo.cell? ⟨G, 0, none⟩ = some (.slice h.A h.n h.c) := fs.bG.cell 0
          have k1 : wo.cell? ⟨G, 1, none⟩ = some (.slice h.B h.n h.d) := fs.bG.cell 1
          have k2 : wo.cell? ⟨G, 2, none⟩ = some (.int .u32 h.first) := fs.bG.cell 2
          have k3 : wo.cell? ⟨G, 3, none⟩ = some (.int .u32 h.at_) := fs.bG.cell 3
          have k4 : wo.cell? ⟨G, 4, none⟩ = some (.int .u32 h.next) := fs.bG.cell 4
          have k5 : wo.cell? ⟨G, 5, none⟩ = some (.slice h.C h.k h.e) := fs.bG.cell 5
          have k6 : wo.cell? ⟨G, 6, none⟩ = some (.slice h.D h.r h.f) := fs.bG.cell 6
          have k7 : wo.cell? ⟨G, 7, none⟩ = some (.bool h.began) := fs.bG.cell 7
          clear fs hres hend hfi hnx hhn hrl hft hat hbg
          go_wp2_with fail
          refine WR.out.mono ?_
          intro e w3 H3
          obtain ⟨A4, c4, B4, d4, rfl, q1, q2, r4, s4, l4, m4, hb4⟩ := H3.out
          clear H3 WR
          have R3 := HQ.out.1.bR.below hb4 HQ.out.1.bR.lt
          have row3 := own_kept_below HQ.out.1.row hb4
          have hR3 := R3.lt
          have hb3 := bto0 HQ.out.1.hb hb4
          have hRo := HQ.out.1.bR.lt
          have HZ := Lib.hid (And.intro R3 (And.intro row3 (And.intro q1 (And.intro q2 (And.intro r4 (And.intro s4 (And.intro hb3 (And.intro l4 m4))))))))
          have p0 : w3.cell? ⟨w.heap.size + 1, 0, none⟩ = some (.slice none 0 0) := R3.cell 0
          have g0 := R3.frozen 0
          have p1 : w3.cell? ⟨w.heap.size + 1, 1, none⟩ = some (.slice none 0 0) := R3.cell 1
          have g1 := R3.frozen 1
          have p2 : w3.cell? ⟨w.heap.size + 1, 2, none⟩ = some (.int .u32 0) := R3.cell 2
          have g2 := R3.frozen 2
          have p3 : w3.cell? ⟨w.heap.size + 1, 3, none⟩ = some (.int .u32 0) := R3.cell 3
          have g3 := R3.frozen 3
          have p4 : w3.cell? ⟨w.heap.size + 1, 4, none⟩ = some (.int .u32 0) := R3.cell 4
          have g4 := R3.frozen 4
          have p5 : w3.cell? ⟨w.heap.size + 1, 5, none⟩ = some (.slice none 0 0) := R3.cell 5
          have g5 := R3.frozen 5
          have p6 : w3.cell? ⟨w.heap.size + 1, 6, none⟩ = some (.slice none 0 0) := R3.cell 6
          have g6 := R3.frozen 6
          have p7 : w3.cell? ⟨w.heap.size + 1, 7, none⟩ = some (.bool false) := R3.cell 7
          have g7 := R3.frozen 7
          clear R3 row3 q1 q2 r4 s4 hb3 l4 m4 hb4 k0 k1 k2 k3 k4 k5 k6 k7
          go_wp2
          obtain ⟨W5, hW5⟩ : ∃ W5, ((((((((w3).setCell ⟨w.heap.size + 1, 0, none⟩ (.slice A4 h.n c4)).setCell ⟨w.heap.size + 1, 1, none⟩ (.slice B4 h.n d4)).setCell ⟨w.heap.size + 1, 2, none⟩ (.int .u32 h.first)).setCell ⟨w.heap.size + 1, 3, none⟩ (.int .u32 h.at_)).setCell ⟨w.heap.size + 1, 4, none⟩ (.int .u32 h.next)).setCell ⟨w.heap.size + 1, 5, none⟩ (.slice h.C h.k h.e)).setCell ⟨w.heap.size + 1, 6, none⟩ (.slice h.D h.r h.f)).setCell ⟨w.heap.size + 1, 7, none⟩ (.bool h.began) = W5 := ⟨_, rfl⟩
          have S5 : Sets w3 W5 (w.heap.size + 1) := hW5 ▸ sets8 _ _ _ _ _ _ _ _
          have B5 : Blk W5 (w.heap.size + 1) 43 (Hh.arr ⟨A4, h.n, c4, B4, d4, h.first, h.at_, h.next, h.C, h.k, h.e, h.D, h.r, h.f, h.began⟩) := hW5 ▸ blk8 HZ.out.1
          rw [hW5]
          clear hW5 g0 p0 g1 p1 g2 p2 g3 p3 g4 p4 g5 p5 g6 p6 g7 p7
          refine rfill_end (h := ⟨A4, h.n, c4, B4, d4, h.first, h.at_, h.next, h.C, h.k, h.e, h.D, h.r, h.f, h.began⟩) (R := w.heap.size + 1) (v := .int .i64 0) ?_ (by simp) (by simp) ?_
          · exact B5
          · rw [HRes.out, HF.out.2.2.2.2.2.2, ← HQ.out.2.1]
            have b5 : Below w.heap.size w W5 := S5.below HZ.out.2.2.2.2.2.2.1 (by omega)
            have row5 := HZ.out.2.1.kept S5.grown (.inr fun e => by
              obtain ⟨cs', hb⟩ := ownR_blk HZ.out.2.1 e
              exact hb.ne_ HZ.out.1 (by decide) rfl)
            have hnn := HQ.out.2.2.2.2.1
            have r4 := HZ.out.2.2.2.2.1
            rw [HQ.out.2.2.2.1] at r4
            refine ⟨⟨A4, h.n, c4, B4, d4, h.first, h.at_, h.next, h.C, h.k, h.e, h.D, h.r, h.f, h.began⟩, rfl, hnn, HZ.out.2.2.1, HZ.out.2.2.2.1, reads_grown r4 S5.grown fun hp ad e => ?_, reads_grown HZ.out.2.2.2.2.2.1 S5.grown fun hp ad e => ?_, fun _ => ⟨HQ.out.2.2.1, HQ.out.1.hr, Reads.of_own row5, own_hi row5⟩, b5, fun ad e => .inr (Nat.le_trans HQ.out.1.hb.size (HZ.out.2.2.2.2.2.2.2.1 ad e)), fun ad e => .inr (Nat.le_trans HQ.out.1.hb.size (HZ.out.2.2.2.2.2.2.2.2 ad e))⟩
            · have := HZ.out.2.2.2.2.2.2.2.1 ad e; simp; omega
            · have := HZ.out.2.2.2.2.2.2.2.2 ad e; simp; omega
end
end Go.Proofs.Ytdimkeoncgjegaa
