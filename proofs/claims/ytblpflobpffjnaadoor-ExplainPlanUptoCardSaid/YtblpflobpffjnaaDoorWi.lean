
/-
  The program's path.
-/
import Derived.Test.YtblpflobpffjnaaDoorWh
set_option linter.unusedSimpArgs false
set_option linter.unusedVariables false
namespace Go.Proofs.YtblpflobpffjnaaDoor
open Go.RowKit

section
variable {w : World} {Bd : Nat} {A : Option Addr} {n : Nat} {tbs : List Tb} {B : Option Addr} {m : Nat} {ixs : List Ix} {K : Option Addr} {kn : Nat} {ks : List Int}
set_option maxRecDepth 100000 in
set_option maxHeartbeats 4000000 in
theorem path_any (E : EnvB w Bd A n tbs B m ixs K kn ks) (hBd : Bd ≤ w.heap.size) (hv : VT w) (c d : Nat) (x : Sp) (hx : x.ok) :
    Calls Tryd.prog 40 #[.agg #[.slice A n c, .slice B m d], x.path] w (RetW (pthL ixs x) w) := by
  obtain ⟨xtb, xm, xpk, xpi, rA, rn, rc, cA, cn, cc, xpo, aA, an, ac, mA, mn, mc, xix, xjn⟩ := x
  have hpi := hx.pi
  have hpo := hx.po
  have hrn := hx.rn
  have han := hx.an
  clear hx
  unfold Sp.path pthL
  simp only at *
  obtain ⟨WA, hWA⟩ : ∃ WA, (w.alloc (.cells #[.slice A n c, .slice B m d] 25)).alloc (.cells #[.int .u8 xpk, .int .i64 xpi, .slice rA rn rc, .slice cA cn cc, .int .i64 xpo, .slice aA an ac, .slice mA mn mc] 69) = WA := ⟨_, rfl⟩
  have hbA : Below w.heap.size w WA := hWA ▸ ball (ball (Below.refl w.heap.size w) _) _
  have B0 : Blk WA w.heap.size 25 #[.slice A n c, .slice B m d] := hWA ▸ (Blk.new w _ _).alloc _
  have B1 : Blk WA (w.heap.size + 1) 69 #[.int .u8 xpk, .int .i64 xpi, .slice rA rn rc, .slice cA cn cc, .int .i64 xpo, .slice aA an ac, .slice mA mn mc] := by
    have h := Blk.new (w.alloc (.cells #[.slice A n c, .slice B m d] 25)) 69 #[.int .u8 xpk, .int .i64 xpi, .slice rA rn rc, .slice cA cn cc, .int .i64 xpo, .slice aA an ac, .slice mA mn mc]
    rw [alloc_size] at h
    exact hWA ▸ h
  have hzA : w.heap.size + 1 < WA.heap.size := B1.lt
  have rI : I64 (rn : Int) := by unfold maxLen at hrn; constructor <;> omega
  have aI : I64 (an : Int) := by unfold maxLen at han; constructor <;> omega
  have rI' : (rn : Int) ≤ 9223372036854775807 := rI.2
  have aI' : (an : Int) ≤ 9223372036854775807 := aI.2
  have HI1 := Lib.hid fun (W : World) (hb : Below WA.heap.size WA W) => index_any (E.below ((bto0 hbA hb).mono hBd)) (Nat.le_trans hBd (bto0 hbA hb).size) c d xpi hpi
  have HI2 := Lib.hid fun (W : World) (hb : Below WA.heap.size WA W) => index_any (E.below ((bto0 hbA hb).mono hBd)) (Nat.le_trans hBd (bto0 hbA hb).size) c d xpo hpo
  have HT1 := Lib.hid fun (W : World) (hb : Below WA.heap.size WA W) => itoa_any (rn : Int) rI W (hv.below0 (bto0 hbA hb))
  have HT2 := Lib.hid fun (W : World) (hb : Below WA.heap.size WA W) => itoa_any (an : Int) aI W (hv.below0 (bto0 hbA hb))
  have hS := Lib.hid fun (W : World) (hb : Below WA.heap.size WA W) => (show W.cell? ⟨w.heap.size, 0, none⟩ = some (.slice A n c) ∧ W.cell? ⟨w.heap.size, 1, none⟩ = some (.slice B m d) ∧ W.cell? ⟨w.heap.size + 1, 1, none⟩ = some (.int .i64 xpi) ∧ W.cell? ⟨w.heap.size + 1, 2, none⟩ = some (.slice rA rn rc) ∧ W.cell? ⟨w.heap.size + 1, 4, none⟩ = some (.int .i64 xpo) ∧ W.cell? ⟨w.heap.size + 1, 5, none⟩ = some (.slice aA an ac) ∧ Below WA.heap.size WA W from
    ⟨(hb.cell (by simp; omega)).trans (B0.cell 0), (hb.cell (by simp; omega)).trans (B0.cell 1), (hb.cell (by simp; omega)).trans (B1.cell 1), (hb.cell (by simp; omega)).trans (B1.cell 2), (hb.cell (by simp; omega)).trans (B1.cell 4), (hb.cell (by simp; omega)).trans (B1.cell 5), hb⟩)
  have HBA := Lib.hid hbA
  have k0 : WA.cell? ⟨w.heap.size + 1, 0, none⟩ = some (.int .u8 xpk) := B1.cell 0
  have nu : w.heap.size < WA.heap.size := by omega
  clear E hv hrn han rI aI B0 B1 hbA hpi hpo
  by_cases h0 : xpk = 0
  · rw [if_pos h0]
    subst h0
    go_enter Tryd.func40, Tryd.ntmps40
    go_wp2
    go_ret
    exact retW HBA.out (by first | rfl | simp) rfl rfl
  · rw [if_neg h0]
    have b0 : (xpk == 0) = false := beq_eq_false_iff_ne.2 h0
    by_cases h1 : xpk = 1
    · rw [if_pos h1]
      subst h1
      go_enter Tryd.func40, Tryd.ntmps40
      go_wp2
      go_region_held3 (fun W => W.cell? ⟨w.heap.size, 0, none⟩ = some (.slice A n c) ∧ W.cell? ⟨w.heap.size, 1, none⟩ = some (.slice B m d) ∧ W.cell? ⟨w.heap.size + 1, 1, none⟩ = some (.int .i64 xpi) ∧ W.cell? ⟨w.heap.size + 1, 2, none⟩ = some (.slice rA rn rc) ∧ W.cell? ⟨w.heap.size + 1, 4, none⟩ = some (.int .i64 xpo) ∧ W.cell? ⟨w.heap.size + 1, 5, none⟩ = some (.slice aA an ac) ∧ Below WA.heap.size WA W)
        (first | exact hS.out _ (by (with_reducible repeat (first | exact Below.refl _ _ | exact hb2 | exact hb1 | refine bto0 ?_ hb2 | refine bto0 ?_ hb1 | refine bdr ?_ _ | refine Below.drew ?_ | refine ball ?_ _))) | assumption)
        (first
          | (go_at_call 39; (with_reducible refine (HI1.out _ (by (with_reducible repeat (first | exact Below.refl _ _ | exact hb2 | exact hb1 | refine bto0 ?_ hb2 | refine bto0 ?_ hb1 | refine bdr ?_ _ | refine Below.drew ?_ | refine ball ?_ _)))).mono ?_); rintro e w1 ⟨rfl, hb1⟩)
          | (go_at_call 38; (with_reducible refine (HT1.out _ (by (with_reducible repeat (first | exact Below.refl _ _ | exact hb2 | exact hb1 | refine bto0 ?_ hb2 | refine bto0 ?_ hb1 | refine bdr ?_ _ | refine Below.drew ?_ | refine ball ?_ _)))).mono ?_); rintro e w2 ⟨rfl, hb2⟩))
      go_wp2
      go_ret
      exact retW (bto0 HBA.out (by (with_reducible repeat (first | exact Below.refl _ _ | exact hb2 | exact hb1 | refine bto0 ?_ hb2 | refine bto0 ?_ hb1 | refine bdr ?_ _ | refine Below.drew ?_ | refine ball ?_ _)))) (by first | rfl | simp) rfl rfl
    · rw [if_neg h1]
      have b1 : (xpk == 1) = false := beq_eq_false_iff_ne.2 h1
      by_cases h2 : xpk = 2
      · rw [if_pos h2]
        subst h2
        go_enter Tryd.func40, Tryd.ntmps40
        go_wp2
        go_region_held3 (fun W => W.cell? ⟨w.heap.size, 0, none⟩ = some (.slice A n c) ∧ W.cell? ⟨w.heap.size, 1, none⟩ = some (.slice B m d) ∧ W.cell? ⟨w.heap.size + 1, 1, none⟩ = some (.int .i64 xpi) ∧ W.cell? ⟨w.heap.size + 1, 2, none⟩ = some (.slice rA rn rc) ∧ W.cell? ⟨w.heap.size + 1, 4, none⟩ = some (.int .i64 xpo) ∧ W.cell? ⟨w.heap.size + 1, 5, none⟩ = some (.slice aA an ac) ∧ Below WA.heap.size WA W)
          (first | exact hS.out _ (by (with_reducible repeat (first | exact Below.refl _ _ | exact hb2 | exact hb1 | refine bto0 ?_ hb2 | refine bto0 ?_ hb1 | refine bdr ?_ _ | refine Below.drew ?_ | refine ball ?_ _))) | assumption)
          (first
            | (go_at_call 39; (with_reducible refine (HI1.out _ (by (with_reducible repeat (first | exact Below.refl _ _ | exact hb2 | exact hb1 | refine bto0 ?_ hb2 | refine bto0 ?_ hb1 | refine bdr ?_ _ | refine Below.drew ?_ | refine ball ?_ _)))).mono ?_); rintro e w1 ⟨rfl, hb1⟩)
            | (go_at_call 38; (with_reducible refine (HT1.out _ (by (with_reducible repeat (first | exact Below.refl _ _ | exact hb2 | exact hb1 | refine bto0 ?_ hb2 | refine bto0 ?_ hb1 | refine bdr ?_ _ | refine Below.drew ?_ | refine ball ?_ _)))).mono ?_); rintro e w2 ⟨rfl, hb2⟩))
        go_wp2
        go_ret
        exact retW (bto0 HBA.out (by (with_reducible repeat (first | exact Below.refl _ _ | exact hb2 | exact hb1 | refine bto0 ?_ hb2 | refine bto0 ?_ hb1 | refine bdr ?_ _ | refine Below.drew ?_ | refine ball ?_ _)))) (by first | rfl | simp) rfl rfl
      · rw [if_neg h2]
        have b2 : (xpk == 2) = false := beq_eq_false_iff_ne.2 h2
        by_cases h3 : xpk = 3
        · rw [if_pos h3]
          subst h3
          go_enter Tryd.func40, Tryd.ntmps40
          go_wp2
          go_region_held3 (fun W => W.cell? ⟨w.heap.size, 0, none⟩ = some (.slice A n c) ∧ W.cell? ⟨w.heap.size, 1, none⟩ = some (.slice B m d) ∧ W.cell? ⟨w.heap.size + 1, 1, none⟩ = some (.int .i64 xpi) ∧ W.cell? ⟨w.heap.size + 1, 2, none⟩ = some (.slice rA rn rc) ∧ W.cell? ⟨w.heap.size + 1, 4, none⟩ = some (.int .i64 xpo) ∧ W.cell? ⟨w.heap.size + 1, 5, none⟩ = some (.slice aA an ac) ∧ Below WA.heap.size WA W)
            (first | exact hS.out _ (by (with_reducible repeat (first | exact Below.refl _ _ | exact hb4 | exact hb3 | exact hb2 | exact hb1 | refine bto0 ?_ hb4 | refine bto0 ?_ hb3 | refine bto0 ?_ hb2 | refine bto0 ?_ hb1 | refine bdr ?_ _ | refine Below.drew ?_ | refine ball ?_ _))) | assumption)
            (first
              | (go_at_call 39; (with_reducible refine (HI1.out _ (by (with_reducible repeat (first | exact Below.refl _ _ | exact hb4 | exact hb3 | exact hb2 | exact hb1 | refine bto0 ?_ hb4 | refine bto0 ?_ hb3 | refine bto0 ?_ hb2 | refine bto0 ?_ hb1 | refine bdr ?_ _ | refine Below.drew ?_ | refine ball ?_ _)))).mono ?_); rintro e w1 ⟨rfl, hb1⟩)
              | (go_at_call 39; (with_reducible refine (HI2.out _ (by (with_reducible repeat (first | exact Below.refl _ _ | exact hb4 | exact hb3 | exact hb2 | exact hb1 | refine bto0 ?_ hb4 | refine bto0 ?_ hb3 | refine bto0 ?_ hb2 | refine bto0 ?_ hb1 | refine bdr ?_ _ | refine Below.drew ?_ | refine ball ?_ _)))).mono ?_); rintro e w2 ⟨rfl, hb2⟩)
              | (go_at_call 38; (with_reducible refine (HT1.out _ (by (with_reducible repeat (first | exact Below.refl _ _ | exact hb4 | exact hb3 | exact hb2 | exact hb1 | refine bto0 ?_ hb4 | refine bto0 ?_ hb3 | refine bto0 ?_ hb2 | refine bto0 ?_ hb1 | refine bdr ?_ _ | refine Below.drew ?_ | refine ball ?_ _)))).mono ?_); rintro e w3 ⟨rfl, hb3⟩)
              | (go_at_call 38; (with_reducible refine (HT2.out _ (by (with_reducible repeat (first | exact Below.refl _ _ | exact hb4 | exact hb3 | exact hb2 | exact hb1 | refine bto0 ?_ hb4 | refine bto0 ?_ hb3 | refine bto0 ?_ hb2 | refine bto0 ?_ hb1 | refine bdr ?_ _ | refine Below.drew ?_ | refine ball ?_ _)))).mono ?_); rintro e w4 ⟨rfl, hb4⟩))
          go_wp2
          go_ret
          exact retW (bto0 HBA.out (by (with_reducible repeat (first | exact Below.refl _ _ | exact hb4 | exact hb3 | exact hb2 | exact hb1 | refine bto0 ?_ hb4 | refine bto0 ?_ hb3 | refine bto0 ?_ hb2 | refine bto0 ?_ hb1 | refine bdr ?_ _ | refine Below.drew ?_ | refine ball ?_ _)))) (by first | rfl | simp) rfl rfl
        · rw [if_neg h3]
          have b3 : (xpk == 3) = false := beq_eq_false_iff_ne.2 h3
          clear h0 h1 h2 h3
          go_enter Tryd.func40, Tryd.ntmps40
          go_wp2
          go_ret
          exact retW HBA.out (by first | rfl | simp) rfl rfl
end
end Go.Proofs.YtblpflobpffjnaaDoor
