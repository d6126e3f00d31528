
/-
  The reference's path.
-/
import Derived.Test.YtblpflobpffjnaaDoorW1
set_option linter.unusedSimpArgs false
set_option linter.unusedVariables false
namespace Go.Proofs.YtblpflobpffjnaaDoor
open Go.RowKit

theorem cat_ex (a b : List UInt8) : ∃ y, str a ++ str b = str y ∧ y = a ++ b := ⟨_, str_app30 a b, rfl⟩
section
variable {w : World} {Bd : Nat} {A : Option Addr} {n : Nat} {tbs : List Tb} {B : Option Addr} {m : Nat} {ixs : List Ix} {K : Option Addr} {kn : Nat} {ks : List Int}
set_option maxRecDepth 100000 in
set_option maxHeartbeats 4000000 in
theorem rpath_any (E : EnvB w Bd A n tbs B m ixs K kn ks) (hBd : Bd ≤ w.heap.size) (c d : Nat) (x : Sp) (hx : x.ok) :
    Calls Tryd.prog 43 #[.agg #[.slice A n c, .slice B m d], x.path] w (RetB w (.string (str (Lib.join (pthL ixs x) [32])))) := by
  obtain ⟨xtb, xm, xpk, xpi, rA, rn, rc, cA, cn, cc, xpo, aA, an, ac, mA, mn, mc, xix, xjn⟩ := x
  have hpi := hx.pi
  have hpo := hx.po
  have hrn := hx.rn
  have han := hx.an
  clear hx
  unfold Sp.path pthL
  simp only at *
  obtain ⟨WA, hWA⟩ : ∃ WA, (w.alloc (.cells #[.slice A n c, .slice B m d] 25)).alloc (.cells #[.int .u8 xpk, .int .i64 xpi, .slice rA rn rc, .slice cA cn cc, .int .i64 xpo, .slice aA an ac, .slice mA mn mc] 69) = WA := ⟨_, rfl⟩
  have hbA : Below w.heap.size w WA := hWA ▸ ball (ball (Below.refl w.heap.size w) _) _
  have B0 : Blk WA w.heap.size 25 #[.slice A n c, .slice B m d] := hWA ▸ (Blk.new w _ _).alloc _
  have B1 : Blk WA (w.heap.size + 1) 69 #[.int .u8 xpk, .int .i64 xpi, .slice rA rn rc, .slice cA cn cc, .int .i64 xpo, .slice aA an ac, .slice mA mn mc] := by
    have h := Blk.new (w.alloc (.cells #[.slice A n c, .slice B m d] 25)) 69 #[.int .u8 xpk, .int .i64 xpi, .slice rA rn rc, .slice cA cn cc, .int .i64 xpo, .slice aA an ac, .slice mA mn mc]
    rw [alloc_size] at h
    exact hWA ▸ h
  have hzA : w.heap.size + 1 < WA.heap.size := B1.lt
  have rI : I64 (rn : Int) := by unfold maxLen at hrn; constructor <;> omega
  have aI : I64 (an : Int) := by unfold maxLen at han; constructor <;> omega
  have rI' : (rn : Int) ≤ 9223372036854775807 := rI.2
  have aI' : (an : Int) ≤ 9223372036854775807 := aI.2
  have hx1 := idxL_len E.xn xpi
  have hx2 := idxL_len E.xn xpo
  have HI1 := Lib.hid fun (W : World) (hb : Below WA.heap.size WA W) => rindex_any (E.below ((bto0 hbA hb).mono hBd)) (Nat.le_trans hBd (bto0 hbA hb).size) c d xpi hpi
  have HI2 := Lib.hid fun (W : World) (hb : Below WA.heap.size WA W) => rindex_any (E.below ((bto0 hbA hb).mono hBd)) (Nat.le_trans hBd (bto0 hbA hb).size) c d xpo hpo
  have hr1 := itoa_len rI
  have hr2 := itoa_len aI
  have HT1 := Lib.hid fun (W : World) => rnumber_any (rn : Int) rI W
  have HT2 := Lib.hid fun (W : World) => rnumber_any (an : Int) aI W
  have hS := Lib.hid fun (W : World) (hb : Below WA.heap.size WA W) => (show W.cell? ⟨w.heap.size, 0, none⟩ = some (.slice A n c) ∧ W.cell? ⟨w.heap.size, 1, none⟩ = some (.slice B m d) ∧ W.cell? ⟨w.heap.size + 1, 1, none⟩ = some (.int .i64 xpi) ∧ W.cell? ⟨w.heap.size + 1, 2, none⟩ = some (.slice rA rn rc) ∧ W.cell? ⟨w.heap.size + 1, 4, none⟩ = some (.int .i64 xpo) ∧ W.cell? ⟨w.heap.size + 1, 5, none⟩ = some (.slice aA an ac) ∧ Below WA.heap.size WA W from
    ⟨(hb.cell (by simp; omega)).trans (B0.cell 0), (hb.cell (by simp; omega)).trans (B0.cell 1), (hb.cell (by simp; omega)).trans (B1.cell 1), (hb.cell (by simp; omega)).trans (B1.cell 2), (hb.cell (by simp; omega)).trans (B1.cell 4), (hb.cell (by simp; omega)).trans (B1.cell 5), hb⟩)
  have HBA := Lib.hid hbA
  have k0 : WA.cell? ⟨w.heap.size + 1, 0, none⟩ = some (.int .u8 xpk) := B1.cell 0
  have nu : w.heap.size < WA.heap.size := by omega
  generalize idxL ixs xpi = X1 at *
  generalize idxL ixs xpo = X2 at *
  generalize Lib.itoa (rn : Int) = R1 at *
  generalize Lib.itoa (an : Int) = R2 at *
  clear E hrn han rI aI B0 B1 hbA hpi hpo
  by_cases h0 : xpk = 0
  · rw [if_pos h0]
    subst h0
    go_enter Tryd.func43, Tryd.ntmps43
    go_wp2
    go_ret
    exact ⟨rfl, HBA.out⟩
  · rw [if_neg h0]
    have b0 : (xpk == 0) = false := beq_eq_false_iff_ne.2 h0
    by_cases h1 : xpk = 1
    · rw [if_pos h1]
      subst h1
      obtain ⟨Y1, e1, y1⟩ := cat_ex [105, 110, 100, 101, 120, 32] X1
      have e1' : (⟨#[105, 110, 100, 101, 120, 32]⟩ : ByteArray) ++ str X1 = str Y1 := e1
      have l1 := congrArg List.length y1
      simp only [List.length_append, List.length_cons, List.length_nil] at l1
      have o1 : ¬ 9223372036854775807 < 6 + (str X1).size := by (try simp only [str_size]); omega
      obtain ⟨Y2, e2, y2⟩ := cat_ex Y1 [32]
      have e2' : str Y1 ++ (⟨#[32]⟩ : ByteArray) = str Y2 := e2
      have l2 := congrArg List.length y2
      simp only [List.length_append, List.length_cons, List.length_nil] at l2
      have o2 : ¬ 9223372036854775807 < (str Y1).size + 1 := by (try simp only [str_size]); omega
      obtain ⟨Y3, e3, y3⟩ := cat_ex Y2 R1
      have e3' : str Y2 ++ str R1 = str Y3 := e3
      have l3 := congrArg List.length y3
      simp only [List.length_append, List.length_cons, List.length_nil] at l3
      have o3 : ¬ 9223372036854775807 < (str Y2).size + (str R1).size := by (try simp only [str_size]); omega
      have HY := Lib.hid (And.intro y1 (And.intro y2 y3))
      clear y1 l1 e1 y2 l2 e2 y3 l3 e3
      go_enter Tryd.func43, Tryd.ntmps43
      go_wp2
      go_region_held3 (fun W => W.cell? ⟨w.heap.size, 0, none⟩ = some (.slice A n c) ∧ W.cell? ⟨w.heap.size, 1, none⟩ = some (.slice B m d) ∧ W.cell? ⟨w.heap.size + 1, 1, none⟩ = some (.int .i64 xpi) ∧ W.cell? ⟨w.heap.size + 1, 2, none⟩ = some (.slice rA rn rc) ∧ W.cell? ⟨w.heap.size + 1, 4, none⟩ = some (.int .i64 xpo) ∧ W.cell? ⟨w.heap.size + 1, 5, none⟩ = some (.slice aA an ac) ∧ Below WA.heap.size WA W)
        (first | exact hS.out _ (by (with_reducible repeat (first | exact Below.refl _ _ | exact hb2 | exact hb1 | refine bto0 ?_ hb2 | refine bto0 ?_ hb1 | refine bdr ?_ _ | refine Below.drew ?_ | refine ball ?_ _))) | assumption)
        (first
          | (go_at_call 42; (with_reducible refine (HI1.out _ (by (with_reducible repeat (first | exact Below.refl _ _ | exact hb2 | exact hb1 | refine bto0 ?_ hb2 | refine bto0 ?_ hb1 | refine bdr ?_ _ | refine Below.drew ?_ | refine ball ?_ _)))).mono ?_); rintro e w1 ⟨rfl, hb1⟩)
          | (go_at_call 41; (with_reducible refine (HT1.out _).mono ?_); rintro e w' ⟨rfl, rfl⟩))
      go_wp2
      go_ret
      obtain ⟨y1, y2, y3⟩ := HY.out
      exact ⟨by rw [y3, y2, y1]; simp [Lib.join_cons, joinTail_cons, joinTail_nil], bto0 HBA.out (by (with_reducible repeat (first | exact Below.refl _ _ | exact hb2 | exact hb1 | refine bto0 ?_ hb2 | refine bto0 ?_ hb1 | refine bdr ?_ _ | refine Below.drew ?_ | refine ball ?_ _)))⟩
    · rw [if_neg h1]
      have b1 : (xpk == 1) = false := beq_eq_false_iff_ne.2 h1
      by_cases h2 : xpk = 2
      · rw [if_pos h2]
        subst h2
        obtain ⟨Y1, e1, y1⟩ := cat_ex [111, 110, 108, 121, 32] X1
        have e1' : (⟨#[111, 110, 108, 121, 32]⟩ : ByteArray) ++ str X1 = str Y1 := e1
        have l1 := congrArg List.length y1
        simp only [List.length_append, List.length_cons, List.length_nil] at l1
        have o1 : ¬ 9223372036854775807 < 5 + (str X1).size := by (try simp only [str_size]); omega
        obtain ⟨Y2, e2, y2⟩ := cat_ex Y1 [32]
        have e2' : str Y1 ++ (⟨#[32]⟩ : ByteArray) = str Y2 := e2
        have l2 := congrArg List.length y2
        simp only [List.length_append, List.length_cons, List.length_nil] at l2
        have o2 : ¬ 9223372036854775807 < (str Y1).size + 1 := by (try simp only [str_size]); omega
        obtain ⟨Y3, e3, y3⟩ := cat_ex Y2 R1
        have e3' : str Y2 ++ str R1 = str Y3 := e3
        have l3 := congrArg List.length y3
        simp only [List.length_append, List.length_cons, List.length_nil] at l3
        have o3 : ¬ 9223372036854775807 < (str Y2).size + (str R1).size := by (try simp only [str_size]); omega
        have HY := Lib.hid (And.intro y1 (And.intro y2 y3))
        clear y1 l1 e1 y2 l2 e2 y3 l3 e3
        go_enter Tryd.func43, Tryd.ntmps43
        go_wp2
        go_region_held3 (fun W => W.cell? ⟨w.heap.size, 0, none⟩ = some (.slice A n c) ∧ W.cell? ⟨w.heap.size, 1, none⟩ = some (.slice B m d) ∧ W.cell? ⟨w.heap.size + 1, 1, none⟩ = some (.int .i64 xpi) ∧ W.cell? ⟨w.heap.size + 1, 2, none⟩ = some (.slice rA rn rc) ∧ W.cell? ⟨w.heap.size + 1, 4, none⟩ = some (.int .i64 xpo) ∧ W.cell? ⟨w.heap.size + 1, 5, none⟩ = some (.slice aA an ac) ∧ Below WA.heap.size WA W)
          (first | exact hS.out _ (by (with_reducible repeat (first | exact Below.refl _ _ | exact hb2 | exact hb1 | refine bto0 ?_ hb2 | refine bto0 ?_ hb1 | refine bdr ?_ _ | refine Below.drew ?_ | refine ball ?_ _))) | assumption)
          (first
            | (go_at_call 42; (with_reducible refine (HI1.out _ (by (with_reducible repeat (first | exact Below.refl _ _ | exact hb2 | exact hb1 | refine bto0 ?_ hb2 | refine bto0 ?_ hb1 | refine bdr ?_ _ | refine Below.drew ?_ | refine ball ?_ _)))).mono ?_); rintro e w1 ⟨rfl, hb1⟩)
            | (go_at_call 41; (with_reducible refine (HT1.out _).mono ?_); rintro e w' ⟨rfl, rfl⟩))
        go_wp2
        go_ret
        obtain ⟨y1, y2, y3⟩ := HY.out
        exact ⟨by rw [y3, y2, y1]; simp [Lib.join_cons, joinTail_cons, joinTail_nil], bto0 HBA.out (by (with_reducible repeat (first | exact Below.refl _ _ | exact hb2 | exact hb1 | refine bto0 ?_ hb2 | refine bto0 ?_ hb1 | refine bdr ?_ _ | refine Below.drew ?_ | refine ball ?_ _)))⟩
      · rw [if_neg h2]
        have b2 : (xpk == 2) = false := beq_eq_false_iff_ne.2 h2
        by_cases h3 : xpk = 3
        · rw [if_pos h3]
          subst h3
          obtain ⟨Y1, e1, y1⟩ := cat_ex [98, 111, 116, 104, 32] X1
          have e1' : (⟨#[98, 111, 116, 104, 32]⟩ : ByteArray) ++ str X1 = str Y1 := e1
          have l1 := congrArg List.length y1
          simp only [List.length_append, List.length_cons, List.length_nil] at l1
          have o1 : ¬ 9223372036854775807 < 5 + (str X1).size := by (try simp only [str_size]); omega
          obtain ⟨Y2, e2, y2⟩ := cat_ex Y1 [32]
          have e2' : str Y1 ++ (⟨#[32]⟩ : ByteArray) = str Y2 := e2
          have l2 := congrArg List.length y2
          simp only [List.length_append, List.length_cons, List.length_nil] at l2
          have o2 : ¬ 9223372036854775807 < (str Y1).size + 1 := by (try simp only [str_size]); omega
          obtain ⟨Y3, e3, y3⟩ := cat_ex Y2 X2
          have e3' : str Y2 ++ str X2 = str Y3 := e3
          have l3 := congrArg List.length y3
          simp only [List.length_append, List.length_cons, List.length_nil] at l3
          have o3 : ¬ 9223372036854775807 < (str Y2).size + (str X2).size := by (try simp only [str_size]); omega
          obtain ⟨Y4, e4, y4⟩ := cat_ex Y3 [32]
          have e4' : str Y3 ++ (⟨#[32]⟩ : ByteArray) = str Y4 := e4
          have l4 := congrArg List.length y4
          simp only [List.length_append, List.length_cons, List.length_nil] at l4
          have o4 : ¬ 9223372036854775807 < (str Y3).size + 1 := by (try simp only [str_size]); omega
          obtain ⟨Y5, e5, y5⟩ := cat_ex Y4 R1
          have e5' : str Y4 ++ str R1 = str Y5 := e5
          have l5 := congrArg List.length y5
          simp only [List.length_append, List.length_cons, List.length_nil] at l5
          have o5 : ¬ 9223372036854775807 < (str Y4).size + (str R1).size := by (try simp only [str_size]); omega
          obtain ⟨Y6, e6, y6⟩ := cat_ex Y5 [32]
          have e6' : str Y5 ++ (⟨#[32]⟩ : ByteArray) = str Y6 := e6
          have l6 := congrArg List.length y6
          simp only [List.length_append, List.length_cons, List.length_nil] at l6
          have o6 : ¬ 9223372036854775807 < (str Y5).size + 1 := by (try simp only [str_size]); omega
          obtain ⟨Y7, e7, y7⟩ := cat_ex Y6 R2
          have e7' : str Y6 ++ str R2 = str Y7 := e7
          have l7 := congrArg List.length y7
          simp only [List.length_append, List.length_cons, List.length_nil] at l7
          have o7 : ¬ 9223372036854775807 < (str Y6).size + (str R2).size := by (try simp only [str_size]); omega
          have HY := Lib.hid (And.intro y1 (And.intro y2 (And.intro y3 (And.intro y4 (And.intro y5 (And.intro y6 y7))))))
          clear y1 l1 e1 y2 l2 e2 y3 l3 e3 y4 l4 e4 y5 l5 e5 y6 l6 e6 y7 l7 e7
          go_enter Tryd.func43, Tryd.ntmps43
          go_wp2
          go_region_held3 (fun W => W.cell? ⟨w.heap.size, 0, none⟩ = some (.slice A n c) ∧ W.cell? ⟨w.heap.size, 1, none⟩ = some (.slice B m d) ∧ W.cell? ⟨w.heap.size + 1, 1, none⟩ = some (.int .i64 xpi) ∧ W.cell? ⟨w.heap.size + 1, 2, none⟩ = some (.slice rA rn rc) ∧ W.cell? ⟨w.heap.size + 1, 4, none⟩ = some (.int .i64 xpo) ∧ W.cell? ⟨w.heap.size + 1, 5, none⟩ = some (.slice aA an ac) ∧ Below WA.heap.size WA W)
            (first | exact hS.out _ (by (with_reducible repeat (first | exact Below.refl _ _ | exact hb2 | exact hb1 | refine bto0 ?_ hb2 | refine bto0 ?_ hb1 | refine bdr ?_ _ | refine Below.drew ?_ | refine ball ?_ _))) | assumption)
            (first
              | (go_at_call 42; (with_reducible refine (HI1.out _ (by (with_reducible repeat (first | exact Below.refl _ _ | exact hb2 | exact hb1 | refine bto0 ?_ hb2 | refine bto0 ?_ hb1 | refine bdr ?_ _ | refine Below.drew ?_ | refine ball ?_ _)))).mono ?_); rintro e w1 ⟨rfl, hb1⟩)
              | (go_at_call 42; (with_reducible refine (HI2.out _ (by (with_reducible repeat (first | exact Below.refl _ _ | exact hb2 | exact hb1 | refine bto0 ?_ hb2 | refine bto0 ?_ hb1 | refine bdr ?_ _ | refine Below.drew ?_ | refine ball ?_ _)))).mono ?_); rintro e w2 ⟨rfl, hb2⟩)
              | (go_at_call 41; (with_reducible refine (HT1.out _).mono ?_); rintro e w' ⟨rfl, rfl⟩)
              | (go_at_call 41; (with_reducible refine (HT2.out _).mono ?_); rintro e w' ⟨rfl, rfl⟩))
          go_wp2
          go_ret
          obtain ⟨y1, y2, y3, y4, y5, y6, y7⟩ := HY.out
          exact ⟨by rw [y7, y6, y5, y4, y3, y2, y1]; simp [Lib.join_cons, joinTail_cons, joinTail_nil], bto0 HBA.out (by (with_reducible repeat (first | exact Below.refl _ _ | exact hb2 | exact hb1 | refine bto0 ?_ hb2 | refine bto0 ?_ hb1 | refine bdr ?_ _ | refine Below.drew ?_ | refine ball ?_ _)))⟩
        · rw [if_neg h3]
          have b3 : (xpk == 3) = false := beq_eq_false_iff_ne.2 h3
          clear h0 h1 h2 h3
          go_enter Tryd.func43, Tryd.ntmps43
          go_wp2
          go_ret
          exact ⟨rfl, HBA.out⟩
end
end Go.Proofs.YtblpflobpffjnaaDoor
