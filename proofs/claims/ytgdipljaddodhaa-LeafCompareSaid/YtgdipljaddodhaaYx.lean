/-
  Leaf pages: contract of Child; the law LeafCompare: its walk.
-/
import Derived.Test.YtgdipljaddodhaaYw
set_option linter.unusedSimpArgs false
namespace Go.Proofs.Ytgdipljaddodhaa
open Go.RowKit

theorem grE_sizes : ∀ (l : List En), grE 0 l = false → ∀ v ∈ l, v.s.size ≤ 9000 := fun _ h => (sumE_bd h).2.2

set_option maxRecDepth 100000 in
set_option maxHeartbeats 4000000 in
theorem leafCompare_any (a b c : En) (ha : a.ok) (hb : b.ok) (hc : c.ok) (w : World) :
    Calls Try.prog 3 #[a.agg, b.agg, c.agg] w (RetB w (.bool true)) := by
  have Hgr := fun (W : World) (B : Nat) (h : Reads W B 3 (some ⟨w.heap.size + 1 + 1 + 1, 0, none⟩) 3 (vE [a, b, c])) => greatE_any (some ⟨w.heap.size + 1 + 1 + 1, 0, none⟩) 3 3 [a, b, c] W B h (by intro v hv; simp at hv; rcases hv with rfl | rfl | rfl; exact ha.1; exact hb.1; exact hc.1) (by decide)
  by_cases hg : grE 0 [a, b, c] = true
  · rw [hg] at Hgr
    obtain ⟨s, p, q⟩ := a
    obtain ⟨t, x, y⟩ := b
    obtain ⟨u, x', y'⟩ := c
    unfold En.agg
    simp only
    have HG := Lib.hid Hgr; clear Hgr hg
    go_enter Try.func3, Try.ntmps3
    go_wp2_with fail
    refine (HG.out _ _ (reads_at _ #[.string s, .int .u32 p, .int .u16 q, .string t, .int .u32 x, .int .u16 y, .string u, .int .u32 x', .int .u16 y'] _ (by simp) rfl rfl)).mono ?_
    rintro e w1 ⟨rfl, rfl⟩
    go_wp2_with fail
    refine (fixed10_any _).mono ?_
    rintro e w2 ⟨rfl, hb2⟩
    go_wp2
    go_ret
    exact ⟨rfl, by (with_reducible repeat (first | exact Below.refl _ _ | exact hb2 | refine bto0 ?_ hb2 | refine bdr ?_ _ | refine Below.drew ?_ | refine ball ?_ _))⟩
  · have hg' : grE 0 [a, b, c] = false := by simpa using hg
    rw [hg'] at Hgr
    clear hg hg' ha hb hc
    have C1 := fun W => compareE_any a b W
    have C2 := fun W => compareE_any b c W
    have C3 := fun W => compareE_any a c W
    have C4 := fun W => compareE_any b a W
    have L1 := fun W => lessE_any a b W
    have L2 := fun W => lessE_any b a W
    have htr := cmpE_trans a b c
    have hbd := cmpE_bd a b
    rw [lessE_cmp] at L1 L2
    rw [cmpE_swap a b] at C4 L2
    generalize cmpE a b = d1 at *
    generalize cmpE b c = d2 at *
    generalize cmpE a c = d3 at *
    obtain ⟨s, p, q⟩ := a
    obtain ⟨t, x, y⟩ := b
    obtain ⟨u, x', y'⟩ := c
    unfold En.agg at *
    simp only at *
    have hS : Hid (∀ W, Below ((((w.alloc (.cells #[.string s, .int .u32 p, .int .u16 q] 27)).alloc (.cells #[.string t, .int .u32 x, .int .u16 y] 27)).alloc (.cells #[.string u, .int .u32 x', .int .u16 y'] 27)).alloc (.cells #[.string s, .int .u32 p, .int .u16 q, .string t, .int .u32 x, .int .u16 y, .string u, .int .u32 x', .int .u16 y'] 27)).heap.size ((((w.alloc (.cells #[.string s, .int .u32 p, .int .u16 q] 27)).alloc (.cells #[.string t, .int .u32 x, .int .u16 y] 27)).alloc (.cells #[.string u, .int .u32 x', .int .u16 y'] 27)).alloc (.cells #[.string s, .int .u32 p, .int .u16 q, .string t, .int .u32 x, .int .u16 y, .string u, .int .u32 x', .int .u16 y'] 27)) W → W.cell? ⟨w.heap.size, 0, none⟩ = some (.string s) ∧ W.cell? ⟨w.heap.size, 1, none⟩ = some (.int .u32 p) ∧ W.cell? ⟨w.heap.size, 2, none⟩ = some (.int .u16 q) ∧ W.cell? ⟨w.heap.size + 1, 0, none⟩ = some (.string t) ∧ W.cell? ⟨w.heap.size + 1, 1, none⟩ = some (.int .u32 x) ∧ W.cell? ⟨w.heap.size + 1, 2, none⟩ = some (.int .u16 y) ∧ W.cell? ⟨w.heap.size + 1 + 1, 0, none⟩ = some (.string u) ∧ W.cell? ⟨w.heap.size + 1 + 1, 1, none⟩ = some (.int .u32 x') ∧ W.cell? ⟨w.heap.size + 1 + 1, 2, none⟩ = some (.int .u16 y') ∧ Below ((((w.alloc (.cells #[.string s, .int .u32 p, .int .u16 q] 27)).alloc (.cells #[.string t, .int .u32 x, .int .u16 y] 27)).alloc (.cells #[.string u, .int .u32 x', .int .u16 y'] 27)).alloc (.cells #[.string s, .int .u32 p, .int .u16 q, .string t, .int .u32 x, .int .u16 y, .string u, .int .u32 x', .int .u16 y'] 27)).heap.size ((((w.alloc (.cells #[.string s, .int .u32 p, .int .u16 q] 27)).alloc (.cells #[.string t, .int .u32 x, .int .u16 y] 27)).alloc (.cells #[.string u, .int .u32 x', .int .u16 y'] 27)).alloc (.cells #[.string s, .int .u32 p, .int .u16 q, .string t, .int .u32 x, .int .u16 y, .string u, .int .u32 x', .int .u16 y'] 27)) W) := by
      refine Lib.hid fun W hW => ?_
      obtain ⟨q0, q1, q2⟩ := ((((AtE.new w ⟨s, p, q⟩ 27).below ((Below.refl _ _).alloc (Nat.le_refl _) (.cells #[.string t, .int .u32 x, .int .u16 y] 27))).below ((Below.refl _ _).alloc (Nat.le_refl _) (.cells #[.string u, .int .u32 x', .int .u16 y'] 27))).below ((Below.refl _ _).alloc (Nat.le_refl _) (.cells #[.string s, .int .u32 p, .int .u16 q, .string t, .int .u32 x, .int .u16 y, .string u, .int .u32 x', .int .u16 y'] 27))).below hW
      obtain ⟨q3, q4, q5⟩ := (((AtE.new (w.alloc (.cells #[.string s, .int .u32 p, .int .u16 q] 27)) ⟨t, x, y⟩ 27).below ((Below.refl _ _).alloc (Nat.le_refl _) (.cells #[.string u, .int .u32 x', .int .u16 y'] 27))).below ((Below.refl _ _).alloc (Nat.le_refl _) (.cells #[.string s, .int .u32 p, .int .u16 q, .string t, .int .u32 x, .int .u16 y, .string u, .int .u32 x', .int .u16 y'] 27))).below hW
      obtain ⟨q6, q7, q8⟩ := ((AtE.new ((w.alloc (.cells #[.string s, .int .u32 p, .int .u16 q] 27)).alloc (.cells #[.string t, .int .u32 x, .int .u16 y] 27)) ⟨u, x', y'⟩ 27).below ((Below.refl _ _).alloc (Nat.le_refl _) (.cells #[.string s, .int .u32 p, .int .u16 q, .string t, .int .u32 x, .int .u16 y, .string u, .int .u32 x', .int .u16 y'] 27))).below hW
      simp only [alloc_size] at q3 q4 q5 q6 q7 q8
      exact ⟨q0, q1, q2, q3, q4, q5, q6, q7, q8, hW⟩
    have hA : Below w.heap.size w ((((w.alloc (.cells #[.string s, .int .u32 p, .int .u16 q] 27)).alloc (.cells #[.string t, .int .u32 x, .int .u16 y] 27)).alloc (.cells #[.string u, .int .u32 x', .int .u16 y'] 27)).alloc (.cells #[.string s, .int .u32 p, .int .u16 q, .string t, .int .u32 x, .int .u16 y, .string u, .int .u32 x', .int .u16 y'] 27)) := by (with_reducible repeat (first | exact Below.refl _ _ | exact hb1 | exact hb1 | refine bto0 ?_ hb1 | refine bto0 ?_ hb1 | refine bdr ?_ _ | refine Below.drew ?_ | refine ball ?_ _))
    have HG := Lib.hid Hgr; clear Hgr
    have D1 := Lib.hid C1; clear C1
    have D2 := Lib.hid C2; clear C2
    have D3 := Lib.hid C3; clear C3
    have D4 := Lib.hid C4; clear C4
    have hcs : (d1 = 1) ∨ (d1 = -1 ∧ 0 < d2) ∨ (d1 = -1 ∧ d2 ≤ 0 ∧ d3 ≤ 0) ∨ (d1 = 0 ∧ 0 < d2) ∨ (d1 = 0 ∧ d2 ≤ 0 ∧ d3 ≤ 0) := by omega
    clear htr hbd
    rcases hcs with rfl | ⟨rfl, e2⟩ | ⟨rfl, e2, e3⟩ | ⟨rfl, e2⟩ | ⟨rfl, e2, e3⟩
    all_goals
      simp only [Int.neg_neg, Int.neg_zero, Int.reduceNeg, Int.reduceLT, decide_true, decide_false, Int.lt_irrefl] at L1 L2 D4
      have M1 := Lib.hid L1
      have M2 := Lib.hid L2
      clear L1 L2
      go_enter Try.func3, Try.ntmps3
      go_wp2_with fail
      refine (HG.out _ _ (reads_at _ #[.string s, .int .u32 p, .int .u16 q, .string t, .int .u32 x, .int .u16 y, .string u, .int .u32 x', .int .u16 y'] _ (by simp) rfl rfl)).mono ?_
      rintro e w1 ⟨rfl, rfl⟩
      go_wp2_with fail
      obtain ⟨WA, hWA⟩ : ∃ WA, ((((w.alloc (.cells #[.string s, .int .u32 p, .int .u16 q] 27)).alloc (.cells #[.string t, .int .u32 x, .int .u16 y] 27)).alloc (.cells #[.string u, .int .u32 x', .int .u16 y'] 27)).alloc (.cells #[.string s, .int .u32 p, .int .u16 q, .string t, .int .u32 x, .int .u16 y, .string u, .int .u32 x', .int .u16 y'] 27)) = WA := ⟨_, rfl⟩
      rw [hWA] at hA hS ⊢
      clear hWA
      obtain ⟨q0, q1, q2, q3, q4, q5, q6, q7, q8, -⟩ := hS.out WA (Below.refl _ _)
      go_region_held3 (fun W => W.cell? ⟨w.heap.size, 0, none⟩ = some (.string s) ∧ W.cell? ⟨w.heap.size, 1, none⟩ = some (.int .u32 p) ∧ W.cell? ⟨w.heap.size, 2, none⟩ = some (.int .u16 q) ∧ W.cell? ⟨w.heap.size + 1, 0, none⟩ = some (.string t) ∧ W.cell? ⟨w.heap.size + 1, 1, none⟩ = some (.int .u32 x) ∧ W.cell? ⟨w.heap.size + 1, 2, none⟩ = some (.int .u16 y) ∧ W.cell? ⟨w.heap.size + 1 + 1, 0, none⟩ = some (.string u) ∧ W.cell? ⟨w.heap.size + 1 + 1, 1, none⟩ = some (.int .u32 x') ∧ W.cell? ⟨w.heap.size + 1 + 1, 2, none⟩ = some (.int .u16 y') ∧ Below WA.heap.size WA W)
        (first | exact hS.out _ (by (with_reducible repeat (first | exact Below.refl _ _ | exact hb5 | exact hb4 | exact hb3 | refine bto0 ?_ hb5 | refine bto0 ?_ hb4 | refine bto0 ?_ hb3 | refine bdr ?_ _ | refine Below.drew ?_ | refine ball ?_ _))) | assumption)
        (first
          | (go_at_call 10; (with_reducible refine (D1.out _).mono ?_); rintro e w3 ⟨rfl, hb3⟩)
          | (go_at_call 10; (with_reducible refine (D2.out _).mono ?_); rintro e w4 ⟨rfl, hb4⟩)
          | (go_at_call 10; (with_reducible refine (D3.out _).mono ?_); rintro e w5 ⟨rfl, hb5⟩))
      have hh5 : Below WA.heap.size WA w5 := by (with_reducible repeat (first | exact Below.refl _ _ | exact hb5 | exact hb4 | exact hb3 | refine bto0 ?_ hb5 | refine bto0 ?_ hb4 | refine bto0 ?_ hb3 | refine bdr ?_ _ | refine Below.drew ?_ | refine ball ?_ _))
      clear q0 q1 q2 q3 q4 q5 q6 q7 q8 hb3 hb4 hb5
      obtain ⟨q0, q1, q2, q3, q4, q5, q6, q7, q8, -⟩ := hS.out w5 hh5
      go_wp2_with fail
      refine (M1.out _).mono ?_
      rintro e w6 ⟨rfl, hb6⟩
      have hh6 : Below WA.heap.size WA w6 := by first | exact bto0 hh5 hb6 | exact bto0 (bdr hh5 _) hb6
      clear q0 q1 q2 q3 q4 q5 q6 q7 q8
      obtain ⟨q0, q1, q2, q3, q4, q5, q6, q7, q8, -⟩ := hS.out w6 hh6
      go_wp2_with fail
      refine (M2.out _).mono ?_
      rintro e w7 ⟨rfl, hb7⟩
      have hh7 : Below WA.heap.size WA w7 := by first | exact bto0 hh6 hb7 | exact bto0 (bdr hh6 _) hb7
      clear q0 q1 q2 q3 q4 q5 q6 q7 q8
      go_wp2_with fail
      refine (fixed10_any _).mono ?_
      rintro e w8 ⟨rfl, hb8⟩
      have hh8 : Below WA.heap.size WA w8 := by first | exact bto0 hh7 hb8 | exact bto0 (bdr hh7 _) hb8
      obtain ⟨q0, q1, q2, q3, q4, q5, q6, q7, q8, -⟩ := hS.out w8 hh8
      go_wp2_with fail
      refine (D4.out _).mono ?_
      rintro e w9 ⟨rfl, hb9⟩
      have hh9 : Below WA.heap.size WA w9 := by first | exact bto0 hh8 hb9 | exact bto0 (bdr hh8 _) hb9
      go_wp2
      go_ret
      exact ⟨rfl, by first | exact bto0 hA hh9 | exact bto0 hA (bdr hh9 _)⟩
end Go.Proofs.Ytgdipljaddodhaa
