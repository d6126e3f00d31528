/-
  Contracts of Test: the program's, and the reference's.
-/
import Derived.Test.YtegnoheaglnhhaaVcmp
import Derived.Test.YtegnoheaglnhhaaLov
import Derived.Test.YtegnoheaglnhhaaLot
namespace Go.Proofs.Ytegnoheaglnhhaa
open Go.RowKit
attribute [local go_sem ↓] Go.wp_at_zero Go.wp_at_succ

def opT (o : List UInt8) (c : Int) : Int :=
  if o == [61] then tr (c == 0) else if o == [60, 62] then tr (c != 0) else if o == [60] then tr (decide (c < 0)) else if o == [60, 61] then tr (decide (c ≤ 0)) else if o == [62] then tr (decide (0 < c)) else if o == [62, 61] then tr (decide (0 ≤ c)) else 2
def testV (op : ByteArray) (a b : Vl) : Int :=
  if a.k = 0 ∨ b.k = 0 then 1 else if a.k ≠ b.k ∨ 3 < a.k then 2 else opT op.toList (cmpV a b)
theorem tr_bd (b : Bool) : 0 ≤ tr b ∧ tr b ≤ 3 := by unfold tr; split <;> omega
theorem opT_bd (o : List UInt8) (c : Int) : 0 ≤ opT o c ∧ opT o c ≤ 3 := by
  unfold opT
  repeat' (first | exact tr_bd _ | split | omega)
theorem testV_bd (op : ByteArray) (a b : Vl) : 0 ≤ testV op a b ∧ testV op a b ≤ 3 := by
  unfold testV
  split
  · omega
  · split
    · omega
    · exact opT_bd _ _

set_option maxHeartbeats 4000000 in
theorem test_any (op : ByteArray) (a b : Vl) (w : World) :
    Calls Try.prog 23 #[.string op, a.agg, b.agg] w (RetB w (.int .u8 (testV op a b))) := by
  have Hc := fun W => compare_any a b W
  generalize hc : cmpV a b = c at Hc
  obtain ⟨k, i, s⟩ := a
  obtain ⟨k', j, t⟩ := b
  unfold testV
  rw [hc]
  clear hc
  unfold Vl.agg at *
  simp only at *
  have HC := Lib.hid Hc; clear Hc
  by_cases h0 : k = 0 ∨ k' = 0
  · rw [if_pos h0]
    by_cases h1 : k = 0
    · have m1 : (k == 0) = true := by simpa using h1
      clear h0 h1
      go_enter Try.func23, Try.ntmps23
      go_wp2
      go_ret
      exact ⟨rfl, ball (ball (Below.refl _ _) _) _⟩
    · have m1 : (k == 0) = false := by simpa using h1
      have m2 : (k' == 0) = true := by simpa using h0.resolve_left h1
      clear h0 h1
      go_enter Try.func23, Try.ntmps23
      go_wp2
      go_ret
      exact ⟨rfl, ball (ball (Below.refl _ _) _) _⟩
  · rw [if_neg h0]
    have m1 : (k == 0) = false := by simp; exact fun h => h0 (.inl h)
    have m2 : (k' == 0) = false := by simp; exact fun h => h0 (.inr h)
    clear h0
    by_cases h1 : k ≠ k' ∨ 3 < k
    · rw [if_pos h1]
      by_cases h2 : k = k'
      · have m3 : (k != k') = false := by simpa using h2
        have m4 : 3 < k := h1.resolve_left (fun h => h h2)
        clear h1 h2
        go_enter Try.func23, Try.ntmps23
        go_wp2
        go_ret
        exact ⟨rfl, ball (ball (Below.refl _ _) _) _⟩
      · have m3 : (k != k') = true := by simpa using h2
        clear h1 h2
        go_enter Try.func23, Try.ntmps23
        go_wp2
        go_ret
        exact ⟨rfl, ball (ball (Below.refl _ _) _) _⟩
    · rw [if_neg h1]
      have m3 : (k != k') = false := by simp; exact Classical.byContradiction fun h => h1 (.inl h)
      have m4 : ¬ 3 < k := fun h => h1 (.inr h)
      clear h1
      go_enter Try.func23, Try.ntmps23
      go_wp2_with fail
      refine (HC.out _).mono ?_
      rintro e w1 ⟨rfl, hb1⟩
      go_wp2_with (go_at_call 39; refine (bit_any _ _).mono ?_; rintro e w' ⟨rfl, rfl⟩)
      all_goals (go_ret; refine ⟨ret_int ?_, bto0 (ball (ball (Below.refl _ _) _) _) hb1⟩; simp only [opT, *, if_true, if_false, Bool.false_eq_true])

set_option maxHeartbeats 4000000 in
theorem rtest_any (op : ByteArray) (a b : Vl) (w : World) (hs : a.s.size ≤ 1000000) (ht : b.s.size ≤ 1000000) :
    Calls Try.prog 24 #[.string op, a.agg, b.agg] w (RetB w (.int .i64 (testV op a b))) := by
  have H1 := fun W => rLess_any a b W hs ht
  have H2 := fun W => rLess_any b a W ht hs
  have hbd := cmpV_bd a b
  rw [lessV_cmp] at H1
  rw [lessV_cmp2] at H2
  unfold testV
  generalize cmpV a b = c at *
  obtain ⟨k, i, s⟩ := a
  obtain ⟨k', j, t⟩ := b
  unfold Vl.agg at *
  simp only at *
  have HL := Lib.hid H1; clear H1
  have HM := Lib.hid H2; clear H2
  by_cases h0 : k = 0 ∨ k' = 0
  · rw [if_pos h0]
    by_cases h1 : k = 0
    · have m1 : (k == 0) = true := by simpa using h1
      clear h0 h1
      go_enter Try.func24, Try.ntmps24
      go_wp2
      go_ret
      exact ⟨rfl, ball (ball (Below.refl _ _) _) _⟩
    · have m1 : (k == 0) = false := by simpa using h1
      have m2 : (k' == 0) = true := by simpa using h0.resolve_left h1
      clear h0 h1
      go_enter Try.func24, Try.ntmps24
      go_wp2
      go_ret
      exact ⟨rfl, ball (ball (Below.refl _ _) _) _⟩
  · rw [if_neg h0]
    have m1 : (k == 0) = false := by simp; exact fun h => h0 (.inl h)
    have m2 : (k' == 0) = false := by simp; exact fun h => h0 (.inr h)
    clear h0
    by_cases h1 : k ≠ k' ∨ 3 < k
    · rw [if_pos h1]
      by_cases h2 : k = k'
      · have m3 : (k != k') = false := by simpa using h2
        have m4 : 3 < k := h1.resolve_left (fun h => h h2)
        clear h1 h2
        go_enter Try.func24, Try.ntmps24
        go_wp2
        go_ret
        exact ⟨rfl, ball (ball (Below.refl _ _) _) _⟩
      · have m3 : (k != k') = true := by simpa using h2
        clear h1 h2
        go_enter Try.func24, Try.ntmps24
        go_wp2
        go_ret
        exact ⟨rfl, ball (ball (Below.refl _ _) _) _⟩
    · rw [if_neg h1]
      have m3 : (k != k') = false := by simp; exact Classical.byContradiction fun h => h1 (.inl h)
      have m4 : ¬ 3 < k := fun h => h1 (.inr h)
      clear h1
      have hc : c = -1 ∨ c = 0 ∨ c = 1 := by omega
      clear hbd
      rcases hc with rfl | rfl | rfl
      all_goals
        go_enter Try.func24, Try.ntmps24
        go_wp2_with fail
        refine (HL.out _).mono ?_
        rintro e w1 ⟨rfl, hb1⟩
        have z1 : w.heap.size + 1 + 1 ≤ w1.heap.size := by simpa using hb1.size
        have a0 := hb1.cell (p := ⟨w.heap.size, 0, none⟩) (by simp; omega)
        have a1 := hb1.cell (p := ⟨w.heap.size, 1, none⟩) (by simp; omega)
        have a2 := hb1.cell (p := ⟨w.heap.size, 2, none⟩) (by simp; omega)
        have c0 := hb1.cell (p := ⟨w.heap.size + 1, 0, none⟩) (by simp)
        have c1 := hb1.cell (p := ⟨w.heap.size + 1, 1, none⟩) (by simp)
        have c2 := hb1.cell (p := ⟨w.heap.size + 1, 2, none⟩) (by simp)
        go_wp2_with fail
        refine (HM.out _).mono ?_
        rintro e w2 ⟨rfl, hb2⟩
        go_wp2
        all_goals (go_ret; refine ⟨ret_int ?_, bto0 (bto0 (ball (ball (Below.refl _ _) _) _) hb1) hb2⟩; simp only [opT, *, if_true, if_false, Bool.false_eq_true]; (try rfl))

end Go.Proofs.Ytegnoheaglnhhaa
