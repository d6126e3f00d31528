/-
  Contract of calc's Times; the law CalcTimes's walk.
-/
import Derived.Test.YtegnoheaglnhhabNh
import Derived.Test.YtegnoheaglnhhabNw
import Derived.Deep.DeepCutAuto
namespace Go.Proofs.Ytegnoheaglnhhab
open Go.RowKit

def timesV (a b c : Nat) : Nat := if a * b = 0 then 0 else if c ≤ a * b / 18446744073709551616 then 18446744073709551615 else a * b / c
theorem timesV_le {a b c : Nat} : timesV a b c ≤ 18446744073709551615 := by
  unfold timesV
  split
  · exact Nat.zero_le _
  · split
    · exact Nat.le_refl _
    · rename_i h1 h2
      have h3 : a * b / 18446744073709551616 < c := Nat.lt_of_not_le h2
      have h4 : a * b < c * 18446744073709551616 := (Nat.div_lt_iff_lt_mul (by omega)).1 h3
      have h5 : a * b / c < 18446744073709551616 := by
        rw [Nat.div_lt_iff_lt_mul (by omega)]
        rw [Nat.mul_comm c] at h4
        exact h4
      omega

set_option maxHeartbeats 1000000 in
theorem ctimes_any (a b c : Nat) (ha : a < 18446744073709551616) (hb : b < 18446744073709551616) (hc : c < 18446744073709551616) (w : World) :
    Calls Try.prog 9 #[.int .u64 a, .int .u64 b, .int .u64 c] w fun e w' => e = .returned (.int .u64 (timesV a b c : Nat)) ∧ ∃ m, w' = w.drewN m := by
  have m := fun W => Try.bits_Mul64 a b ha hb W
  unfold timesV
  obtain ⟨P, hP⟩ : ∃ P, a * b = P := ⟨_, rfl⟩
  rw [hP] at m ⊢
  have hh := Nat.div_add_mod P 18446744073709551616
  have hl := Nat.mod_lt P (by omega : 0 < 18446744073709551616)
  obtain ⟨H, hH⟩ : ∃ H, P / 18446744073709551616 = H := ⟨_, rfl⟩
  obtain ⟨L, hL⟩ : ∃ L, P % 18446744073709551616 = L := ⟨_, rfl⟩
  rw [hH, hL] at m hh
  rw [hL] at hl
  rw [hH]
  have M := Lib.hid m; clear m hH hL hP
  by_cases h0 : P = 0
  · rw [if_pos h0]
    have z1 : ((H : Int) == 0) = true := by simp; omega
    have z2 : ((L : Int) == 0) = true := by simp; omega
    clear h0 hh hl
    go_enter Try.func9, Try.ntmps9
    go_wp2_with (go_at_call 21; refine (M.out _).mono ?_; rintro e w' ⟨rfl, rfl⟩)
    go_ret
    exact ⟨rfl, 0, rfl⟩
  · rw [if_neg h0]
    by_cases h1 : c ≤ H
    · rw [if_pos h1]
      have hx : ((H : Int) == 0) = true ∧ ((L : Int) == 0) = false ∨ ((H : Int) == 0) = false := by
        by_cases h : H = 0
        · exact .inl ⟨by simp [h], by simp; omega⟩
        · exact .inr (by simp; omega)
      have hd : decide ((c : Nat) ≤ H) = true := decide_eq_true h1
      clear h0 hh hl h1
      rcases hx with ⟨z1, z2⟩ | z1
      all_goals
        go_enter Try.func9, Try.ntmps9
        go_wp2_with (go_at_call 21; refine (M.out _).mono ?_; rintro e w' ⟨rfl, rfl⟩)
        go_ret
        exact ⟨rfl, 0, rfl⟩
    · rw [if_neg h1]
      have hd : decide ((c : Nat) ≤ H) = false := decide_eq_false h1
      by_cases h2 : H = 0
      · subst h2
        have hPL : P = L := by omega
        subst hPL
        have z2 : ((P : Int) == 0) = false := by simp; omega
        have D := Lib.hid fun W => div_lo P c W hl (by omega) hc
        have hd2 : ¬ c = 0 := by omega
        clear h0 hh hl h1 hd
        go_enter Try.func9, Try.ntmps9
        go_wp2_with (first
          | (go_at_call 21; refine (M.out _).mono ?_; rintro e w' ⟨rfl, rfl⟩)
          | (go_at_call 22; refine (D.out _).mono ?_; rintro e w1 ⟨rfl, m, rfl⟩))
        go_ret
        exact ⟨rfl, _, rfl⟩
      · have z1 : ((H : Int) == 0) = false := by simp; omega
        have D := Lib.hid fun W => div_hi H L c W (by omega) (by omega) hc hl
        have e1 : H * 18446744073709551616 + L = P := by rw [Nat.mul_comm]; exact hh
        rw [e1] at D
        clear h0 hh hl h1 h2 e1
        go_enter Try.func9, Try.ntmps9
        go_wp2_with (first
          | (go_at_call 21; refine (M.out _).mono ?_; rintro e w' ⟨rfl, rfl⟩)
          | (go_at_call 22; refine (D.out _).mono ?_; rintro e w1 ⟨r, rfl, rfl⟩))
        go_ret
        exact ⟨rfl, 0, rfl⟩

def Cut9 (w8 : World) (gp : Nat) (sg3 : Int) (A3 : Option Addr) (n3 c3 : Nat) (sg8 : Int) (A8 : Option Addr) (n8 c8 : Nat) (x : Nat) (s11 : Value) (wx : World) : Prop :=
  ∃ (gh : Nat) (sg : Int) (A : Option Addr) (m c : Nat) (l : List Nat), s11 = .pointer (some ⟨gh, 0, none⟩) ∧ Below w8.heap.size w8 wx ∧ Blk wx gh 31 #[.int .i64 sg, .slice A m c] ∧ Reads wx wx.heap.size 1 A m (vD l) ∧ dok l ∧ m ≤ 1000 ∧ dv l = x ∧
    Blk wx gp 31 #[.int .i64 sg3, .slice A3 n3 c3] ∧ Blk wx w8.heap.size 31 #[.int .i64 sg8, .slice A8 n8 c8]
theorem natOf {sg : Int} {x P : Nat} (h : sg = 1 ∨ sg = -1) (e : sg * (x : Int) = (P : Int)) : x = P := by
  rcases h with rfl | rfl <;> omega
theorem ones (x y : Nat) : (1 : Int) * (x : Int) * (1 * (y : Int)) = ((x * y : Nat) : Int) := by rw [Int.one_mul, Int.one_mul, Int.natCast_mul]
theorem times_low {a b c n : Nat} (h : timesV a b c = n) (h0 : a * b ≠ 0) (hc : 0 < c) : n * c ≤ a * b ∧ (n = 18446744073709551615 ∨ a * b < n * c + c) := by
  subst h
  unfold timesV
  rw [if_neg h0]
  split
  · rename_i h1
    refine ⟨?_, .inl rfl⟩
    have h2 : c * 18446744073709551616 ≤ a * b := (Nat.le_div_iff_mul_le (by omega)).1 h1
    rw [Nat.mul_comm] at h2
    exact Nat.le_trans (Nat.mul_le_mul_right c (by omega)) h2
  · refine ⟨Nat.div_mul_le_self _ _, .inr ?_⟩
    have h3 := Nat.div_add_mod (a * b) c
    have h4 := Nat.mod_lt (a * b) hc
    rw [Nat.mul_comm] at h3
    omega

set_option maxHeartbeats 4000000 in
theorem calcTimes_any (a b c : Nat) (ha : a < 18446744073709551616) (hb : b < 18446744073709551616) (hc : c < 18446744073709551616) (w : World) :
    Calls Try.prog 4 #[.int .u64 a, .int .u64 b, .int .u64 c] w (RetB w (.bool true)) := by
  have T := Lib.hid fun W => ctimes_any a b c ha hb hc W
  have hn := timesV_le (a := a) (b := b) (c := c)
  have hlow := fun h0 hc => times_low (a := a) (b := b) (c := c) rfl h0 hc
  have hz : a * b = 0 → timesV a b c = 0 := fun h => by unfold timesV; rw [if_pos h]
  have hzc : a * b ≠ 0 → c = 0 → timesV a b c = 18446744073709551615 := fun h h' => by unfold timesV; rw [if_neg h, if_pos (by omega)]
  obtain ⟨n, hN⟩ : ∃ n, timesV a b c = n := ⟨_, rfl⟩
  rw [hN] at T hn hlow hz hzc
  clear hN
  have WA := Lib.hid fun W => whole_any a ha W
  have WB := Lib.hid fun W => whole_any b hb W
  have W0 := Lib.hid fun W => whole_any 0 (by omega) W
  have WC := Lib.hid fun W => whole_any c hc W
  have WN := Lib.hid fun W => whole_any n (by omega) W
  obtain ⟨P, hP⟩ : ∃ P, a * b = P := ⟨_, rfl⟩
  rw [hP] at hlow hz hzc
  have HP := Lib.hid hP; clear hP
  have Hz := Lib.hid hz; clear hz
  have Hzc := Lib.hid hzc; clear hzc
  have Hlow := Lib.hid hlow; clear hlow
  clear ha hb hc hn
  go_enter Try.func4, Try.ntmps4
  go_wp2_with fail
  refine (T.out _).mono ?_
  rintro e w0 ⟨rfl, m, rfl⟩
  go_wp2_with fail
  refine (WA.out _).mono ?_
  rintro e w1 ⟨v1, rfl, ⟨A1, n1, c1, l1, rfl, hr1, hnc1, hnm1, hok1, hdv1, hl1⟩, hb1⟩
  have Hdv1 := Lib.hid hdv1
  clear hdv1
  have Hl1 := Lib.hid hl1
  clear hl1
  have hz1 := hb1.size
  (try simp at hz1)
  go_wp2_with fail
  refine (WB.out _).mono ?_
  rintro e w2 ⟨v2, rfl, ⟨A2, n2, c2, l2, rfl, hr2, hnc2, hnm2, hok2, hdv2, hl2⟩, hb2⟩
  have Hdv2 := Lib.hid hdv2
  clear hdv2
  have Hl2 := Lib.hid hl2
  clear hl2
  have hz2 := hb2.size
  (try simp at hz2)
  go_wp2_with fail
  refine (times_any 1 1 (.inl rfl) (.inl rfl) A1 n1 c1 l1 A2 n2 c2 l2 _ (hr1.up (by (with_reducible repeat (first | exact Below.refl _ _ | exact hb2 | exact hb1 | refine bto0 ?_ hb2 | refine bto0 ?_ hb1 | refine bdr ?_ _ | refine Below.drew ?_ | refine ball ?_ _)))) (hr2.up (by (with_reducible repeat (first | exact Below.refl _ _ | exact hb2 | exact hb1 | refine bto0 ?_ hb2 | refine bto0 ?_ hb1 | refine bdr ?_ _ | refine Below.drew ?_ | refine ball ?_ _)))) hok1 hok2 (by omega) (by omega)).mono ?_
  rintro e w3 ⟨v3, sg3, x3, rfl, hsg3, hval3, ⟨A3, n3, c3, l3, rfl, hr3, hnc3, hnm3, hok3, hdv3, hl3⟩, hb3⟩
  rw [← hdv3] at hval3
  clear hdv3
  have Hval3 := Lib.hid hval3
  clear hval3
  have Hsg3 := Lib.hid hsg3
  clear hsg3
  have Hl3 := Lib.hid hl3
  clear hl3
  have hz3 := hb3.size
  (try simp at hz3)
  have HX3 : Hid (dv l3 = P) := natOf Hsg3.out (by rw [Hval3.out, ones, Hdv1.out, Hdv2.out, HP.out])
  go_wp2_with fail
  refine (W0.out _).mono ?_
  rintro e w4 ⟨v4, rfl, ⟨A4, n4, c4, l4, rfl, hr4, hnc4, hnm4, hok4, hdv4, hl4⟩, hb4⟩
  have Hdv4 := Lib.hid hdv4
  clear hdv4
  have Hl4 := Lib.hid hl4
  clear hl4
  have hz4 := hb4.size
  (try simp at hz4)
  have lt4_0 : w3.heap.size < w4.heap.size := (by omega)
  have P4 : Blk w4 w3.heap.size 31 #[.int .i64 sg3, .slice A3 n3 c3] := blkOf hb4 (by (try simp) <;> omega) (by with_reducible repeat (first |  (refine Blk.newAt ?_ <;> simp <;> done) | refine Blk.drew ?_ | refine Blk.drewN ?_ _ | refine Blk.alloc ?_ _))
  have P4c0 : w4.cell? ⟨w3.heap.size, 0, none⟩ = some (.int .i64 sg3) := P4.cell 0
  have P4f0 := P4.frozen 0
  have P4c1 : w4.cell? ⟨w3.heap.size, 1, none⟩ = some (.slice A3 n3 c3) := P4.cell 1
  have P4f1 := P4.frozen 1
  have LS : Hid (∀ W, Below w4.heap.size w4 W → Calls Try.prog 12 #[.agg #[.int .i64 1, .slice A4 n4 c4], .agg #[.int .i64 sg3, .slice A3 n3 c3]] W (RetB W (.bool (decide (0 < P))))) := by
    intro W hW
    have h := rless_n 1 sg3 A4 n4 c4 l4 A3 n3 c3 l3 W (hr4.up hW) (hr3.up (by (with_reducible repeat (first | exact Below.refl _ _ | exact hW | exact hb4 | refine bto0 ?_ hW | refine bto0 ?_ hb4 | refine bdr ?_ _ | refine Below.drew ?_ | refine ball ?_ _)))) hok4 hok3 (by omega) (by omega)
    rw [Hdv4.out, HX3.out] at h
    exact h
  rcases Nat.eq_zero_or_pos P with hP0 | hP0
  · have hn0 : n = 0 := Hz.out hP0
    subst hn0
    rw [decide_eq_false (by omega)] at LS
    go_wp2_with (first
      | (go_at_call 12; refine (LS.out _ (by (with_reducible repeat (first | exact Below.refl _ _ | refine bdr ?_ _ | refine Below.drew ?_ | refine ball ?_ _)))).mono ?_; rintro e w5 ⟨rfl, hb5⟩; have hz5 := hb5.size; (try simp at hz5); have P5 : Blk w5 w3.heap.size 31 #[.int .i64 sg3, .slice A3 n3 c3] := blkOf hb5 (by (try simp) <;> omega) (by with_reducible repeat (first | exact P4 |  (refine Blk.newAt ?_ <;> simp <;> done) | refine Blk.drew ?_ | refine Blk.drewN ?_ _ | refine Blk.alloc ?_ _)); have P5c0 : w5.cell? ⟨w3.heap.size, 0, none⟩ = some (.int .i64 sg3) := P5.cell 0; have P5f0 := P5.frozen 0; have P5c1 : w5.cell? ⟨w3.heap.size, 1, none⟩ = some (.slice A3 n3 c3) := P5.cell 1; have P5f1 := P5.frozen 1; have N5 : Blk w5 w4.heap.size 31 #[.int .i64 1, .slice A4 n4 c4] := blkOf hb5 (by (try simp) <;> omega) (by with_reducible repeat (first |  (refine Blk.newAt ?_ <;> simp <;> done) | refine Blk.drew ?_ | refine Blk.drewN ?_ _ | refine Blk.alloc ?_ _)); have N5c0 : w5.cell? ⟨w4.heap.size, 0, none⟩ = some (.int .i64 1) := N5.cell 0; have N5f0 := N5.frozen 0; have N5c1 : w5.cell? ⟨w4.heap.size, 1, none⟩ = some (.slice A4 n4 c4) := N5.cell 1; have N5f1 := N5.frozen 1)
      | (go_at_call 6; refine (cfixed_any _).mono ?_; rintro e w6 ⟨rfl, hb6⟩))
    go_ret
    exact ⟨rfl, by (with_reducible repeat (first | exact Below.refl _ _ | exact hb6 | exact hb5 | exact hb4 | exact hb3 | exact hb2 | exact hb1 | refine bto0 ?_ hb6 | refine bto0 ?_ hb5 | refine bto0 ?_ hb4 | refine bto0 ?_ hb3 | refine bto0 ?_ hb2 | refine bto0 ?_ hb1 | refine bdr ?_ _ | refine Below.drew ?_ | refine ball ?_ _))⟩
  · rw [decide_eq_true hP0] at LS
    rcases Nat.eq_zero_or_pos c with hc0 | hc0
    · have hnm : ((n : Int) == 18446744073709551615) = true := by have := Hzc.out (by omega) hc0; rw [beq_iff_eq]; omega
      subst hc0
      go_wp2_with (first
        | (go_at_call 12; refine (LS.out _ (by (with_reducible repeat (first | exact Below.refl _ _ | refine bdr ?_ _ | refine Below.drew ?_ | refine ball ?_ _)))).mono ?_; rintro e w5 ⟨rfl, hb5⟩; have hz5 := hb5.size; (try simp at hz5); have P5 : Blk w5 w3.heap.size 31 #[.int .i64 sg3, .slice A3 n3 c3] := blkOf hb5 (by (try simp) <;> omega) (by with_reducible repeat (first | exact P4 |  (refine Blk.newAt ?_ <;> simp <;> done) | refine Blk.drew ?_ | refine Blk.drewN ?_ _ | refine Blk.alloc ?_ _)); have P5c0 : w5.cell? ⟨w3.heap.size, 0, none⟩ = some (.int .i64 sg3) := P5.cell 0; have P5f0 := P5.frozen 0; have P5c1 : w5.cell? ⟨w3.heap.size, 1, none⟩ = some (.slice A3 n3 c3) := P5.cell 1; have P5f1 := P5.frozen 1; have N5 : Blk w5 w4.heap.size 31 #[.int .i64 1, .slice A4 n4 c4] := blkOf hb5 (by (try simp) <;> omega) (by with_reducible repeat (first |  (refine Blk.newAt ?_ <;> simp <;> done) | refine Blk.drew ?_ | refine Blk.drewN ?_ _ | refine Blk.alloc ?_ _)); have N5c0 : w5.cell? ⟨w4.heap.size, 0, none⟩ = some (.int .i64 1) := N5.cell 0; have N5f0 := N5.frozen 0; have N5c1 : w5.cell? ⟨w4.heap.size, 1, none⟩ = some (.slice A4 n4 c4) := N5.cell 1; have N5f1 := N5.frozen 1)
        | (go_at_call 6; refine (cfixed_any _).mono ?_; rintro e w6 ⟨rfl, hb6⟩))
      go_ret
      exact ⟨rfl, by (with_reducible repeat (first | exact Below.refl _ _ | exact hb6 | exact hb5 | exact hb4 | exact hb3 | exact hb2 | exact hb1 | refine bto0 ?_ hb6 | refine bto0 ?_ hb5 | refine bto0 ?_ hb4 | refine bto0 ?_ hb3 | refine bto0 ?_ hb2 | refine bto0 ?_ hb1 | refine bdr ?_ _ | refine Below.drew ?_ | refine ball ?_ _))⟩
    · have hcz : ((c : Int) == 0) = false := by simp; omega
      obtain ⟨hl1, hl2⟩ := Hlow.out (by omega) hc0
      have HL1 := Lib.hid hl1
      have HL2 := Lib.hid hl2
      clear hl1 hl2
      go_wp2_with fail
      refine (LS.out _ (by (with_reducible repeat (first | exact Below.refl _ _ | refine bdr ?_ _ | refine Below.drew ?_ | refine ball ?_ _)))).mono ?_
      rintro e w5 ⟨rfl, hb5⟩
      have hz5 := hb5.size
      (try simp at hz5)
      have P5 : Blk w5 w3.heap.size 31 #[.int .i64 sg3, .slice A3 n3 c3] := blkOf hb5 (by (try simp) <;> omega) (by with_reducible repeat (first | exact P4 |  (refine Blk.newAt ?_ <;> simp <;> done) | refine Blk.drew ?_ | refine Blk.drewN ?_ _ | refine Blk.alloc ?_ _))
      have P5c0 : w5.cell? ⟨w3.heap.size, 0, none⟩ = some (.int .i64 sg3) := P5.cell 0
      have P5f0 := P5.frozen 0
      have P5c1 : w5.cell? ⟨w3.heap.size, 1, none⟩ = some (.slice A3 n3 c3) := P5.cell 1
      have P5f1 := P5.frozen 1
      have N5 : Blk w5 w4.heap.size 31 #[.int .i64 1, .slice A4 n4 c4] := blkOf hb5 (by (try simp) <;> omega) (by with_reducible repeat (first |  (refine Blk.newAt ?_ <;> simp <;> done) | refine Blk.drew ?_ | refine Blk.drewN ?_ _ | refine Blk.alloc ?_ _))
      have N5c0 : w5.cell? ⟨w4.heap.size, 0, none⟩ = some (.int .i64 1) := N5.cell 0
      have N5f0 := N5.frozen 0
      have N5c1 : w5.cell? ⟨w4.heap.size, 1, none⟩ = some (.slice A4 n4 c4) := N5.cell 1
      have N5f1 := N5.frozen 1
      go_wp2_with fail
      refine (WN.out _).mono ?_
      rintro e w6 ⟨v6, rfl, ⟨A6, n6, c6, l6, rfl, hr6, hnc6, hnm6, hok6, hdv6, hl6⟩, hb6⟩
      have Hdv6 := Lib.hid hdv6
      clear hdv6
      have Hl6 := Lib.hid hl6
      clear hl6
      have hz6 := hb6.size
      (try simp at hz6)
      have P6 : Blk w6 w3.heap.size 31 #[.int .i64 sg3, .slice A3 n3 c3] := blkOf hb6 (by (try simp) <;> omega) (by with_reducible repeat (first | exact P5 |  (refine Blk.newAt ?_ <;> simp <;> done) | refine Blk.drew ?_ | refine Blk.drewN ?_ _ | refine Blk.alloc ?_ _))
      have P6c0 : w6.cell? ⟨w3.heap.size, 0, none⟩ = some (.int .i64 sg3) := P6.cell 0
      have P6f0 := P6.frozen 0
      have P6c1 : w6.cell? ⟨w3.heap.size, 1, none⟩ = some (.slice A3 n3 c3) := P6.cell 1
      have P6f1 := P6.frozen 1
      go_wp2_with fail
      refine (WC.out _).mono ?_
      rintro e w7 ⟨v7, rfl, ⟨A7, n7, c7, l7, rfl, hr7, hnc7, hnm7, hok7, hdv7, hl7⟩, hb7⟩
      have Hdv7 := Lib.hid hdv7
      clear hdv7
      have Hl7 := Lib.hid hl7
      clear hl7
      have hz7 := hb7.size
      (try simp at hz7)
      have P7 : Blk w7 w3.heap.size 31 #[.int .i64 sg3, .slice A3 n3 c3] := blkOf hb7 (by (try simp) <;> omega) (by with_reducible repeat (first | exact P6 |  (refine Blk.newAt ?_ <;> simp <;> done) | refine Blk.drew ?_ | refine Blk.drewN ?_ _ | refine Blk.alloc ?_ _))
      have P7c0 : w7.cell? ⟨w3.heap.size, 0, none⟩ = some (.int .i64 sg3) := P7.cell 0
      have P7f0 := P7.frozen 0
      have P7c1 : w7.cell? ⟨w3.heap.size, 1, none⟩ = some (.slice A3 n3 c3) := P7.cell 1
      have P7f1 := P7.frozen 1
      go_wp2_with fail
      refine (times_any 1 1 (.inl rfl) (.inl rfl) A6 n6 c6 l6 A7 n7 c7 l7 _ (hr6.up (by (with_reducible repeat (first | exact Below.refl _ _ | exact hb7 | exact hb6 | refine bto0 ?_ hb7 | refine bto0 ?_ hb6 | refine bdr ?_ _ | refine Below.drew ?_ | refine ball ?_ _)))) (hr7.up (by (with_reducible repeat (first | exact Below.refl _ _ | exact hb7 | exact hb6 | refine bto0 ?_ hb7 | refine bto0 ?_ hb6 | refine bdr ?_ _ | refine Below.drew ?_ | refine ball ?_ _)))) hok6 hok7 (by omega) (by omega)).mono ?_
      rintro e w8 ⟨v8, sg8, x8, rfl, hsg8, hval8, ⟨A8, n8, c8, l8, rfl, hr8, hnc8, hnm8, hok8, hdv8, hl8⟩, hb8⟩
      rw [← hdv8] at hval8
      clear hdv8
      have Hval8 := Lib.hid hval8
      clear hval8
      have Hsg8 := Lib.hid hsg8
      clear hsg8
      have Hl8 := Lib.hid hl8
      clear hl8
      have hz8 := hb8.size
      (try simp at hz8)
      have P8 : Blk w8 w3.heap.size 31 #[.int .i64 sg3, .slice A3 n3 c3] := blkOf hb8 (by (try simp) <;> omega) (by with_reducible repeat (first | exact P7 |  (refine Blk.newAt ?_ <;> simp <;> done) | refine Blk.drew ?_ | refine Blk.drewN ?_ _ | refine Blk.alloc ?_ _))
      have P8c0 : w8.cell? ⟨w3.heap.size, 0, none⟩ = some (.int .i64 sg3) := P8.cell 0
      have P8f0 := P8.frozen 0
      have P8c1 : w8.cell? ⟨w3.heap.size, 1, none⟩ = some (.slice A3 n3 c3) := P8.cell 1
      have P8f1 := P8.frozen 1
      have HX8 : Hid (dv l8 = n * c) := natOf Hsg8.out (by rw [Hval8.out, ones, Hdv6.out, Hdv7.out])
      have Hval8' : Hid (sg8 * ((dv l8 : Nat) : Int) = ((n * c : Nat) : Int)) := Lib.hid (by rw [Hval8.out, ones, Hdv6.out, Hdv7.out])
      have L1 : Hid (∀ W, Below w8.heap.size w8 W → Calls Try.prog 12 #[.agg #[.int .i64 sg3, .slice A3 n3 c3], .agg #[.int .i64 sg8, .slice A8 n8 c8]] W (RetB W (.bool false))) := by
        intro W hW
        have h := rless_n sg3 sg8 A3 n3 c3 l3 A8 n8 c8 l8 W (hr3.up (by (with_reducible repeat (first | exact Below.refl _ _ | exact hW | exact hb8 | exact hb7 | exact hb6 | exact hb5 | exact hb4 | refine bto0 ?_ hW | refine bto0 ?_ hb8 | refine bto0 ?_ hb7 | refine bto0 ?_ hb6 | refine bto0 ?_ hb5 | refine bto0 ?_ hb4 | refine bdr ?_ _ | refine Below.drew ?_ | refine ball ?_ _)))) (hr8.up hW) hok3 hok8 (by omega) (by omega)
        rw [HX3.out, HX8.out, decide_eq_false (Nat.not_lt.2 HL1.out)] at h
        exact h
      have hnc : ((n : Int) == 18446744073709551615) = true ∨ (((n : Int) == 18446744073709551615) = false ∧ P < n * c + c) := by
        have h := HL2.out
        cases hq : ((n : Int) == 18446744073709551615) with
        | true => exact .inl rfl
        | false => exact .inr ⟨rfl, h.resolve_left fun h2 => by rw [h2] at hq; simp at hq⟩
      go_upto_region 9 with fail
      go_cut [11] (fun s11 wx => Cut9 w8 w3.heap.size sg3 A3 n3 c3 sg8 A8 n8 c8 (n * c + c) s11 wx)
      case first =>
        go_region_with (first
          | (go_at_call 11; refine (WC.out _).mono ?_; rintro e w9 ⟨v9, rfl, ⟨A9, n9, c9, l9, rfl, hr9, hnc9, hnm9, hok9, hdv9, hl9⟩, hb9⟩; have Hdv9 := Lib.hid hdv9; clear hdv9; have Hl9 := Lib.hid hl9; clear hl9; have hz9 := hb9.size; (try simp at hz9); have lt9_0 : w8.heap.size < w9.heap.size := (by omega); have lt9_1 : w3.heap.size < w9.heap.size := (by omega); have P9 : Blk w9 w3.heap.size 31 #[.int .i64 sg3, .slice A3 n3 c3] := blkOf hb9 (by (try simp) <;> omega) (by with_reducible repeat (first | exact P8 |  (refine Blk.newAt ?_ <;> simp <;> done) | refine Blk.drew ?_ | refine Blk.drewN ?_ _ | refine Blk.alloc ?_ _)); have P9c0 : w9.cell? ⟨w3.heap.size, 0, none⟩ = some (.int .i64 sg3) := P9.cell 0; have P9f0 := P9.frozen 0; have P9c1 : w9.cell? ⟨w3.heap.size, 1, none⟩ = some (.slice A3 n3 c3) := P9.cell 1; have P9f1 := P9.frozen 1; have L9b : Blk w9 w8.heap.size 31 #[.int .i64 sg8, .slice A8 n8 c8] := blkOf hb9 (by (try simp) <;> omega) (by with_reducible repeat (first |  (refine Blk.newAt ?_ <;> simp <;> done) | refine Blk.drew ?_ | refine Blk.drewN ?_ _ | refine Blk.alloc ?_ _)); have L9bc0 : w9.cell? ⟨w8.heap.size, 0, none⟩ = some (.int .i64 sg8) := L9b.cell 0; have L9bf0 := L9b.frozen 0; have L9bc1 : w9.cell? ⟨w8.heap.size, 1, none⟩ = some (.slice A8 n8 c8) := L9b.cell 1; have L9bf1 := L9b.frozen 1; (try (refine (fun (Z9 : Blk w9 (w8.heap.size + 1) 31 #[.int .i64 0, .slice none 0 0]) => ?_) ?_; rotate_left; (focus (refine blkOf hb9 ?_ ?_; rotate_left; (focus (with_reducible repeat (first | (refine Blk.newAt ?_ <;> simp <;> done) | refine Blk.drew ?_ | refine Blk.alloc ?_ _)); done); ((try simp) <;> omega))); have Z9c0 : w9.cell? ⟨w8.heap.size + 1, 0, none⟩ = some (.int .i64 0) := Z9.cell 0; have Z9c1 : w9.cell? ⟨w8.heap.size + 1, 1, none⟩ = some (.slice none 0 0) := Z9.cell 1; have Z9f0 := Z9.frozen 0; have Z9f1 := Z9.frozen 1)))
          | (go_at_call 13; refine (plus_any sg8 1 Hsg8.out (.inl rfl) A8 n8 c8 l8 A9 n9 c9 l9 _ (hr8.up (by (with_reducible repeat (first | exact Below.refl _ _ | exact hb9 | refine bto0 ?_ hb9 | refine bdr ?_ _ | refine Below.drew ?_ | refine ball ?_ _)))) (hr9.up (by (with_reducible repeat (first | exact Below.refl _ _ | exact hb9 | refine bto0 ?_ hb9 | refine bdr ?_ _ | refine Below.drew ?_ | refine ball ?_ _)))) hok8 hok9 (by omega) (by omega) hnc8 hnc9).mono ?_; rintro e w10 ⟨v10, sg10, x10, rfl, hsg10, hval10, ⟨A10, n10, c10, l10, rfl, hr10, hnc10, hnm10, hok10, hdv10, hl10⟩, hb10⟩; rw [← hdv10] at hval10; clear hdv10; have Hval10 := Lib.hid hval10; clear hval10; have Hsg10 := Lib.hid hsg10; clear hsg10; have Hl10 := Lib.hid hl10; clear hl10; have hz10 := hb10.size; (try simp at hz10); have lt10_0 : w8.heap.size < w10.heap.size := (by omega); have lt10_1 : w3.heap.size < w10.heap.size := (by omega); have P10 : Blk w10 w3.heap.size 31 #[.int .i64 sg3, .slice A3 n3 c3] := blkOf hb10 (by (try simp) <;> omega) (by with_reducible repeat (first | exact P9 |  (refine Blk.newAt ?_ <;> simp <;> done) | refine Blk.drew ?_ | refine Blk.drewN ?_ _ | refine Blk.alloc ?_ _)); have P10c0 : w10.cell? ⟨w3.heap.size, 0, none⟩ = some (.int .i64 sg3) := P10.cell 0; have P10f0 := P10.frozen 0; have P10c1 : w10.cell? ⟨w3.heap.size, 1, none⟩ = some (.slice A3 n3 c3) := P10.cell 1; have P10f1 := P10.frozen 1; have L10b : Blk w10 w8.heap.size 31 #[.int .i64 sg8, .slice A8 n8 c8] := blkOf hb10 (by (try simp) <;> omega) (by with_reducible repeat (first | exact L9b |  (refine Blk.newAt ?_ <;> simp <;> done) | refine Blk.drew ?_ | refine Blk.drewN ?_ _ | refine Blk.alloc ?_ _)); have L10bc0 : w10.cell? ⟨w8.heap.size, 0, none⟩ = some (.int .i64 sg8) := L10b.cell 0; have L10bf0 := L10b.frozen 0; have L10bc1 : w10.cell? ⟨w8.heap.size, 1, none⟩ = some (.slice A8 n8 c8) := L10b.cell 1; have L10bf1 := L10b.frozen 1; (try (refine (fun (Z10 : Blk w10 (w8.heap.size + 1) 31 #[.int .i64 0, .slice none 0 0]) => ?_) ?_; rotate_left; (focus (refine blkOf hb10 ?_ ?_; rotate_left; (focus (with_reducible repeat (first | exact Z9 | (refine Blk.newAt ?_ <;> simp <;> done) | refine Blk.drew ?_ | refine Blk.alloc ?_ _)); done); ((try simp) <;> omega))); have Z10c0 : w10.cell? ⟨w8.heap.size + 1, 0, none⟩ = some (.int .i64 0) := Z10.cell 0; have Z10c1 : w10.cell? ⟨w8.heap.size + 1, 1, none⟩ = some (.slice none 0 0) := Z10.cell 1; have Z10f0 := Z10.frozen 0; have Z10f1 := Z10.frozen 1)); (try (refine (fun (Y10 : Blk w10 (w9.heap.size) 31 #[.int .i64 0, .slice none 0 0]) => ?_) ?_; rotate_left; (focus (refine blkOf hb10 ?_ ?_; rotate_left; (focus (with_reducible repeat (first | (refine Blk.newAt ?_ <;> simp <;> done) | refine Blk.drew ?_ | refine Blk.alloc ?_ _)); done); ((try simp) <;> omega))); have Y10c0 : w10.cell? ⟨w9.heap.size, 0, none⟩ = some (.int .i64 0) := Y10.cell 0; have Y10c1 : w10.cell? ⟨w9.heap.size, 1, none⟩ = some (.slice none 0 0) := Y10.cell 1; have Y10f0 := Y10.frozen 0; have Y10f1 := Y10.frozen 1))))
        all_goals
          have HX10 : dv l10 = n * c + c := natOf Hsg10.out (by rw [Hval10.out, Hval8'.out, Hdv9.out]; push_cast; omega)
          have HX := Lib.hid HX10
          clear HX10
          go_wp2_with fail
          go_meet
          first
            | exact ⟨w10.heap.size, sg10, A10, n10, c10, l10, rfl, by (with_reducible repeat (first | exact Below.refl _ _ | exact hb10 | exact hb9 | refine bto0 ?_ hb10 | refine bto0 ?_ hb9 | refine bdr ?_ _ | refine Below.drew ?_ | refine ball ?_ _)), Blk.new _ _ _, hr10.al _, hok10, by omega, HX.out, P10.alloc _, L10b.alloc _⟩
            | exact ⟨w9.heap.size, sg10, A10, n10, c10, l10, rfl, bset (bset (by (with_reducible repeat (first | exact Below.refl _ _ | exact hb10 | exact hb9 | refine bto0 ?_ hb10 | refine bto0 ?_ hb9 | refine bdr ?_ _ | refine Below.drew ?_ | refine ball ?_ _))) (by dsimp only; omega) _) (by dsimp only; omega) _, (Y10.set_ 0 _).set_ 1 _, (hr10.sf (hr10.offN Y10) _).sf (hr10.offN Y10) _, hok10, by omega, HX.out, (P10.far (by dsimp only; omega) _).far (by dsimp only; omega) _, (L10b.far (by dsimp only; omega) _).far (by dsimp only; omega) _⟩
            | exact ⟨w8.heap.size + 1, sg10, A10, n10, c10, l10, rfl, bset (bset (by (with_reducible repeat (first | exact Below.refl _ _ | exact hb10 | exact hb9 | refine bto0 ?_ hb10 | refine bto0 ?_ hb9 | refine bdr ?_ _ | refine Below.drew ?_ | refine ball ?_ _))) (by dsimp only; omega) _) (by dsimp only; omega) _, (Z10.set_ 0 _).set_ 1 _, (hr10.sf (hr10.offN Z10) _).sf (hr10.offN Z10) _, hok10, by omega, HX.out, (P10.far (by dsimp only; omega) _).far (by dsimp only; omega) _, (L10b.far (by dsimp only; omega) _).far (by dsimp only; omega) _⟩
      case rest =>
        obtain ⟨gh, sg10, A10, n10, c10, l10, rfl, hbc, H10, hr10, hok10, hn10, HX, P10, L10b⟩ := hcut
        have HX10 := Lib.hid HX
        clear HX
        have q1 := P10.lt
        have q2 := L10b.lt
        have q3 := H10.lt
        have L2 : Hid (P < n * c + c → ∀ W, Below wc.heap.size wc W → Calls Try.prog 12 #[.agg #[.int .i64 sg3, .slice A3 n3 c3], .agg #[.int .i64 sg10, .slice A10 n10 c10]] W (RetB W (.bool true))) := by
          intro hlt W hW
          have h := rless_n sg3 sg10 A3 n3 c3 l3 A10 n10 c10 l10 W (hr3.up (by (with_reducible repeat (first | exact Below.refl _ _ | exact hW | exact hbc | exact hb8 | exact hb7 | exact hb6 | exact hb5 | exact hb4 | refine bto0 ?_ hW | refine bto0 ?_ hbc | refine bto0 ?_ hb8 | refine bto0 ?_ hb7 | refine bto0 ?_ hb6 | refine bto0 ?_ hb5 | refine bto0 ?_ hb4 | refine bdr ?_ _ | refine Below.drew ?_ | refine ball ?_ _)))) (hr10.up hW) hok3 hok10 (by omega) hn10
          rw [HX3.out, HX10.out, decide_eq_true hlt] at h
          exact h
        rcases hnc with hq | ⟨hq, hlt⟩
        · go_wp2_with (first
            | (go_at_call 6; refine (cfixed_any _).mono ?_; rintro e w11 ⟨rfl, hb11⟩; have hz11 := hb11.size; (try simp at hz11); have P11 : Blk w11 w3.heap.size 31 #[.int .i64 sg3, .slice A3 n3 c3] := blkOf hb11 (by (try simp) <;> omega) (by with_reducible repeat (first | exact P10 |  (refine Blk.newAt ?_ <;> simp <;> done) | refine Blk.drew ?_ | refine Blk.drewN ?_ _ | refine Blk.alloc ?_ _)); have P11c0 : w11.cell? ⟨w3.heap.size, 0, none⟩ = some (.int .i64 sg3) := P11.cell 0; have P11f0 := P11.frozen 0; have P11c1 : w11.cell? ⟨w3.heap.size, 1, none⟩ = some (.slice A3 n3 c3) := P11.cell 1; have P11f1 := P11.frozen 1; have L11b : Blk w11 w8.heap.size 31 #[.int .i64 sg8, .slice A8 n8 c8] := blkOf hb11 (by (try simp) <;> omega) (by with_reducible repeat (first | exact L10b |  (refine Blk.newAt ?_ <;> simp <;> done) | refine Blk.drew ?_ | refine Blk.drewN ?_ _ | refine Blk.alloc ?_ _)); have L11bc0 : w11.cell? ⟨w8.heap.size, 0, none⟩ = some (.int .i64 sg8) := L11b.cell 0; have L11bf0 := L11b.frozen 0; have L11bc1 : w11.cell? ⟨w8.heap.size, 1, none⟩ = some (.slice A8 n8 c8) := L11b.cell 1; have L11bf1 := L11b.frozen 1; have H11 : Blk w11 gh 31 #[.int .i64 sg10, .slice A10 n10 c10] := blkOf hb11 (by (try simp) <;> omega) (by with_reducible repeat (first | exact H10 |  (refine Blk.newAt ?_ <;> simp <;> done) | refine Blk.drew ?_ | refine Blk.drewN ?_ _ | refine Blk.alloc ?_ _)); have H11c0 : w11.cell? ⟨gh, 0, none⟩ = some (.int .i64 sg10) := H11.cell 0; have H11f0 := H11.frozen 0; have H11c1 : w11.cell? ⟨gh, 1, none⟩ = some (.slice A10 n10 c10) := H11.cell 1; have H11f1 := H11.frozen 1)
            | (go_at_call 12; refine (L1.out _ (by (with_reducible repeat (first | exact Below.refl _ _ | exact hb11 | exact hbc | refine bto0 ?_ hb11 | refine bto0 ?_ hbc | refine bdr ?_ _ | refine Below.drew ?_ | refine ball ?_ _)))).mono ?_; rintro e w12 ⟨rfl, hb12⟩; have hz12 := hb12.size; (try simp at hz12); have P12 : Blk w12 w3.heap.size 31 #[.int .i64 sg3, .slice A3 n3 c3] := blkOf hb12 (by (try simp) <;> omega) (by with_reducible repeat (first | exact P11 |  (refine Blk.newAt ?_ <;> simp <;> done) | refine Blk.drew ?_ | refine Blk.drewN ?_ _ | refine Blk.alloc ?_ _)); have P12c0 : w12.cell? ⟨w3.heap.size, 0, none⟩ = some (.int .i64 sg3) := P12.cell 0; have P12f0 := P12.frozen 0; have P12c1 : w12.cell? ⟨w3.heap.size, 1, none⟩ = some (.slice A3 n3 c3) := P12.cell 1; have P12f1 := P12.frozen 1; have L12b : Blk w12 w8.heap.size 31 #[.int .i64 sg8, .slice A8 n8 c8] := blkOf hb12 (by (try simp) <;> omega) (by with_reducible repeat (first | exact L11b |  (refine Blk.newAt ?_ <;> simp <;> done) | refine Blk.drew ?_ | refine Blk.drewN ?_ _ | refine Blk.alloc ?_ _)); have L12bc0 : w12.cell? ⟨w8.heap.size, 0, none⟩ = some (.int .i64 sg8) := L12b.cell 0; have L12bf0 := L12b.frozen 0; have L12bc1 : w12.cell? ⟨w8.heap.size, 1, none⟩ = some (.slice A8 n8 c8) := L12b.cell 1; have L12bf1 := L12b.frozen 1; have H12 : Blk w12 gh 31 #[.int .i64 sg10, .slice A10 n10 c10] := blkOf hb12 (by (try simp) <;> omega) (by with_reducible repeat (first | exact H11 |  (refine Blk.newAt ?_ <;> simp <;> done) | refine Blk.drew ?_ | refine Blk.drewN ?_ _ | refine Blk.alloc ?_ _)); have H12c0 : w12.cell? ⟨gh, 0, none⟩ = some (.int .i64 sg10) := H12.cell 0; have H12f0 := H12.frozen 0; have H12c1 : w12.cell? ⟨gh, 1, none⟩ = some (.slice A10 n10 c10) := H12.cell 1; have H12f1 := H12.frozen 1))
          go_ret
          exact ⟨rfl, by (with_reducible repeat (first | exact Below.refl _ _ | exact hb13 | exact hb12 | exact hb11 | exact hbc | exact hb8 | exact hb7 | exact hb6 | exact hb5 | exact hb4 | exact hb3 | exact hb2 | exact hb1 | refine bto0 ?_ hb13 | refine bto0 ?_ hb12 | refine bto0 ?_ hb11 | refine bto0 ?_ hbc | refine bto0 ?_ hb8 | refine bto0 ?_ hb7 | refine bto0 ?_ hb6 | refine bto0 ?_ hb5 | refine bto0 ?_ hb4 | refine bto0 ?_ hb3 | refine bto0 ?_ hb2 | refine bto0 ?_ hb1 | refine bdr ?_ _ | refine Below.drew ?_ | refine ball ?_ _))⟩
        · have L3 := Lib.hid (L2.out hlt)
          clear hlt
          go_wp2_with (first
            | (go_at_call 6; refine (cfixed_any _).mono ?_; rintro e w11 ⟨rfl, hb11⟩; have hz11 := hb11.size; (try simp at hz11); have P11 : Blk w11 w3.heap.size 31 #[.int .i64 sg3, .slice A3 n3 c3] := blkOf hb11 (by (try simp) <;> omega) (by with_reducible repeat (first | exact P10 |  (refine Blk.newAt ?_ <;> simp <;> done) | refine Blk.drew ?_ | refine Blk.drewN ?_ _ | refine Blk.alloc ?_ _)); have P11c0 : w11.cell? ⟨w3.heap.size, 0, none⟩ = some (.int .i64 sg3) := P11.cell 0; have P11f0 := P11.frozen 0; have P11c1 : w11.cell? ⟨w3.heap.size, 1, none⟩ = some (.slice A3 n3 c3) := P11.cell 1; have P11f1 := P11.frozen 1; have L11b : Blk w11 w8.heap.size 31 #[.int .i64 sg8, .slice A8 n8 c8] := blkOf hb11 (by (try simp) <;> omega) (by with_reducible repeat (first | exact L10b |  (refine Blk.newAt ?_ <;> simp <;> done) | refine Blk.drew ?_ | refine Blk.drewN ?_ _ | refine Blk.alloc ?_ _)); have L11bc0 : w11.cell? ⟨w8.heap.size, 0, none⟩ = some (.int .i64 sg8) := L11b.cell 0; have L11bf0 := L11b.frozen 0; have L11bc1 : w11.cell? ⟨w8.heap.size, 1, none⟩ = some (.slice A8 n8 c8) := L11b.cell 1; have L11bf1 := L11b.frozen 1; have H11 : Blk w11 gh 31 #[.int .i64 sg10, .slice A10 n10 c10] := blkOf hb11 (by (try simp) <;> omega) (by with_reducible repeat (first | exact H10 |  (refine Blk.newAt ?_ <;> simp <;> done) | refine Blk.drew ?_ | refine Blk.drewN ?_ _ | refine Blk.alloc ?_ _)); have H11c0 : w11.cell? ⟨gh, 0, none⟩ = some (.int .i64 sg10) := H11.cell 0; have H11f0 := H11.frozen 0; have H11c1 : w11.cell? ⟨gh, 1, none⟩ = some (.slice A10 n10 c10) := H11.cell 1; have H11f1 := H11.frozen 1)
            | (go_at_call 12; (with_reducible refine (L1.out _ (by (with_reducible repeat (first | exact Below.refl _ _ | exact hb11 | exact hbc | refine bto0 ?_ hb11 | refine bto0 ?_ hbc | refine bdr ?_ _ | refine Below.drew ?_ | refine ball ?_ _)))).mono ?_); rintro e w12 ⟨rfl, hb12⟩; have hz12 := hb12.size; (try simp at hz12); have P12 : Blk w12 w3.heap.size 31 #[.int .i64 sg3, .slice A3 n3 c3] := blkOf hb12 (by (try simp) <;> omega) (by with_reducible repeat (first | exact P11 |  (refine Blk.newAt ?_ <;> simp <;> done) | refine Blk.drew ?_ | refine Blk.drewN ?_ _ | refine Blk.alloc ?_ _)); have P12c0 : w12.cell? ⟨w3.heap.size, 0, none⟩ = some (.int .i64 sg3) := P12.cell 0; have P12f0 := P12.frozen 0; have P12c1 : w12.cell? ⟨w3.heap.size, 1, none⟩ = some (.slice A3 n3 c3) := P12.cell 1; have P12f1 := P12.frozen 1; have L12b : Blk w12 w8.heap.size 31 #[.int .i64 sg8, .slice A8 n8 c8] := blkOf hb12 (by (try simp) <;> omega) (by with_reducible repeat (first | exact L11b |  (refine Blk.newAt ?_ <;> simp <;> done) | refine Blk.drew ?_ | refine Blk.drewN ?_ _ | refine Blk.alloc ?_ _)); have L12bc0 : w12.cell? ⟨w8.heap.size, 0, none⟩ = some (.int .i64 sg8) := L12b.cell 0; have L12bf0 := L12b.frozen 0; have L12bc1 : w12.cell? ⟨w8.heap.size, 1, none⟩ = some (.slice A8 n8 c8) := L12b.cell 1; have L12bf1 := L12b.frozen 1; have H12 : Blk w12 gh 31 #[.int .i64 sg10, .slice A10 n10 c10] := blkOf hb12 (by (try simp) <;> omega) (by with_reducible repeat (first | exact H11 |  (refine Blk.newAt ?_ <;> simp <;> done) | refine Blk.drew ?_ | refine Blk.drewN ?_ _ | refine Blk.alloc ?_ _)); have H12c0 : w12.cell? ⟨gh, 0, none⟩ = some (.int .i64 sg10) := H12.cell 0; have H12f0 := H12.frozen 0; have H12c1 : w12.cell? ⟨gh, 1, none⟩ = some (.slice A10 n10 c10) := H12.cell 1; have H12f1 := H12.frozen 1)
            | (go_at_call 12; (with_reducible refine (L3.out _ (by (with_reducible repeat (first | exact Below.refl _ _ | exact hb12 | exact hb11 | refine bto0 ?_ hb12 | refine bto0 ?_ hb11 | refine bdr ?_ _ | refine Below.drew ?_ | refine ball ?_ _)))).mono ?_); rintro e w13 ⟨rfl, hb13⟩))
          go_ret
          exact ⟨rfl, by (with_reducible repeat (first | exact Below.refl _ _ | exact hb13 | exact hb12 | exact hb11 | exact hbc | exact hb8 | exact hb7 | exact hb6 | exact hb5 | exact hb4 | exact hb3 | exact hb2 | exact hb1 | refine bto0 ?_ hb13 | refine bto0 ?_ hb12 | refine bto0 ?_ hb11 | refine bto0 ?_ hbc | refine bto0 ?_ hb8 | refine bto0 ?_ hb7 | refine bto0 ?_ hb6 | refine bto0 ?_ hb5 | refine bto0 ?_ hb4 | refine bto0 ?_ hb3 | refine bto0 ?_ hb2 | refine bto0 ?_ hb1 | refine bdr ?_ _ | refine Below.drew ?_ | refine ball ?_ _))⟩
end Go.Proofs.Ytegnoheaglnhhab
