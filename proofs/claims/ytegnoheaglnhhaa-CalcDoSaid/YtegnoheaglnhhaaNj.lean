/-
  Contracts of the reference's numbers: Turn; the law CalcIs's walk.
-/
import Derived.Test.YtegnoheaglnhhaaNg
import Derived.Test.YtegnoheaglnhhaaCf
import Derived.Deep.RegionHeld3
namespace Go.Proofs.Ytegnoheaglnhhaa
open Go.RowKit

theorem turn_any (sg : Int) (h0 : -1 ≤ sg) (h1 : sg ≤ 1) (A : Option Addr) (n c : Nat) (w : World) :
    Calls Try.prog 33 #[.agg #[.int .i64 sg, .slice A n c]] w (RetB w (.agg #[.int .i64 (-sg), .slice A n c])) := by
  go_enter Try.func33, Try.ntmps33
  go_wp2
  refine bodyPost_ret (v := .agg #[.int .i64 (-sg), .slice A n c]) (by simp [results, Try.results33, go_sem]) rfl ⟨rfl, ?_⟩
  exact ball (ball (Below.refl _ _) _) _

theorem is_any (n : Int) (ok : Bool) (sg : Int) (hsg : sg = 1 ∨ sg = -1) (A : Option Addr) (m c : Nat) (l : List Nat) (w : World) (hr : Reads w w.heap.size 1 A m (vD l)) (hok : dok l) (hm : m ≤ 1000) (hmc : m ≤ c) (z : Int) (hz : sg * ((dv l : Nat) : Int) = z) (h1 : n = numN z) (h2 : ok = decide (rngP z)) :
    Calls Try.prog 31 #[.int .i64 n, .bool ok, .agg #[.int .i64 sg, .slice A m c]] w (RetB w (.bool true)) := by
  have hRt : ∀ W, Below w.heap.size w W → Calls Try.prog 48 #[.agg #[.int .i64 sg, .slice A m c]] W (RetB W (.tuple #[.int .i64 n, .bool ok])) := by
    intro W hb
    have h := right_any sg hsg A m c l W (hr.up hb) hok hm hmc
    rw [hz] at h
    unfold numR at h
    rw [← h1, ← h2] at h
    exact h
  have HRt := Lib.hid hRt
  clear hRt hz h1 h2 hr hsg
  go_enter Try.func31, Try.ntmps31
  go_wp2_with (go_at_call 48; refine (HRt.out _ (by (with_reducible repeat (first | exact Below.refl _ _ | refine bdr ?_ _ | refine Below.drew ?_ | refine ball ?_ _)))).mono ?_; rintro e w5 ⟨rfl, hb5⟩)
  go_ret
  exact ⟨ret_bool (by simp), by (with_reducible repeat (first | exact Below.refl _ _ | exact hb5 | refine bto0 ?_ hb5 | refine bdr ?_ _ | refine Below.drew ?_ | refine ball ?_ _))⟩

set_option maxHeartbeats 4000000 in
theorem calcIs_any (a b : Int) (w : World) (ha : rngP a) (hb : rngP b) :
    Calls Try.prog 8 #[.int .i64 a, .int .i64 b] w (RetB w (.bool true)) := by
  obtain ⟨s1, q1, C1, E1, F1⟩ : ∃ s q, Hid (∀ W, Calls Try.prog 26 #[.int .i64 a, .int .i64 b] W fun e w' => e = .returned (.tuple #[.int .i64 s, .bool q]) ∧ W = w') ∧ Hid (s = numN (a + b)) ∧ Hid (q = decide (rngP (a + b))) := ⟨_, _, fun W => add_any a b W ha hb, Lib.hid rfl, Lib.hid rfl⟩
  obtain ⟨s2, q2, C2, E2, F2⟩ : ∃ s q, Hid (∀ W, Calls Try.prog 27 #[.int .i64 a, .int .i64 b] W fun e w' => e = .returned (.tuple #[.int .i64 s, .bool q]) ∧ W = w') ∧ Hid (s = numN (a - b)) ∧ Hid (q = decide (rngP (a - b))) := ⟨_, _, fun W => sub_any a b W ha hb, Lib.hid rfl, Lib.hid rfl⟩
  obtain ⟨s3, q3, C3, E3, F3⟩ : ∃ s q, Hid (∀ W, Calls Try.prog 28 #[.int .i64 a, .int .i64 b] W fun e w' => e = .returned (.tuple #[.int .i64 s, .bool q]) ∧ W = w') ∧ Hid (s = numN (a * b)) ∧ Hid (q = decide (rngP (a * b))) := ⟨_, _, fun W => mul_any a b W ha hb, Lib.hid rfl, Lib.hid rfl⟩
  obtain ⟨s4, q4, C4, E4, F4⟩ : ∃ s q, Hid (∀ W, Calls Try.prog 29 #[.int .i64 a] W fun e w' => e = .returned (.tuple #[.int .i64 s, .bool q]) ∧ W = w') ∧ Hid (s = numN (-a)) ∧ Hid (q = decide (rngP (-a))) := ⟨_, _, fun W => neg_any a W ha, Lib.hid rfl, Lib.hid rfl⟩
  have O1 := Lib.hid fun W => of_any a W ha.1 ha.2
  have O2 := Lib.hid fun W => of_any b W hb.1 hb.2
  clear ha hb
  go_enter Try.func8, Try.ntmps8
  go_wp2_with fail
  refine (O1.out _).mono ?_
  rintro e w1 ⟨v1, sg1, x1, rfl, hsg1, hval1, ⟨A1, n1, c1, l1, rfl, hr1, hnc1, hnm1, hok1, hdv1, hl1⟩, hb1⟩
  rw [← hdv1] at hval1
  clear hdv1
  have Hval1 := Lib.hid hval1
  clear hval1
  have Hsg1 := Lib.hid hsg1
  clear hsg1
  have Hl1 := Lib.hid hl1
  clear hl1
  have hz1 := hb1.size
  (try simp at hz1)
  go_wp2_with fail
  refine (O2.out _).mono ?_
  rintro e w2 ⟨v2, sg2, x2, rfl, hsg2, hval2, ⟨A2, n2, c2, l2, rfl, hr2, hnc2, hnm2, hok2, hdv2, hl2⟩, hb2⟩
  rw [← hdv2] at hval2
  clear hdv2
  have Hval2 := Lib.hid hval2
  clear hval2
  have Hsg2 := Lib.hid hsg2
  clear hsg2
  have Hl2 := Lib.hid hl2
  clear hl2
  have hz2 := hb2.size
  (try simp at hz2)
  obtain ⟨hr1', hw12⟩ : Reads w2 w2.heap.size 1 A1 n1 (vD l1) ∧ Below w.heap.size w w2 := ⟨hr1.up (by (with_reducible repeat (first | exact Below.refl _ _ | exact hb2 | refine bto0 ?_ hb2 | refine bdr ?_ _ | refine Below.drew ?_ | refine ball ?_ _))), by (with_reducible repeat (first | exact Below.refl _ _ | exact hb2 | exact hb1 | refine bto0 ?_ hb2 | refine bto0 ?_ hb1 | refine bdr ?_ _ | refine Below.drew ?_ | refine ball ?_ _))⟩
  go_wp2_with (first
    | (go_at_call 26; (with_reducible refine (C1.out _).mono ?_); rintro e w' ⟨rfl, rfl⟩)
    | (go_at_call 27; (with_reducible refine (C2.out _).mono ?_); rintro e w' ⟨rfl, rfl⟩)
    | (go_at_call 28; (with_reducible refine (C3.out _).mono ?_); rintro e w' ⟨rfl, rfl⟩)
    | (go_at_call 29; (with_reducible refine (C4.out _).mono ?_); rintro e w' ⟨rfl, rfl⟩))
  have hA : Below w2.heap.size w2 ((w2.alloc (.cells #[.int .i64 sg1, .slice A1 n1 c1] 51)).alloc (.cells #[.int .i64 sg2, .slice A2 n2 c2] 51)) := ball (ball (Below.refl _ _) _) _
  have XA : Blk ((w2.alloc (.cells #[.int .i64 sg1, .slice A1 n1 c1] 51)).alloc (.cells #[.int .i64 sg2, .slice A2 n2 c2] 51)) w2.heap.size 51 #[.int .i64 sg1, .slice A1 n1 c1] := (Blk.new _ _ _).alloc _
  have XB : Blk ((w2.alloc (.cells #[.int .i64 sg1, .slice A1 n1 c1] 51)).alloc (.cells #[.int .i64 sg2, .slice A2 n2 c2] 51)) (w2.heap.size + 1) 51 #[.int .i64 sg2, .slice A2 n2 c2] := Blk.newAt (by simp)
  obtain ⟨WA, hWA⟩ : ∃ WA, (w2.alloc (.cells #[.int .i64 sg1, .slice A1 n1 c1] 51)).alloc (.cells #[.int .i64 sg2, .slice A2 n2 c2] 51) = WA := ⟨_, rfl⟩
  rw [hWA] at hA XA XB ⊢
  clear hWA
  have hsA := hr1'.up hA
  have hsB := hr2.up hA
  have hw : Below w.heap.size w WA := bto0 hw12 hA
  have hS : Hid (∀ W, Below WA.heap.size WA W → W.cell? ⟨w2.heap.size, 0, none⟩ = some (.int .i64 sg1) ∧ W.cell? ⟨w2.heap.size, 1, none⟩ = some (.slice A1 n1 c1) ∧ W.cell? ⟨w2.heap.size + 1, 0, none⟩ = some (.int .i64 sg2) ∧ W.cell? ⟨w2.heap.size + 1, 1, none⟩ = some (.slice A2 n2 c2) ∧ Below WA.heap.size WA W) := fun W hW =>
    ⟨(XA.below hW XA.lt).cell 0, (XA.below hW XA.lt).cell 1, (XB.below hW XB.lt).cell 0, (XB.below hW XB.lt).cell 1, hW⟩
  obtain ⟨k1, k2, k3, k4, k5⟩ := hS.out WA (Below.refl _ _)
  have V2 : Hid (sg1 * ((dv l1 : Nat) : Int) + -sg2 * ((dv l2 : Nat) : Int) = a - b) := Lib.hid (by rw [Int.neg_mul, Hval1.out, Hval2.out]; exact Int.sub_eq_add_neg.symm)
  have n2' := Hsg2.out
  have n2n : -sg2 = 1 ∨ -sg2 = -1 := by omega
  have N2n := Lib.hid n2n
  have n1' := Hsg1.out
  have n1n : -sg1 = 1 ∨ -sg1 = -1 := by omega
  have N1n := Lib.hid n1n
  have sb1 : -1 ≤ sg1 := by omega
  have sb2 : sg1 ≤ 1 := by omega
  have sb3 : -1 ≤ sg2 := by omega
  have sb4 : sg2 ≤ 1 := by omega
  clear n1' n2' n1n n2n k5 XA XB hA hr1' hr1 hr2 hb1 hb2 hw12
  go_region_held3 (fun w' => w'.cell? ⟨w2.heap.size, 0, none⟩ = some (.int .i64 sg1) ∧ w'.cell? ⟨w2.heap.size, 1, none⟩ = some (.slice A1 n1 c1) ∧ w'.cell? ⟨w2.heap.size + 1, 0, none⟩ = some (.int .i64 sg2) ∧ w'.cell? ⟨w2.heap.size + 1, 1, none⟩ = some (.slice A2 n2 c2) ∧ Below WA.heap.size WA w')
    (first | exact hS.out _ (by (with_reducible repeat (first | exact Below.refl _ _ | exact hb12 | exact hb11 | exact hb10 | exact hb9 | exact hb8 | exact hb7 | exact hb6 | exact hb5 | exact hb4 | exact hb3 | refine bto0 ?_ hb12 | refine bto0 ?_ hb11 | refine bto0 ?_ hb10 | refine bto0 ?_ hb9 | refine bto0 ?_ hb8 | refine bto0 ?_ hb7 | refine bto0 ?_ hb6 | refine bto0 ?_ hb5 | refine bto0 ?_ hb4 | refine bto0 ?_ hb3 | refine bdr ?_ _ | refine Below.drew ?_ | refine ball ?_ _))) | assumption)
    (first
      | (go_at_call 30; refine (cfixed_any _).mono ?_; rintro e w3 ⟨rfl, hb3⟩)
      | (go_at_call 32; (with_reducible refine (plus_any sg1 sg2 Hsg1.out Hsg2.out A1 n1 c1 l1 A2 n2 c2 l2 _ (hsA.up (by (with_reducible repeat (first | exact Below.refl _ _ | exact hb12 | exact hb11 | exact hb10 | exact hb9 | exact hb8 | exact hb7 | exact hb6 | exact hb5 | exact hb4 | exact hb3 | refine bto0 ?_ hb12 | refine bto0 ?_ hb11 | refine bto0 ?_ hb10 | refine bto0 ?_ hb9 | refine bto0 ?_ hb8 | refine bto0 ?_ hb7 | refine bto0 ?_ hb6 | refine bto0 ?_ hb5 | refine bto0 ?_ hb4 | refine bto0 ?_ hb3 | refine bdr ?_ _ | refine Below.drew ?_ | refine ball ?_ _)))) (hsB.up (by (with_reducible repeat (first | exact Below.refl _ _ | exact hb12 | exact hb11 | exact hb10 | exact hb9 | exact hb8 | exact hb7 | exact hb6 | exact hb5 | exact hb4 | exact hb3 | refine bto0 ?_ hb12 | refine bto0 ?_ hb11 | refine bto0 ?_ hb10 | refine bto0 ?_ hb9 | refine bto0 ?_ hb8 | refine bto0 ?_ hb7 | refine bto0 ?_ hb6 | refine bto0 ?_ hb5 | refine bto0 ?_ hb4 | refine bto0 ?_ hb3 | refine bdr ?_ _ | refine Below.drew ?_ | refine ball ?_ _)))) hok1 hok2 (by omega) (by omega) hnc1 hnc2).mono ?_); rintro e w4 ⟨v4, sg4, x4, rfl, hsg4, hval4, ⟨A4, n4, c4, l4, rfl, hr4, hnc4, hnm4, hok4, hdv4, hl4⟩, hb4⟩; rw [← hdv4] at hval4; clear hdv4; have Hval4 := Lib.hid hval4; clear hval4; have Hsg4 := Lib.hid hsg4; clear hsg4; have Hl4 := Lib.hid hl4; clear hl4; have hz4 := hb4.size; (try simp at hz4))
      | (go_at_call 31; (with_reducible refine (is_any s1 q1 sg4 Hsg4.out A4 n4 c4 l4 _ (hr4.up (by (with_reducible repeat (first | exact Below.refl _ _ | exact hb12 | exact hb11 | exact hb10 | exact hb9 | exact hb8 | exact hb7 | exact hb6 | exact hb5 | exact hb4 | exact hb3 | refine bto0 ?_ hb12 | refine bto0 ?_ hb11 | refine bto0 ?_ hb10 | refine bto0 ?_ hb9 | refine bto0 ?_ hb8 | refine bto0 ?_ hb7 | refine bto0 ?_ hb6 | refine bto0 ?_ hb5 | refine bto0 ?_ hb4 | refine bto0 ?_ hb3 | refine bdr ?_ _ | refine Below.drew ?_ | refine ball ?_ _)))) hok4 (by omega) hnc4 (a + b) (by rw [Hval4.out, Hval1.out, Hval2.out]) E1.out F1.out).mono ?_); rintro e w5 ⟨rfl, hb5⟩)
      | (go_at_call 33; (with_reducible refine (turn_any sg2 sb3 sb4 A2 n2 c2 _).mono ?_); rintro e w6 ⟨rfl, hb6⟩)
      | (go_at_call 32; (with_reducible refine (plus_any sg1 (-sg2) Hsg1.out N2n.out A1 n1 c1 l1 A2 n2 c2 l2 _ (hsA.up (by (with_reducible repeat (first | exact Below.refl _ _ | exact hb12 | exact hb11 | exact hb10 | exact hb9 | exact hb8 | exact hb7 | exact hb6 | exact hb5 | exact hb4 | exact hb3 | refine bto0 ?_ hb12 | refine bto0 ?_ hb11 | refine bto0 ?_ hb10 | refine bto0 ?_ hb9 | refine bto0 ?_ hb8 | refine bto0 ?_ hb7 | refine bto0 ?_ hb6 | refine bto0 ?_ hb5 | refine bto0 ?_ hb4 | refine bto0 ?_ hb3 | refine bdr ?_ _ | refine Below.drew ?_ | refine ball ?_ _)))) (hsB.up (by (with_reducible repeat (first | exact Below.refl _ _ | exact hb12 | exact hb11 | exact hb10 | exact hb9 | exact hb8 | exact hb7 | exact hb6 | exact hb5 | exact hb4 | exact hb3 | refine bto0 ?_ hb12 | refine bto0 ?_ hb11 | refine bto0 ?_ hb10 | refine bto0 ?_ hb9 | refine bto0 ?_ hb8 | refine bto0 ?_ hb7 | refine bto0 ?_ hb6 | refine bto0 ?_ hb5 | refine bto0 ?_ hb4 | refine bto0 ?_ hb3 | refine bdr ?_ _ | refine Below.drew ?_ | refine ball ?_ _)))) hok1 hok2 (by omega) (by omega) hnc1 hnc2).mono ?_); rintro e w7 ⟨v7, sg7, x7, rfl, hsg7, hval7, ⟨A7, n7, c7, l7, rfl, hr7, hnc7, hnm7, hok7, hdv7, hl7⟩, hb7⟩; rw [← hdv7] at hval7; clear hdv7; have Hval7 := Lib.hid hval7; clear hval7; have Hsg7 := Lib.hid hsg7; clear hsg7; have Hl7 := Lib.hid hl7; clear hl7; have hz7 := hb7.size; (try simp at hz7))
      | (go_at_call 31; (with_reducible refine (is_any s2 q2 sg7 Hsg7.out A7 n7 c7 l7 _ (hr7.up (by (with_reducible repeat (first | exact Below.refl _ _ | exact hb12 | exact hb11 | exact hb10 | exact hb9 | exact hb8 | exact hb7 | exact hb6 | exact hb5 | exact hb4 | exact hb3 | refine bto0 ?_ hb12 | refine bto0 ?_ hb11 | refine bto0 ?_ hb10 | refine bto0 ?_ hb9 | refine bto0 ?_ hb8 | refine bto0 ?_ hb7 | refine bto0 ?_ hb6 | refine bto0 ?_ hb5 | refine bto0 ?_ hb4 | refine bto0 ?_ hb3 | refine bdr ?_ _ | refine Below.drew ?_ | refine ball ?_ _)))) hok7 (by omega) hnc7 (a - b) (by rw [Hval7.out]; exact V2.out) E2.out F2.out).mono ?_); rintro e w8 ⟨rfl, hb8⟩)
      | (go_at_call 34; (with_reducible refine (times_any sg1 sg2 Hsg1.out Hsg2.out A1 n1 c1 l1 A2 n2 c2 l2 _ (hsA.up (by (with_reducible repeat (first | exact Below.refl _ _ | exact hb12 | exact hb11 | exact hb10 | exact hb9 | exact hb8 | exact hb7 | exact hb6 | exact hb5 | exact hb4 | exact hb3 | refine bto0 ?_ hb12 | refine bto0 ?_ hb11 | refine bto0 ?_ hb10 | refine bto0 ?_ hb9 | refine bto0 ?_ hb8 | refine bto0 ?_ hb7 | refine bto0 ?_ hb6 | refine bto0 ?_ hb5 | refine bto0 ?_ hb4 | refine bto0 ?_ hb3 | refine bdr ?_ _ | refine Below.drew ?_ | refine ball ?_ _)))) (hsB.up (by (with_reducible repeat (first | exact Below.refl _ _ | exact hb12 | exact hb11 | exact hb10 | exact hb9 | exact hb8 | exact hb7 | exact hb6 | exact hb5 | exact hb4 | exact hb3 | refine bto0 ?_ hb12 | refine bto0 ?_ hb11 | refine bto0 ?_ hb10 | refine bto0 ?_ hb9 | refine bto0 ?_ hb8 | refine bto0 ?_ hb7 | refine bto0 ?_ hb6 | refine bto0 ?_ hb5 | refine bto0 ?_ hb4 | refine bto0 ?_ hb3 | refine bdr ?_ _ | refine Below.drew ?_ | refine ball ?_ _)))) hok1 hok2 (by omega) (by omega)).mono ?_); rintro e w9 ⟨v9, sg9, x9, rfl, hsg9, hval9, ⟨A9, n9, c9, l9, rfl, hr9, hnc9, hnm9, hok9, hdv9, hl9⟩, hb9⟩; rw [← hdv9] at hval9; clear hdv9; have Hval9 := Lib.hid hval9; clear hval9; have Hsg9 := Lib.hid hsg9; clear hsg9; have Hl9 := Lib.hid hl9; clear hl9; have hz9 := hb9.size; (try simp at hz9))
      | (go_at_call 31; (with_reducible refine (is_any s3 q3 sg9 Hsg9.out A9 n9 c9 l9 _ (hr9.up (by (with_reducible repeat (first | exact Below.refl _ _ | exact hb12 | exact hb11 | exact hb10 | exact hb9 | exact hb8 | exact hb7 | exact hb6 | exact hb5 | exact hb4 | exact hb3 | refine bto0 ?_ hb12 | refine bto0 ?_ hb11 | refine bto0 ?_ hb10 | refine bto0 ?_ hb9 | refine bto0 ?_ hb8 | refine bto0 ?_ hb7 | refine bto0 ?_ hb6 | refine bto0 ?_ hb5 | refine bto0 ?_ hb4 | refine bto0 ?_ hb3 | refine bdr ?_ _ | refine Below.drew ?_ | refine ball ?_ _)))) hok9 (by omega) hnc9 (a * b) (by rw [Hval9.out, Hval1.out, Hval2.out]) E3.out F3.out).mono ?_); rintro e w10 ⟨rfl, hb10⟩)
      | (go_at_call 33; (with_reducible refine (turn_any sg1 sb1 sb2 A1 n1 c1 _).mono ?_); rintro e w11 ⟨rfl, hb11⟩)
      | (go_at_call 31; (with_reducible refine (is_any s4 q4 (-sg1) N1n.out A1 n1 c1 l1 _ (hsA.up (by (with_reducible repeat (first | exact Below.refl _ _ | exact hb12 | exact hb11 | exact hb10 | exact hb9 | exact hb8 | exact hb7 | exact hb6 | exact hb5 | exact hb4 | exact hb3 | refine bto0 ?_ hb12 | refine bto0 ?_ hb11 | refine bto0 ?_ hb10 | refine bto0 ?_ hb9 | refine bto0 ?_ hb8 | refine bto0 ?_ hb7 | refine bto0 ?_ hb6 | refine bto0 ?_ hb5 | refine bto0 ?_ hb4 | refine bto0 ?_ hb3 | refine bdr ?_ _ | refine Below.drew ?_ | refine ball ?_ _)))) hok1 (by omega) hnc1 (-a) (by rw [Int.neg_mul, Hval1.out]) E4.out F4.out).mono ?_); rintro e w12 ⟨rfl, hb12⟩))
  go_wp2
  go_ret
  exact ⟨rfl, bto0 hw (by (with_reducible repeat (first | exact Below.refl _ _ | exact hb12 | exact hb11 | exact hb10 | exact hb9 | exact hb8 | exact hb7 | exact hb6 | exact hb5 | exact hb4 | exact hb3 | refine bto0 ?_ hb12 | refine bto0 ?_ hb11 | refine bto0 ?_ hb10 | refine bto0 ?_ hb9 | refine bto0 ?_ hb8 | refine bto0 ?_ hb7 | refine bto0 ?_ hb6 | refine bto0 ?_ hb5 | refine bto0 ?_ hb4 | refine bto0 ?_ hb3 | refine bdr ?_ _ | refine Below.drew ?_ | refine ball ?_ _)))⟩
end Go.Proofs.Ytegnoheaglnhhaa
