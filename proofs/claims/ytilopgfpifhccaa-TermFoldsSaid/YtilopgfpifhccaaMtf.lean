/-
  Several texts in one: Nf Ng.
-/
import Derived.Test.YtilopgfpifhccaaMte
/-
  Contracts of the reference's numbers: Right.
-/
namespace Go.Proofs.Ytilopgfpifhccaa
section
set_option linter.unusedSimpArgs false
set_option linter.unusedVariables false
open Go.RowKit

theorem reads_of_blk {w : World} {g : Nat} {t : TypeId} {cs : Array Value} {size n : Nat} {xs : List Value} (h : Blk w g t cs) (hx : xs = cs.toList) (hn : xs.length = n * size) : Reads w w.heap.size size (some ⟨g, 0, none⟩) n xs := by
  subst hx
  refine ⟨hn, fun _ => ⟨_, rfl, h.lt, fun j u hu => ?_⟩⟩
  rw [add_head, h.cell]
  simpa using hu
theorem two_ib {k : IntKind} {a b : Int} {c : Bool} (h : a = b) : Ending.returned (.tuple #[.int k a, .bool c]) = .returned (.tuple #[.int k b, .bool c]) := by rw [h]
theorem top_dv : dv [0, 0, 0, 32768] = 9223372036854775808 := by simp [dv]
theorem right_step {l : List Nat} {j : Nat} {d : Nat} (h : l[j]? = some d) (hx : dv l ≤ 9223372036854775808) : dv (l.drop j) = d + 65536 * dv (l.drop (j + 1)) ∧ dv (l.drop j) ≤ 9223372036854775808 := by
  refine ⟨dv_drop h, ?_⟩
  have h1 := dv_split l j
  have h2 : 1 * dv (l.drop j) ≤ 65536 ^ j * dv (l.drop j) := Nat.mul_le_mul_right _ (Nat.one_le_pow _ _ (by omega))
  omega

set_option maxRecDepth 100000 in
set_option maxHeartbeats 2000000 in
theorem right_any (sg : Int) (hsg : sg = 1 ∨ sg = -1) (A : Option Addr) (n c : Nat) (l : List Nat) (w : World) (hr : Reads w w.heap.size 1 A n (vD l)) (hok : dok l) (hn : n ≤ 10000) (hnc : n ≤ c) :
    Calls Try.prog 39 #[.agg #[.int .i64 sg, .slice A n c]] w (RetB w (numR (sg * (dv l : Nat)))) := by
  have hl : l.length = n := by have := hr.1; rw [vD_len] at this; omega
  have Hl := Lib.hid hl; clear hl
  have ht : dok [0, 0, 0, 32768] := by intro x hx; simp at hx; omega
  have L1 := fun W h1 h2 => rless_n sg 1 A n c l (some ⟨w.heap.size + 1, 0, none⟩) 4 4 [0, 0, 0, 32768] W h1 h2 hok ht hn (by omega)
  have L2 := fun W h1 h2 => rless_n 1 sg (some ⟨w.heap.size + 1, 0, none⟩) 4 4 [0, 0, 0, 32768] A n c l W h2 h1 ht hok (by omega) hn
  rw [top_dv] at L1 L2
  obtain ⟨X, hX⟩ : ∃ X, dv l = X := ⟨_, rfl⟩
  rw [hX] at L1 L2 ⊢
  rcases hsg with rfl | rfl
  · by_cases hx : X < 9223372036854775808
    · rw [decide_eq_true hx] at L1
      rw [decide_eq_false (by omega)] at L2
      have LL1 := Lib.hid L1; clear L1
      have LL2 := Lib.hid L2; clear L2
      have HX := Lib.hid hX; clear hX
      obtain ⟨Z, hZ⟩ : ∃ Z, numR (1 * (X : Int)) = Z := ⟨_, rfl⟩
      have h0 := numR_in (x := 1 * (X : Int)) (by unfold rngP; omega)
      rw [hZ] at h0 ⊢
      have HR := Lib.hid h0; clear h0 hZ
      go_enter Try.func39, Try.ntmps39
      go_wp2_with (go_at_call 55; first | ((with_reducible refine (LL1.out _ (hr.up (by (with_reducible repeat (first | exact Below.refl _ _ | refine bdr ?_ _ | refine Below.drew ?_ | refine ball ?_ _)))) (reads_of_blk (t := 85) (cs := #[.int .u64 0, .int .u64 0, .int .u64 0, .int .u64 32768]) (by with_reducible repeat (first | exact Blk.newAt (by simp) | refine Blk.drew ?_ | refine Blk.drewN ?_ _ | refine Blk.alloc ?_ _)) (by simp [vD]) (by simp [vD]))).mono ?_); rintro e w3 ⟨rfl, hb3⟩; have hz3 := hb3.size; (try simp at hz3); have P3 : Blk w3 w.heap.size 73 #[.int .i64 1, .slice A n c] := blkOf hb3 (by (try simp) <;> omega) (by with_reducible repeat (first | exact Blk.newAt (by simp) | refine Blk.drew ?_ | refine Blk.drewN ?_ _ | refine Blk.alloc ?_ _)); have P3c0 : w3.cell? ⟨w.heap.size, 0, none⟩ = some (.int .i64 1) := P3.cell 0; have P3f0 := P3.frozen 0; have P3c1 : w3.cell? ⟨w.heap.size, 1, none⟩ = some (.slice A n c) := P3.cell 1; have P3f1 := P3.frozen 1; have R3 : Blk w3 (w.heap.size + 1) 85 #[.int .u64 0, .int .u64 0, .int .u64 0, .int .u64 32768] := blkOf hb3 (by (try simp) <;> omega) (by with_reducible repeat (first | exact Blk.newAt (by simp) | refine Blk.drew ?_ | refine Blk.drewN ?_ _ | refine Blk.alloc ?_ _)); have R3c0 : w3.cell? ⟨(w.heap.size + 1), 0, none⟩ = some (.int .u64 0) := R3.cell 0; have R3f0 := R3.frozen 0; have R3c1 : w3.cell? ⟨(w.heap.size + 1), 1, none⟩ = some (.int .u64 0) := R3.cell 1; have R3f1 := R3.frozen 1; have R3c2 : w3.cell? ⟨(w.heap.size + 1), 2, none⟩ = some (.int .u64 0) := R3.cell 2; have R3f2 := R3.frozen 2; have R3c3 : w3.cell? ⟨(w.heap.size + 1), 3, none⟩ = some (.int .u64 32768) := R3.cell 3; have R3f3 := R3.frozen 3; have T3 : Blk w3 (w.heap.size + 1 + 1) 73 #[.int .i64 1, .slice (some ⟨w.heap.size + 1, 0, none⟩) 4 4] := blkOf hb3 (by (try simp) <;> omega) (by with_reducible repeat (first | exact Blk.newAt (by simp) | refine Blk.drew ?_ | refine Blk.drewN ?_ _ | refine Blk.alloc ?_ _)); have T3c0 : w3.cell? ⟨(w.heap.size + 1 + 1), 0, none⟩ = some (.int .i64 1) := T3.cell 0; have T3f0 := T3.frozen 0; have T3c1 : w3.cell? ⟨(w.heap.size + 1 + 1), 1, none⟩ = some (.slice (some ⟨w.heap.size + 1, 0, none⟩) 4 4) := T3.cell 1; have T3f1 := T3.frozen 1) | ((with_reducible refine (LL2.out _ (hr.up (by (with_reducible repeat (first | exact Below.refl _ _ | exact hb3 | refine bto0 ?_ hb3 | refine bdr ?_ _ | refine Below.drew ?_ | refine ball ?_ _)))) (reads_of_blk (t := 85) (cs := #[.int .u64 0, .int .u64 0, .int .u64 0, .int .u64 32768]) (by with_reducible repeat (first | exact R3 | exact Blk.newAt (by simp) | refine Blk.drew ?_ | refine Blk.drewN ?_ _ | refine Blk.alloc ?_ _)) (by simp [vD]) (by simp [vD]))).mono ?_); rintro e w4 ⟨rfl, hb4⟩; have hz4 := hb4.size; (try simp at hz4); have P4 : Blk w4 w.heap.size 73 #[.int .i64 1, .slice A n c] := blkOf hb4 (by (try simp) <;> omega) (by with_reducible repeat (first | exact P3 | exact Blk.newAt (by simp) | refine Blk.drew ?_ | refine Blk.drewN ?_ _ | refine Blk.alloc ?_ _)); have P4c0 : w4.cell? ⟨w.heap.size, 0, none⟩ = some (.int .i64 1) := P4.cell 0; have P4f0 := P4.frozen 0; have P4c1 : w4.cell? ⟨w.heap.size, 1, none⟩ = some (.slice A n c) := P4.cell 1; have P4f1 := P4.frozen 1; have R4 : Blk w4 (w.heap.size + 1) 85 #[.int .u64 0, .int .u64 0, .int .u64 0, .int .u64 32768] := blkOf hb4 (by (try simp) <;> omega) (by with_reducible repeat (first | exact R3 | exact Blk.newAt (by simp) | refine Blk.drew ?_ | refine Blk.drewN ?_ _ | refine Blk.alloc ?_ _)); have R4c0 : w4.cell? ⟨(w.heap.size + 1), 0, none⟩ = some (.int .u64 0) := R4.cell 0; have R4f0 := R4.frozen 0; have R4c1 : w4.cell? ⟨(w.heap.size + 1), 1, none⟩ = some (.int .u64 0) := R4.cell 1; have R4f1 := R4.frozen 1; have R4c2 : w4.cell? ⟨(w.heap.size + 1), 2, none⟩ = some (.int .u64 0) := R4.cell 2; have R4f2 := R4.frozen 2; have R4c3 : w4.cell? ⟨(w.heap.size + 1), 3, none⟩ = some (.int .u64 32768) := R4.cell 3; have R4f3 := R4.frozen 3; have T4 : Blk w4 (w.heap.size + 1 + 1) 73 #[.int .i64 1, .slice (some ⟨w.heap.size + 1, 0, none⟩) 4 4] := blkOf hb4 (by (try simp) <;> omega) (by with_reducible repeat (first | exact T3 | exact Blk.newAt (by simp) | refine Blk.drew ?_ | refine Blk.drewN ?_ _ | refine Blk.alloc ?_ _)); have T4c0 : w4.cell? ⟨(w.heap.size + 1 + 1), 0, none⟩ = some (.int .i64 1) := T4.cell 0; have T4f0 := T4.frozen 0; have T4c1 : w4.cell? ⟨(w.heap.size + 1 + 1), 1, none⟩ = some (.slice (some ⟨w.heap.size + 1, 0, none⟩) 4 4) := T4.cell 1; have T4f1 := T4.frozen 1))
      have bw : Below w.heap.size w w4 := by (with_reducible repeat (first | exact Below.refl _ _ | exact hb4 | exact hb3 | refine bto0 ?_ hb4 | refine bto0 ?_ hb3 | refine bdr ?_ _ | refine Below.drew ?_ | refine ball ?_ _))
      have hrw := hr.up bw
      have hX2 : dv l ≤ 9223372036854775808 := by rw [HX.out]; omega
      have HX2 := Lib.hid hX2; clear hX2
      go_loop [5, 6] (fun v5 v6 => ∃ (k Y : Nat), v6 = .int .i64 ((k : Int) - 1) ∧ v5 = .int .i64 (-(Y : Int)) ∧ k ≤ n ∧ dv (l.drop k) = Y) (fun _ v => (intOf v + 1).toNat)
      case atStart => exact ⟨n, 0, val_int (by omega), rfl, Nat.le_refl _, by rw [List.drop_eq_nil_of_le (by rw [Hl.out]; omega)]; rfl⟩
      case round =>
        obtain ⟨k, Y, rfl, rfl, hk, hY⟩ := hrel
        rcases Nat.eq_zero_or_pos k with rfl | hpos
        · have hYX : Y = X := by rw [← hY, List.drop_zero, HX.out]
          have HYX : Hid ((Y : Int) = 1 * (X : Int)) := Lib.hid (by omega)
          have hY2 : Y < 9223372036854775808 := by omega
          clear hYX hY hrw hr
          go_wp2
          go_ret2
          exact ⟨(two_ib HYX.out).trans (congrArg Ending.returned HR.out.symm), bw⟩
        · obtain ⟨j, rfl⟩ : ∃ j, k = j + 1 := ⟨k - 1, by omega⟩
          have ej : (((j + 1 : Nat) : Int) - 1) = (j : Int) := by omega
          rw [ej]
          clear ej
          obtain ⟨ad, u, rfl, _, hx, hc⟩ := hrw.at_ (show j < n by omega)
          obtain ⟨d, hd, rfl⟩ := vD_at hx
          have hd2 : d < 65536 := hok d (List.mem_of_getElem? hd)
          obtain ⟨hs1, hs2⟩ := right_step hd HX2.out
          rw [hY] at hs1
          have HY2 : Hid (dv (l.drop j) = d + 65536 * Y) := Lib.hid hs1
          have hY3 : d + 65536 * Y ≤ 9223372036854775808 := by rw [← hs1]; exact hs2
          clear hs1 hs2 hY hrw hr hx hd
          go_wp2
          go_round
          case rel => exact ⟨j, d + 65536 * Y, by go_num, val_int (by omega), by omega, HY2.out⟩
          case measure => simp [intOf]

    · rw [decide_eq_false hx] at L1
      clear L2
      have LL1 := Lib.hid L1; clear L1
      clear hX
      obtain ⟨Z, hZ⟩ : ∃ Z, numR (1 * (X : Int)) = Z := ⟨_, rfl⟩
      have h0 := numR_out (x := 1 * (X : Int)) (by unfold rngP; omega)
      rw [hZ] at h0 ⊢
      have HR := Lib.hid h0; clear h0 hZ
      go_enter Try.func39, Try.ntmps39
      go_wp2_with (go_at_call 55; (with_reducible refine (LL1.out _ (hr.up (by (with_reducible repeat (first | exact Below.refl _ _ | refine bdr ?_ _ | refine Below.drew ?_ | refine ball ?_ _)))) (reads_of_blk (t := 85) (cs := #[.int .u64 0, .int .u64 0, .int .u64 0, .int .u64 32768]) (by with_reducible repeat (first | exact Blk.newAt (by simp) | refine Blk.drew ?_ | refine Blk.drewN ?_ _ | refine Blk.alloc ?_ _)) (by simp [vD]) (by simp [vD]))).mono ?_); rintro e w3 ⟨rfl, hb3⟩; have hz3 := hb3.size; (try simp at hz3); have P3 : Blk w3 w.heap.size 73 #[.int .i64 1, .slice A n c] := blkOf hb3 (by (try simp) <;> omega) (by with_reducible repeat (first | exact Blk.newAt (by simp) | refine Blk.drew ?_ | refine Blk.drewN ?_ _ | refine Blk.alloc ?_ _)); have P3c0 : w3.cell? ⟨w.heap.size, 0, none⟩ = some (.int .i64 1) := P3.cell 0; have P3f0 := P3.frozen 0; have P3c1 : w3.cell? ⟨w.heap.size, 1, none⟩ = some (.slice A n c) := P3.cell 1; have P3f1 := P3.frozen 1; have R3 : Blk w3 (w.heap.size + 1) 85 #[.int .u64 0, .int .u64 0, .int .u64 0, .int .u64 32768] := blkOf hb3 (by (try simp) <;> omega) (by with_reducible repeat (first | exact Blk.newAt (by simp) | refine Blk.drew ?_ | refine Blk.drewN ?_ _ | refine Blk.alloc ?_ _)); have R3c0 : w3.cell? ⟨(w.heap.size + 1), 0, none⟩ = some (.int .u64 0) := R3.cell 0; have R3f0 := R3.frozen 0; have R3c1 : w3.cell? ⟨(w.heap.size + 1), 1, none⟩ = some (.int .u64 0) := R3.cell 1; have R3f1 := R3.frozen 1; have R3c2 : w3.cell? ⟨(w.heap.size + 1), 2, none⟩ = some (.int .u64 0) := R3.cell 2; have R3f2 := R3.frozen 2; have R3c3 : w3.cell? ⟨(w.heap.size + 1), 3, none⟩ = some (.int .u64 32768) := R3.cell 3; have R3f3 := R3.frozen 3; have T3 : Blk w3 (w.heap.size + 1 + 1) 73 #[.int .i64 1, .slice (some ⟨w.heap.size + 1, 0, none⟩) 4 4] := blkOf hb3 (by (try simp) <;> omega) (by with_reducible repeat (first | exact Blk.newAt (by simp) | refine Blk.drew ?_ | refine Blk.drewN ?_ _ | refine Blk.alloc ?_ _)); have T3c0 : w3.cell? ⟨(w.heap.size + 1 + 1), 0, none⟩ = some (.int .i64 1) := T3.cell 0; have T3f0 := T3.frozen 0; have T3c1 : w3.cell? ⟨(w.heap.size + 1 + 1), 1, none⟩ = some (.slice (some ⟨w.heap.size + 1, 0, none⟩) 4 4) := T3.cell 1; have T3f1 := T3.frozen 1)
      go_ret2
      exact ⟨congrArg Ending.returned HR.out.symm, by (with_reducible repeat (first | exact Below.refl _ _ | exact hb3 | refine bto0 ?_ hb3 | refine bdr ?_ _ | refine Below.drew ?_ | refine ball ?_ _))⟩

  · by_cases hx : X ≤ 9223372036854775808
    · rw [decide_eq_false (by omega)] at L2
      clear L1
      have LL2 := Lib.hid L2; clear L2
      have HX := Lib.hid hX; clear hX
      obtain ⟨Z, hZ⟩ : ∃ Z, numR ((-1) * (X : Int)) = Z := ⟨_, rfl⟩
      have h0 := numR_in (x := (-1) * (X : Int)) (by unfold rngP; omega)
      rw [hZ] at h0 ⊢
      have HR := Lib.hid h0; clear h0 hZ
      go_enter Try.func39, Try.ntmps39
      go_wp2_with (go_at_call 55; (with_reducible refine (LL2.out _ (hr.up (by (with_reducible repeat (first | exact Below.refl _ _ | refine bdr ?_ _ | refine Below.drew ?_ | refine ball ?_ _)))) (reads_of_blk (t := 85) (cs := #[.int .u64 0, .int .u64 0, .int .u64 0, .int .u64 32768]) (by with_reducible repeat (first | exact Blk.newAt (by simp) | refine Blk.drew ?_ | refine Blk.drewN ?_ _ | refine Blk.alloc ?_ _)) (by simp [vD]) (by simp [vD]))).mono ?_); rintro e w4 ⟨rfl, hb4⟩; have hz4 := hb4.size; (try simp at hz4); have P4 : Blk w4 w.heap.size 73 #[.int .i64 (-1), .slice A n c] := blkOf hb4 (by (try simp) <;> omega) (by with_reducible repeat (first | exact Blk.newAt (by simp) | refine Blk.drew ?_ | refine Blk.drewN ?_ _ | refine Blk.alloc ?_ _)); have P4c0 : w4.cell? ⟨w.heap.size, 0, none⟩ = some (.int .i64 (-1)) := P4.cell 0; have P4f0 := P4.frozen 0; have P4c1 : w4.cell? ⟨w.heap.size, 1, none⟩ = some (.slice A n c) := P4.cell 1; have P4f1 := P4.frozen 1; have R4 : Blk w4 (w.heap.size + 1) 85 #[.int .u64 0, .int .u64 0, .int .u64 0, .int .u64 32768] := blkOf hb4 (by (try simp) <;> omega) (by with_reducible repeat (first | exact Blk.newAt (by simp) | refine Blk.drew ?_ | refine Blk.drewN ?_ _ | refine Blk.alloc ?_ _)); have R4c0 : w4.cell? ⟨(w.heap.size + 1), 0, none⟩ = some (.int .u64 0) := R4.cell 0; have R4f0 := R4.frozen 0; have R4c1 : w4.cell? ⟨(w.heap.size + 1), 1, none⟩ = some (.int .u64 0) := R4.cell 1; have R4f1 := R4.frozen 1; have R4c2 : w4.cell? ⟨(w.heap.size + 1), 2, none⟩ = some (.int .u64 0) := R4.cell 2; have R4f2 := R4.frozen 2; have R4c3 : w4.cell? ⟨(w.heap.size + 1), 3, none⟩ = some (.int .u64 32768) := R4.cell 3; have R4f3 := R4.frozen 3; have T4 : Blk w4 (w.heap.size + 1 + 1) 73 #[.int .i64 1, .slice (some ⟨w.heap.size + 1, 0, none⟩) 4 4] := blkOf hb4 (by (try simp) <;> omega) (by with_reducible repeat (first | exact Blk.newAt (by simp) | refine Blk.drew ?_ | refine Blk.drewN ?_ _ | refine Blk.alloc ?_ _)); have T4c0 : w4.cell? ⟨(w.heap.size + 1 + 1), 0, none⟩ = some (.int .i64 1) := T4.cell 0; have T4f0 := T4.frozen 0; have T4c1 : w4.cell? ⟨(w.heap.size + 1 + 1), 1, none⟩ = some (.slice (some ⟨w.heap.size + 1, 0, none⟩) 4 4) := T4.cell 1; have T4f1 := T4.frozen 1)
      have bw : Below w.heap.size w w4 := by (with_reducible repeat (first | exact Below.refl _ _ | exact hb4 | refine bto0 ?_ hb4 | refine bdr ?_ _ | refine Below.drew ?_ | refine ball ?_ _))
      have hrw := hr.up bw
      have hX2 : dv l ≤ 9223372036854775808 := by rw [HX.out]; omega
      have HX2 := Lib.hid hX2; clear hX2
      go_loop [5, 6] (fun v5 v6 => ∃ (k Y : Nat), v6 = .int .i64 ((k : Int) - 1) ∧ v5 = .int .i64 (-(Y : Int)) ∧ k ≤ n ∧ dv (l.drop k) = Y) (fun _ v => (intOf v + 1).toNat)
      case atStart => exact ⟨n, 0, val_int (by omega), rfl, Nat.le_refl _, by rw [List.drop_eq_nil_of_le (by rw [Hl.out]; omega)]; rfl⟩
      case round =>
        obtain ⟨k, Y, rfl, rfl, hk, hY⟩ := hrel
        rcases Nat.eq_zero_or_pos k with rfl | hpos
        · have hYX : Y = X := by rw [← hY, List.drop_zero, HX.out]
          have HYX : Hid (-(Y : Int) = (-1) * (X : Int)) := Lib.hid (by omega)
          have hY2 : Y ≤ 9223372036854775808 := by omega
          clear hYX hY hrw hr
          go_wp2
          go_ret2
          exact ⟨(two_ib HYX.out).trans (congrArg Ending.returned HR.out.symm), bw⟩
        · obtain ⟨j, rfl⟩ : ∃ j, k = j + 1 := ⟨k - 1, by omega⟩
          have ej : (((j + 1 : Nat) : Int) - 1) = (j : Int) := by omega
          rw [ej]
          clear ej
          obtain ⟨ad, u, rfl, _, hx, hc⟩ := hrw.at_ (show j < n by omega)
          obtain ⟨d, hd, rfl⟩ := vD_at hx
          have hd2 : d < 65536 := hok d (List.mem_of_getElem? hd)
          obtain ⟨hs1, hs2⟩ := right_step hd HX2.out
          rw [hY] at hs1
          have HY2 : Hid (dv (l.drop j) = d + 65536 * Y) := Lib.hid hs1
          have hY3 : d + 65536 * Y ≤ 9223372036854775808 := by rw [← hs1]; exact hs2
          clear hs1 hs2 hY hrw hr hx hd
          go_wp2
          go_round
          case rel => exact ⟨j, d + 65536 * Y, by go_num, val_int (by omega), by omega, HY2.out⟩
          case measure => simp [intOf]

    · rw [decide_eq_true (by omega)] at L2
      clear L1
      have LL2 := Lib.hid L2; clear L2
      clear hX
      obtain ⟨Z, hZ⟩ : ∃ Z, numR ((-1) * (X : Int)) = Z := ⟨_, rfl⟩
      have h0 := numR_out (x := (-1) * (X : Int)) (by unfold rngP; omega)
      rw [hZ] at h0 ⊢
      have HR := Lib.hid h0; clear h0 hZ
      go_enter Try.func39, Try.ntmps39
      go_wp2_with (go_at_call 55; (with_reducible refine (LL2.out _ (hr.up (by (with_reducible repeat (first | exact Below.refl _ _ | refine bdr ?_ _ | refine Below.drew ?_ | refine ball ?_ _)))) (reads_of_blk (t := 85) (cs := #[.int .u64 0, .int .u64 0, .int .u64 0, .int .u64 32768]) (by with_reducible repeat (first | exact Blk.newAt (by simp) | refine Blk.drew ?_ | refine Blk.drewN ?_ _ | refine Blk.alloc ?_ _)) (by simp [vD]) (by simp [vD]))).mono ?_); rintro e w4 ⟨rfl, hb4⟩; have hz4 := hb4.size; (try simp at hz4); have P4 : Blk w4 w.heap.size 73 #[.int .i64 (-1), .slice A n c] := blkOf hb4 (by (try simp) <;> omega) (by with_reducible repeat (first | exact Blk.newAt (by simp) | refine Blk.drew ?_ | refine Blk.drewN ?_ _ | refine Blk.alloc ?_ _)); have P4c0 : w4.cell? ⟨w.heap.size, 0, none⟩ = some (.int .i64 (-1)) := P4.cell 0; have P4f0 := P4.frozen 0; have P4c1 : w4.cell? ⟨w.heap.size, 1, none⟩ = some (.slice A n c) := P4.cell 1; have P4f1 := P4.frozen 1; have R4 : Blk w4 (w.heap.size + 1) 85 #[.int .u64 0, .int .u64 0, .int .u64 0, .int .u64 32768] := blkOf hb4 (by (try simp) <;> omega) (by with_reducible repeat (first | exact Blk.newAt (by simp) | refine Blk.drew ?_ | refine Blk.drewN ?_ _ | refine Blk.alloc ?_ _)); have R4c0 : w4.cell? ⟨(w.heap.size + 1), 0, none⟩ = some (.int .u64 0) := R4.cell 0; have R4f0 := R4.frozen 0; have R4c1 : w4.cell? ⟨(w.heap.size + 1), 1, none⟩ = some (.int .u64 0) := R4.cell 1; have R4f1 := R4.frozen 1; have R4c2 : w4.cell? ⟨(w.heap.size + 1), 2, none⟩ = some (.int .u64 0) := R4.cell 2; have R4f2 := R4.frozen 2; have R4c3 : w4.cell? ⟨(w.heap.size + 1), 3, none⟩ = some (.int .u64 32768) := R4.cell 3; have R4f3 := R4.frozen 3; have T4 : Blk w4 (w.heap.size + 1 + 1) 73 #[.int .i64 1, .slice (some ⟨w.heap.size + 1, 0, none⟩) 4 4] := blkOf hb4 (by (try simp) <;> omega) (by with_reducible repeat (first | exact Blk.newAt (by simp) | refine Blk.drew ?_ | refine Blk.drewN ?_ _ | refine Blk.alloc ?_ _)); have T4c0 : w4.cell? ⟨(w.heap.size + 1 + 1), 0, none⟩ = some (.int .i64 1) := T4.cell 0; have T4f0 := T4.frozen 0; have T4c1 : w4.cell? ⟨(w.heap.size + 1 + 1), 1, none⟩ = some (.slice (some ⟨w.heap.size + 1, 0, none⟩) 4 4) := T4.cell 1; have T4f1 := T4.frozen 1)
      go_ret2
      exact ⟨congrArg Ending.returned HR.out.symm, by (with_reducible repeat (first | exact Below.refl _ _ | exact hb4 | refine bto0 ?_ hb4 | refine bdr ?_ _ | refine Below.drew ?_ | refine ball ?_ _))⟩
end
end Go.Proofs.Ytilopgfpifhccaa
/-
  Contracts of the reference's numbers: Times.
-/
namespace Go.Proofs.Ytilopgfpifhccaa
section
open Go.RowKit

theorem times_step {l : List Nat} {k a b c q : Nat} {O : List Nat} (hO : O.length = k) (h : dv O + 65536 ^ k * c = low l k * b) (ha : dg l k = a) (hq : a * b + c = q) :
    dv (O ++ [q % 65536]) + 65536 ^ (k + 1) * (q / 65536) = low l (k + 1) * b := by
  rw [dv_app, hO, low_succ, ha, Nat.pow_succ, Nat.add_mul, ← h]
  have e : dv [q % 65536] = q % 65536 := by simp [dv]
  rw [e]
  have hm := Nat.div_add_mod q 65536
  generalize 65536 ^ k = P
  have h1 : P * (q % 65536) + P * 65536 * (q / 65536) = P * q := by rw [Nat.mul_assoc, ← Nat.mul_add]; congr 1; omega
  have h2 : P * a * b = P * (a * b) := Nat.mul_assoc _ _ _
  have h3 : P * q = P * (a * b) + P * c := by rw [← hq, Nat.mul_add]
  omega
theorem dv_zeros (i : Nat) (O : List Nat) : dv (List.replicate i 0 ++ O) = 65536 ^ i * dv O := by
  rw [dv_app, List.length_replicate]
  have : dv (List.replicate i 0) = 0 := by
    induction i with
    | zero => rfl
    | succ i ih => rw [List.replicate_succ]; simp [dv, ih]
  omega
theorem dok_zeros (i : Nat) {O : List Nat} (h : dok O) : dok (List.replicate i 0 ++ O) := by
  intro x hx
  rcases List.mem_append.1 hx with hx | hx
  · have := List.eq_of_mem_replicate hx; omega
  · exact h x hx
theorem prod_lt {a b : Nat} (ha : a < 65536) (hb : b < 65536) : a * b ≤ 4294836225 := by
  have := Nat.mul_le_mul (show a ≤ 65535 by omega) (show b ≤ 65535 by omega)
  omega
theorem vD_rep (k : Nat) : vD (List.replicate (k + 1) 0) = vD (List.replicate k 0) ++ [Value.int .u64 0] := by
  rw [List.replicate_succ', vD, List.map_append]; rfl
theorem vD_snoc (O : List Nat) (d : Nat) : vD (O ++ [d]) = vD O ++ [Value.int .u64 (d : Int)] := by simp [vD]

/-- What holds at the head of each round over the second number's digits. -/
def TRel (w : World) (ob : Nat) (sa sb : Int) (A1 : Option Addr) (n1 c1 : Nat) (l1 : List Nat) (A2 : Option Addr) (n2 c2 : Nat) (l2 : List Nat) (v : Value) (wr : World) : Prop :=
  ∃ (i : Nat) (Ao : Option Addr) (no co : Nat) (lo : List Nat), v = .int .i64 i ∧ i ≤ n2 ∧ Below w.heap.size w wr ∧ w.heap.size + 1 + 1 < ob ∧ Blk wr w.heap.size 73 #[.int .i64 sa, .slice A1 n1 c1] ∧ Blk wr (w.heap.size + 1) 73 #[.int .i64 sb, .slice A2 n2 c2] ∧
    Blk wr (w.heap.size + 1 + 1) 73 #[.int .i64 0, .slice none 0 0] ∧ Blk wr ob 73 #[.int .i64 1, .slice Ao no co] ∧ Reads wr wr.heap.size 1 Ao no (vD lo) ∧ dok lo ∧ no ≤ n1 + i + 4 ∧ no ≤ co ∧ lo.length = no ∧ dv lo = dv l1 * low l2 i

set_option maxHeartbeats 4000000 in
theorem times_any (sa sb : Int) (hsa : sa = 1 ∨ sa = -1) (hsb : sb = 1 ∨ sb = -1) (A1 : Option Addr) (n1 c1 : Nat) (l1 : List Nat) (A2 : Option Addr) (n2 c2 : Nat) (l2 : List Nat) (w : World)
    (hr1 : Reads w w.heap.size 1 A1 n1 (vD l1)) (hr2 : Reads w w.heap.size 1 A2 n2 (vD l2)) (hok1 : dok l1) (hok2 : dok l2) (hn1 : n1 ≤ 100) (hn2 : n2 ≤ 100) :
    Calls Try.prog 59 #[.agg #[.int .i64 sa, .slice A1 n1 c1], .agg #[.int .i64 sb, .slice A2 n2 c2]] w (RetS w (sa * (dv l1 : Nat) * (sb * (dv l2 : Nat))) (n1 + n2 + 4)) := by
  obtain ⟨i0, hi0, hz0, hz1, hz2⟩ := int_info8 Try.infoU64
  have hl1 : l1.length = n1 := by have := hr1.1; rw [vD_len] at this; omega
  have hl2 : l2.length = n2 := by have := hr2.1; rw [vD_len] at this; omega
  have Hl1 := Lib.hid hl1; clear hl1
  have Hl2 := Lib.hid hl2; clear hl2
  obtain ⟨sg, hsg⟩ : ∃ sg, sa * sb = sg := ⟨_, rfl⟩
  have hsg2 : sg = 1 ∨ sg = -1 := by rcases hsa with rfl | rfl <;> rcases hsb with rfl | rfl <;> omega
  have Hsg2 := Lib.hid hsg2
  have hsg3 : -1 ≤ sg ∧ sg ≤ 1 := by omega
  obtain ⟨hsg4, hsg5⟩ := hsg3
  have HE : Hid (sg * ((dv l1 * dv l2 : Nat) : Int) = sa * (dv l1 : Nat) * (sb * (dv l2 : Nat))) := Lib.hid (by rw [← hsg, Int.natCast_mul, Int.mul_assoc, Int.mul_assoc, Int.mul_left_comm sb])
  have hWh := fun W => whole_any 0 (by omega) W
  have HWh := Lib.hid hWh; clear hWh hsg2 hsa hsb
  obtain ⟨Z, hZ⟩ : ∃ Z, sa * ((dv l1 : Nat) : Int) * (sb * ((dv l2 : Nat) : Int)) = Z := ⟨_, rfl⟩
  rw [hZ] at HE ⊢
  clear hZ
  have Hsg := Lib.hid hsg; clear hsg
  go_enter Try.func59, Try.ntmps59
  go_wp2_with (go_at_call 56; refine (HWh.out _).mono ?_; rintro e w3 ⟨v3, rfl, ⟨A3, n3, c3, l3, rfl, hr3, hnc3, hnm3, hok3, hdv3, hl3⟩, hb3⟩; have Hdv3 := Lib.hid hdv3; clear hdv3; have Hl3 := Lib.hid hl3; clear hl3; have hz3 := hb3.size; (try simp at hz3); have lt3_0 : w.heap.size < w3.heap.size := (by omega); have lt3_1 : w.heap.size + 1 < w3.heap.size := (by omega); have lt3_2 : w.heap.size + 1 + 1 < w3.heap.size := (by omega); have P3 : Blk w3 w.heap.size 73 #[.int .i64 sa, .slice A1 n1 c1] := blkOf hb3 (by (try simp) <;> omega) (by with_reducible repeat (first |  exact Blk.newAt (by simp) | refine Blk.drew ?_ | refine Blk.drewN ?_ _ | refine Blk.alloc ?_ _)); have P3c0 : w3.cell? ⟨w.heap.size, 0, none⟩ = some (.int .i64 sa) := P3.cell 0; have P3f0 := P3.frozen 0; have P3c1 : w3.cell? ⟨w.heap.size, 1, none⟩ = some (.slice A1 n1 c1) := P3.cell 1; have P3f1 := P3.frozen 1; have Q3 : Blk w3 (w.heap.size + 1) 73 #[.int .i64 sb, .slice A2 n2 c2] := blkOf hb3 (by (try simp) <;> omega) (by with_reducible repeat (first |  exact Blk.newAt (by simp) | refine Blk.drew ?_ | refine Blk.drewN ?_ _ | refine Blk.alloc ?_ _)); have Q3c0 : w3.cell? ⟨(w.heap.size + 1), 0, none⟩ = some (.int .i64 sb) := Q3.cell 0; have Q3f0 := Q3.frozen 0; have Q3c1 : w3.cell? ⟨(w.heap.size + 1), 1, none⟩ = some (.slice A2 n2 c2) := Q3.cell 1; have Q3f1 := Q3.frozen 1; have R3 : Blk w3 (w.heap.size + 1 + 1) 73 #[.int .i64 0, .slice none 0 0] := blkOf hb3 (by (try simp) <;> omega) (by with_reducible repeat (first |  exact Blk.newAt (by simp) | refine Blk.drew ?_ | refine Blk.drewN ?_ _ | refine Blk.alloc ?_ _)); have R3c0 : w3.cell? ⟨(w.heap.size + 1 + 1), 0, none⟩ = some (.int .i64 0) := R3.cell 0; have R3f0 := R3.frozen 0; have R3c1 : w3.cell? ⟨(w.heap.size + 1 + 1), 1, none⟩ = some (.slice none 0 0) := R3.cell 1; have R3f1 := R3.frozen 1)
  go_loopw [16] (fun v16 wr => TRel w w3.heap.size sa sb A1 n1 c1 l1 A2 n2 c2 l2 v16 wr) (fun v16 _ => n2 - (intOf v16).toNat)
  case atStart =>
    refine ⟨0, A3, n3, c3, l3, rfl, by omega, ball (by (with_reducible repeat (first | exact Below.refl _ _ | exact hb3 | refine bto0 ?_ hb3 | refine bdr ?_ _ | refine Below.drew ?_ | refine ball ?_ _))) _, by omega, P3.alloc _, Q3.alloc _, R3.alloc _, Blk.new _ _ _, hr3.al _, hok3, by omega, hnc3, Hl3.out, ?_⟩
    rw [Hdv3.out, low_zero, Nat.mul_zero]
  case round =>
    obtain ⟨i, Ao, no, co, lo, rfl, hi, hbw, hob, P, Q, R, O, hro, hoko, hno, hnco, hlo, hdvo⟩ := hrel
    obtain ⟨ob, hobe⟩ : ∃ ob, w3.heap.size = ob := ⟨_, rfl⟩
    rw [hobe] at hob O ⊢
    clear hobe Hdv3 Hl3 hr3 P3 Q3 R3 hb3 P3c0 P3c1 P3f0 P3f1 Q3c0 Q3c1 Q3f0 Q3f1 R3c0 R3c1 R3f0 R3f1 lt3_0 lt3_1 lt3_2 hz3 hnm3 hnc3 hok3
    obtain ⟨wo, rfl⟩ : ∃ wo : World, wo = wr := ⟨_, rfl⟩
    by_cases hin : i < n2
    · obtain ⟨b, hb⟩ : ∃ b, dg l2 i = b := ⟨_, rfl⟩
      have hbl := dg_lt hok2 i
      have hls := low_succ l2 i
      rw [hb] at hbl hls
      have Hls := Lib.hid hls; clear hls
      have Hlo := Lib.hid hlo; clear hlo
      have Hdvo := Lib.hid hdvo; clear hdvo
      have Hb := Lib.hid hb; clear hb
      have H1 : ∀ u ∈ [Value.int .u64 0], u.oneCell' = true := by simp [Value.oneCell']
      go_wp2
      go_loopw [7, 8] (fun v7 v8 wr => ∃ k : Nat, v8 = .int .i64 k ∧ k ≤ i ∧ wr.ownsRow wo.heap.size 85 1 v7 k (vD (List.replicate k 0)) ∧ Below wo.heap.size wo wr) (fun _ v8 _ => i - (intOf v8).toNat)
      case atStart =>
        exact ⟨0, rfl, by omega, own_empty wo 85 1 rfl, ball (Below.refl _ _) _⟩
      case round =>
        obtain ⟨k, rfl, hk, hown, hbr⟩ := hrel
        have zr := hbr.size
        by_cases hki : k < i
        · go_wp2_with (at_builtin; refine wpList_push rfl _ _ 71 rfl wo.heap.size 85 i0 (.int .u64 0) 1 8 Try.underlying71 hi0 hz0 hz1 hz2 rfl (by decide) u7 k _ rfl hown rfl rfl rfl H1 (by omega) (by omega) zr ?_; intro v1 w1 hown1 hb1)
          go_roundw
          case rel => exact ⟨k + 1, by go_num, by omega, by rw [vD_rep]; exact hown1, hb1 _ _ (Nat.le_refl _) hbr⟩
          case measure => simp [intOf]; omega
        · obtain rfl : i = k := by omega
          have Pk := P.below hbr P.lt; have Qk := Q.below hbr Q.lt; have Rk := R.below hbr R.lt; have Ok := O.below hbr O.lt; have Pkc0 : wr.cell? ⟨w.heap.size, 0, none⟩ = some (.int .i64 sa) := Pk.cell 0; have Pkf0 := Pk.frozen 0; have Pkc1 : wr.cell? ⟨w.heap.size, 1, none⟩ = some (.slice A1 n1 c1) := Pk.cell 1; have Pkf1 := Pk.frozen 1; have Qkc0 : wr.cell? ⟨(w.heap.size + 1), 0, none⟩ = some (.int .i64 sb) := Qk.cell 0; have Qkf0 := Qk.frozen 0; have Qkc1 : wr.cell? ⟨(w.heap.size + 1), 1, none⟩ = some (.slice A2 n2 c2) := Qk.cell 1; have Qkf1 := Qk.frozen 1; have Okc0 : wr.cell? ⟨ob, 0, none⟩ = some (.int .i64 1) := Ok.cell 0; have Okf0 := Ok.frozen 0; have Okc1 : wr.cell? ⟨ob, 1, none⟩ = some (.slice Ao no co) := Ok.cell 1; have Okf1 := Ok.frozen 1
          obtain ⟨A7, c7, hv7, hc7⟩ := own_form hown
          go_wp2
          go_loopw [7, 9, 31] (fun v7 v9 v31 wx => ∃ (k c : Nat) (D : List Nat), v31 = .int .i64 k ∧ v9 = .int .u64 c ∧ k ≤ n1 ∧ c < 65536 ∧ D.length = k ∧ dok D ∧ dv D + 65536 ^ k * c = low l1 k * b ∧ wx.ownsRow wo.heap.size 85 1 v7 (i + k) (vD (List.replicate i 0 ++ D)) ∧ Below wo.heap.size wo wx) (fun _ _ v31 _ => n1 - (intOf v31).toNat)
          case atStart => exact ⟨0, 0, [], rfl, rfl, by omega, by omega, rfl, by intro x hx; simp at hx, by simp [dv, low_zero], by simpa using hown, hbr⟩
          case round =>
            clear Pkc0 Pkc1 Pkf0 Pkf1 Qkc0 Qkc1 Qkf0 Qkf1 Okc0 Okc1 Okf0 Okf1 Pk Qk Rk Ok hown hbr hc7 hv7 zr
            obtain ⟨k, c, D, rfl, rfl, hk, hc, hO, hdO, hv, hown, hbx⟩ := hrel
            have zx := hbx.size
            have Px := P.below hbx P.lt; have Qx := Q.below hbx Q.lt; have Rx := R.below hbx R.lt; have Ox := O.below hbx O.lt; have Pxc0 : wr.cell? ⟨w.heap.size, 0, none⟩ = some (.int .i64 sa) := Px.cell 0; have Pxf0 := Px.frozen 0; have Pxc1 : wr.cell? ⟨w.heap.size, 1, none⟩ = some (.slice A1 n1 c1) := Px.cell 1; have Pxf1 := Px.frozen 1; have Qxc0 : wr.cell? ⟨(w.heap.size + 1), 0, none⟩ = some (.int .i64 sb) := Qx.cell 0; have Qxf0 := Qx.frozen 0; have Qxc1 : wr.cell? ⟨(w.heap.size + 1), 1, none⟩ = some (.slice A2 n2 c2) := Qx.cell 1; have Qxf1 := Qx.frozen 1; have Oxc0 : wr.cell? ⟨ob, 0, none⟩ = some (.int .i64 1) := Ox.cell 0; have Oxf0 := Ox.frozen 0; have Oxc1 : wr.cell? ⟨ob, 1, none⟩ = some (.slice Ao no co) := Ox.cell 1; have Oxf1 := Ox.frozen 1
            by_cases hkn : k < n1
            · obtain ⟨a, ha⟩ : ∃ a, dg l1 k = a := ⟨_, rfl⟩
              have hal := dg_lt hok1 k
              rw [ha] at hal
              have hpl := prod_lt hal hbl
              obtain ⟨q, hq⟩ : ∃ q, a * b + c = q := ⟨_, rfl⟩
              have hst := times_step hO hv ha hq
              have Hst := Lib.hid hst; clear hst
              have Hdn := Lib.hid (dok_snoc hdO (Nat.mod_lt q (by omega : 0 < 65536)))
              obtain ⟨ad1, u1, rfl, _, hx1, hc1⟩ := (hr1.below (bto0 hbw hbx)).at_ hkn
              obtain ⟨d1, hd1, rfl⟩ := vD_at hx1
              obtain ⟨ad2, u2, rfl, _, hx2, hc2⟩ := (hr2.below (bto0 hbw hbx)).at_ hin
              obtain ⟨d2, hd2, rfl⟩ := vD_at hx2
              have e1 : d1 = a := by rw [← ha]; unfold dg; rw [hd1]; rfl
              have e2 : d2 = b := by rw [← Hb.out]; unfold dg; rw [hd2]; rfl
              subst e1
              subst e2
              have p0 : (d1 : Int) * (d2 : Int) = ((d1 * d2 : Nat) : Int) := (Int.natCast_mul _ _).symm
              obtain ⟨pr, hpr⟩ : ∃ pr, d1 * d2 = pr := ⟨_, rfl⟩
              rw [hpr] at p0 hpl hq
              have p1 : (pr : Int) + (c : Int) = (q : Int) := by omega
              have hq2 : q ≤ 4294901760 := by omega
              have H2 : ∀ u ∈ [Value.int .u64 ((q : Int) % 65536)], u.oneCell' = true := by simp [Value.oneCell']
              have g1 : (0 : Int) ≤ (k : Int) := by omega
              have g2 : (k : Int) < (n1 : Int) := by omega
              have g3 : (0 : Int) ≤ (i : Int) := by omega
              have g4 : (i : Int) < (n2 : Int) := by omega
              have Hv := Lib.hid hv; clear hv
              have HO := Lib.hid hO; clear hO
              clear hq hpr ha hx1 hx2 hd1 hd2
              go_wp2_with fail
              go_quiet (fail)
              go_wp2_with (at_builtin; refine wpList_push rfl _ _ 71 rfl wo.heap.size 85 i0 (.int .u64 0) 1 8 Try.underlying71 hi0 hz0 hz1 hz2 rfl (by decide) u7 (i + k) _ rfl hown rfl rfl rfl H2 (by omega) (by omega) zx ?_; intro v1 w1 hown1 hb1)
              go_roundw
              case rel =>
                refine ⟨k + 1, q / 65536, D ++ [q % 65536], by go_num, val_int (by omega), by omega, by omega, by rw [List.length_append, HO.out]; rfl, Hdn.out, Hst.out, ?_, hb1 _ _ (Nat.le_refl _) (bdr hbx _)⟩
                rw [← List.append_assoc, vD_snoc]
                exact hown1
              case measure => simp [intOf]; omega
            · obtain rfl : n1 = k := by omega
              have hz : dok (List.replicate i 0 ++ D ++ [c]) := dok_snoc (dok_zeros i hdO) hc
              have hlz : (List.replicate i 0 ++ D ++ [c]).length = i + n1 + 1 := by rw [List.length_append, List.length_append, List.length_replicate, hO]; rfl
              have hvz : dv (List.replicate i 0 ++ D ++ [c]) = 65536 ^ i * (dv l1 * b) := by
                rw [List.append_assoc, dv_zeros, dv_app, hO]
                have : dv [c] = c := by simp [dv]
                rw [this, hv, low_all (by rw [Hl1.out]; omega)]
              have Hvz := Lib.hid hvz; clear hvz
              have Hlz := Lib.hid hlz; clear hlz
              have Hv := Lib.hid hv; clear hv
              have HO := Lib.hid hO; clear hO
              go_wp2_with (first
                | (at_builtin; refine wpList_push rfl _ _ 71 rfl wo.heap.size 85 i0 (.int .u64 0) 1 8 Try.underlying71 hi0 hz0 hz1 hz2 rfl (by decide) u7 (i + n1) _ rfl hown rfl rfl rfl (by simp [Value.oneCell']) (by omega) (by omega) zx ?_; intro v1 w1 hown1 hb1; rw [← vD_snoc] at hown1; obtain ⟨A7, c7, hv7, hc7⟩ := own_form hown1; subst hv7; have hbx1 := hb1 _ _ (Nat.le_refl _) hbx; have hr7 := Reads.of_own hown1; have Py := P.below hbx1 P.lt; have Qy := Q.below hbx1 Q.lt; have Ry := R.below hbx1 R.lt; have Oy := O.below hbx1 O.lt; have Pyc0 : w1.cell? ⟨w.heap.size, 0, none⟩ = some (.int .i64 sa) := Py.cell 0; have Pyf0 := Py.frozen 0; have Pyc1 : w1.cell? ⟨w.heap.size, 1, none⟩ = some (.slice A1 n1 c1) := Py.cell 1; have Pyf1 := Py.frozen 1; have Qyc0 : w1.cell? ⟨(w.heap.size + 1), 0, none⟩ = some (.int .i64 sb) := Qy.cell 0; have Qyf0 := Qy.frozen 0; have Qyc1 : w1.cell? ⟨(w.heap.size + 1), 1, none⟩ = some (.slice A2 n2 c2) := Qy.cell 1; have Qyf1 := Qy.frozen 1; have Oyc0 : w1.cell? ⟨ob, 0, none⟩ = some (.int .i64 1) := Oy.cell 0; have Oyf0 := Oy.frozen 0; have Oyc1 : w1.cell? ⟨ob, 1, none⟩ = some (.slice Ao no co) := Oy.cell 1; have Oyf1 := Oy.frozen 1)
                | (go_at_call 57; refine (size_any 1 1 Ao no co lo A7 (i + n1 + 1) c7 (List.replicate i 0 ++ D ++ [c]) _ (hro.up (by (with_reducible repeat (first | exact Below.refl _ _ | exact hbx1 | refine bto0 ?_ hbx1 | refine bdr ?_ _ | refine Below.drew ?_ | refine ball ?_ _)))) hr7 hoko hz (by omega) (by omega) hnco hc7).mono ?_; rintro e w5 ⟨v5, rfl, ⟨A5, n5, c5, l5, rfl, hr5, hnc5, hnm5, hok5, hdv5, hl5⟩, hb5⟩; have Hdv5 := Lib.hid hdv5; clear hdv5; have Hl5 := Lib.hid hl5; clear hl5; have hz5 := hb5.size; (try simp at hz5); have P5 : Blk w5 w.heap.size 73 #[.int .i64 sa, .slice A1 n1 c1] := Py.below hb5 Py.lt; have P5c0 : w5.cell? ⟨w.heap.size, 0, none⟩ = some (.int .i64 sa) := P5.cell 0; have P5f0 := P5.frozen 0; have P5c1 : w5.cell? ⟨w.heap.size, 1, none⟩ = some (.slice A1 n1 c1) := P5.cell 1; have P5f1 := P5.frozen 1; have Q5 : Blk w5 (w.heap.size + 1) 73 #[.int .i64 sb, .slice A2 n2 c2] := Qy.below hb5 Qy.lt; have Q5c0 : w5.cell? ⟨(w.heap.size + 1), 0, none⟩ = some (.int .i64 sb) := Q5.cell 0; have Q5f0 := Q5.frozen 0; have Q5c1 : w5.cell? ⟨(w.heap.size + 1), 1, none⟩ = some (.slice A2 n2 c2) := Q5.cell 1; have Q5f1 := Q5.frozen 1; have R5 : Blk w5 (w.heap.size + 1 + 1) 73 #[.int .i64 0, .slice none 0 0] := Ry.below hb5 Ry.lt; have R5c0 : w5.cell? ⟨(w.heap.size + 1 + 1), 0, none⟩ = some (.int .i64 0) := R5.cell 0; have R5f0 := R5.frozen 0; have R5c1 : w5.cell? ⟨(w.heap.size + 1 + 1), 1, none⟩ = some (.slice none 0 0) := R5.cell 1; have R5f1 := R5.frozen 1; have O5 : Blk w5 ob 73 #[.int .i64 1, .slice Ao no co] := Oy.below hb5 Oy.lt; have O5c0 : w5.cell? ⟨ob, 0, none⟩ = some (.int .i64 1) := O5.cell 0; have O5f0 := O5.frozen 0; have O5c1 : w5.cell? ⟨ob, 1, none⟩ = some (.slice Ao no co) := O5.cell 1; have O5f1 := O5.frozen 1))
              have f5 := hr5.offN O5
              have bz : Below w.heap.size w w5 := by (with_reducible repeat (first | exact Below.refl _ _ | exact hb5 | exact hbx1 | exact hbw | refine bto0 ?_ hb5 | refine bto0 ?_ hbx1 | refine bto0 ?_ hbw | refine bdr ?_ _ | refine Below.drew ?_ | refine ball ?_ _))
              go_roundw
              case rel =>
                refine ⟨i + 1, A5, n5, c5, l5, by go_num, by omega, bset (bset bz (by dsimp only; omega) _) (by dsimp only; omega) _, hob, (P5.far (by dsimp only; omega) _).far (by dsimp only; omega) _, (Q5.far (by dsimp only; omega) _).far (by dsimp only; omega) _, (R5.far (by dsimp only; omega) _).far (by dsimp only; omega) _, (O5.set_ 0 _).set_ 1 _, (hr5.sf f5 _).sf f5 _, hok5, by omega, hnc5, Hl5.out, ?_⟩
                rw [Hdv5.out, Hvz.out, Hdvo.out, Hls.out, Nat.mul_add, Nat.mul_left_comm (dv l1)]
              case measure => simp [intOf]; omega
    · obtain rfl : n2 = i := by omega
      have Hlo := Lib.hid hlo; clear hlo
      have hfin : dv lo = dv l1 * dv l2 := by rw [hdvo, low_all (by rw [Hl2.out]; omega)]
      have Hfin := Lib.hid hfin; clear hdvo hfin
      have f5 := hro.offN O
      have f6 := hro.offN R
      have hs2 : sa * sb = sg := Hsg.out
      have Pc0 : wo.cell? ⟨w.heap.size, 0, none⟩ = some (.int .i64 sa) := P.cell 0; have Pf0 := P.frozen 0; have Pc1 : wo.cell? ⟨w.heap.size, 1, none⟩ = some (.slice A1 n1 c1) := P.cell 1; have Pf1 := P.frozen 1; have Qc0 : wo.cell? ⟨(w.heap.size + 1), 0, none⟩ = some (.int .i64 sb) := Q.cell 0; have Qf0 := Q.frozen 0; have Qc1 : wo.cell? ⟨(w.heap.size + 1), 1, none⟩ = some (.slice A2 n2 c2) := Q.cell 1; have Qf1 := Q.frozen 1; have Rc0 : wo.cell? ⟨(w.heap.size + 1 + 1), 0, none⟩ = some (.int .i64 0) := R.cell 0; have Rf0 := R.frozen 0; have Rc1 : wo.cell? ⟨(w.heap.size + 1 + 1), 1, none⟩ = some (.slice none 0 0) := R.cell 1; have Rf1 := R.frozen 1; have Oc0 : wo.cell? ⟨ob, 0, none⟩ = some (.int .i64 1) := O.cell 0; have Of0 := O.frozen 0; have Oc1 : wo.cell? ⟨ob, 1, none⟩ = some (.slice Ao no co) := O.cell 1; have Of1 := O.frozen 1
      go_wp2
      refine bodyPost_ret (v := .agg #[.int .i64 sg, .slice Ao no co]) (by simp [results, Try.results59, go_sem, Rc0, Rc1]) rfl ⟨_, sg, dv l1 * dv l2, rfl, Hsg2.out, HE.out, ⟨Ao, no, co, lo, rfl, (by repeat (first | exact hro | refine Reads.al ?_ _ | refine Reads.sf ?_ (by first | exact f5 | exact f6) _)), hnco, by omega, hoko, Hfin.out, Hlo.out⟩, (by
        repeat (first | exact hbw | refine ball ?_ _ | refine bset ?_ (by dsimp only <;> omega) _))⟩
end
end Go.Proofs.Ytilopgfpifhccaa
