
/-
  Contracts of the reference's numbers: Right.
-/
import Derived.Test.YthpggfcindnlcaaGreatDoorNe
import Derived.Test.YthpggfcindnlcaaGreatDoorCa
set_option linter.unusedSimpArgs false
set_option linter.unusedVariables false
namespace Go.Proofs.YthpggfcindnlcaaGreatDoor
open Go.RowKit

theorem reads_of_blk {w : World} {g : Nat} {t : TypeId} {cs : Array Value} {size n : Nat} {xs : List Value} (h : Blk w g t cs) (hx : xs = cs.toList) (hn : xs.length = n * size) : Reads w w.heap.size size (some ⟨g, 0, none⟩) n xs := by
  subst hx
  refine ⟨hn, fun _ => ⟨_, rfl, h.lt, fun j u hu => ?_⟩⟩
  rw [add_head, h.cell]
  simpa using hu
theorem two_ib {k : IntKind} {a b : Int} {c : Bool} (h : a = b) : Ending.returned (.tuple #[.int k a, .bool c]) = .returned (.tuple #[.int k b, .bool c]) := by rw [h]
theorem top_dv : dv [0, 0, 0, 32768] = 9223372036854775808 := by simp [dv]
theorem right_step {l : List Nat} {j : Nat} {d : Nat} (h : l[j]? = some d) (hx : dv l ≤ 9223372036854775808) : dv (l.drop j) = d + 65536 * dv (l.drop (j + 1)) ∧ dv (l.drop j) ≤ 9223372036854775808 := by
  refine ⟨dv_drop h, ?_⟩
  have h1 := dv_split l j
  have h2 : 1 * dv (l.drop j) ≤ 65536 ^ j * dv (l.drop j) := Nat.mul_le_mul_right _ (Nat.one_le_pow _ _ (by omega))
  omega

set_option maxRecDepth 100000 in
set_option maxHeartbeats 2000000 in
theorem right_any (sg : Int) (hsg : sg = 1 ∨ sg = -1) (A : Option Addr) (n c : Nat) (l : List Nat) (w : World) (hr : Reads w w.heap.size 1 A n (vD l)) (hok : dok l) (hn : n ≤ 10000) (hnc : n ≤ c) :
    Calls Tryz.prog 20 #[.agg #[.int .i64 sg, .slice A n c]] w (RetB w (numR (sg * (dv l : Nat)))) := by
  have hl : l.length = n := by have := hr.1; rw [vD_len] at this; omega
  have Hl := Lib.hid hl; clear hl
  have ht : dok [0, 0, 0, 32768] := by intro x hx; simp at hx; omega
  have L1 := fun W h1 h2 => rless_n sg 1 A n c l (some ⟨w.heap.size + 1, 0, none⟩) 4 4 [0, 0, 0, 32768] W h1 h2 hok ht hn (by omega)
  have L2 := fun W h1 h2 => rless_n 1 sg (some ⟨w.heap.size + 1, 0, none⟩) 4 4 [0, 0, 0, 32768] A n c l W h2 h1 ht hok (by omega) hn
  rw [top_dv] at L1 L2
  obtain ⟨X, hX⟩ : ∃ X, dv l = X := ⟨_, rfl⟩
  rw [hX] at L1 L2 ⊢
  rcases hsg with rfl | rfl
  · by_cases hx : X < 9223372036854775808
    · rw [decide_eq_true hx] at L1
      rw [decide_eq_false (by omega)] at L2
      have LL1 := Lib.hid L1; clear L1
      have LL2 := Lib.hid L2; clear L2
      have HX := Lib.hid hX; clear hX
      obtain ⟨Z, hZ⟩ : ∃ Z, numR (1 * (X : Int)) = Z := ⟨_, rfl⟩
      have h0 := numR_in (x := 1 * (X : Int)) (by unfold rngP; omega)
      rw [hZ] at h0 ⊢
      have HR := Lib.hid h0; clear h0 hZ
      go_enter Tryz.func20, Tryz.ntmps20
      go_wp2_with (go_at_call 37; first | ((with_reducible refine (LL1.out _ (hr.up (by (with_reducible repeat (first | exact Below.refl _ _ | refine bdr ?_ _ | refine Below.drew ?_ | refine ball ?_ _)))) (reads_of_blk (t := 54) (cs := #[.int .u64 0, .int .u64 0, .int .u64 0, .int .u64 32768]) (by with_reducible repeat (first | exact Blk.newAt (by simp) | refine Blk.drew ?_ | refine Blk.drewN ?_ _ | refine Blk.alloc ?_ _)) (by simp [vD]) (by simp [vD]))).mono ?_); rintro e w3 ⟨rfl, hb3⟩; have hz3 := hb3.size; (try simp at hz3); have P3 : Blk w3 w.heap.size 52 #[.int .i64 1, .slice A n c] := blkOf hb3 (by (try simp) <;> omega) (by with_reducible repeat (first | exact Blk.newAt (by simp) | refine Blk.drew ?_ | refine Blk.drewN ?_ _ | refine Blk.alloc ?_ _)); have P3c0 : w3.cell? ⟨w.heap.size, 0, none⟩ = some (.int .i64 1) := P3.cell 0; have P3f0 := P3.frozen 0; have P3c1 : w3.cell? ⟨w.heap.size, 1, none⟩ = some (.slice A n c) := P3.cell 1; have P3f1 := P3.frozen 1; have R3 : Blk w3 (w.heap.size + 1) 54 #[.int .u64 0, .int .u64 0, .int .u64 0, .int .u64 32768] := blkOf hb3 (by (try simp) <;> omega) (by with_reducible repeat (first | exact Blk.newAt (by simp) | refine Blk.drew ?_ | refine Blk.drewN ?_ _ | refine Blk.alloc ?_ _)); have R3c0 : w3.cell? ⟨(w.heap.size + 1), 0, none⟩ = some (.int .u64 0) := R3.cell 0; have R3f0 := R3.frozen 0; have R3c1 : w3.cell? ⟨(w.heap.size + 1), 1, none⟩ = some (.int .u64 0) := R3.cell 1; have R3f1 := R3.frozen 1; have R3c2 : w3.cell? ⟨(w.heap.size + 1), 2, none⟩ = some (.int .u64 0) := R3.cell 2; have R3f2 := R3.frozen 2; have R3c3 : w3.cell? ⟨(w.heap.size + 1), 3, none⟩ = some (.int .u64 32768) := R3.cell 3; have R3f3 := R3.frozen 3; have T3 : Blk w3 (w.heap.size + 1 + 1) 52 #[.int .i64 1, .slice (some ⟨w.heap.size + 1, 0, none⟩) 4 4] := blkOf hb3 (by (try simp) <;> omega) (by with_reducible repeat (first | exact Blk.newAt (by simp) | refine Blk.drew ?_ | refine Blk.drewN ?_ _ | refine Blk.alloc ?_ _)); have T3c0 : w3.cell? ⟨(w.heap.size + 1 + 1), 0, none⟩ = some (.int .i64 1) := T3.cell 0; have T3f0 := T3.frozen 0; have T3c1 : w3.cell? ⟨(w.heap.size + 1 + 1), 1, none⟩ = some (.slice (some ⟨w.heap.size + 1, 0, none⟩) 4 4) := T3.cell 1; have T3f1 := T3.frozen 1) | ((with_reducible refine (LL2.out _ (hr.up (by (with_reducible repeat (first | exact Below.refl _ _ | exact hb3 | refine bto0 ?_ hb3 | refine bdr ?_ _ | refine Below.drew ?_ | refine ball ?_ _)))) (reads_of_blk (t := 54) (cs := #[.int .u64 0, .int .u64 0, .int .u64 0, .int .u64 32768]) (by with_reducible repeat (first | exact R3 | exact Blk.newAt (by simp) | refine Blk.drew ?_ | refine Blk.drewN ?_ _ | refine Blk.alloc ?_ _)) (by simp [vD]) (by simp [vD]))).mono ?_); rintro e w4 ⟨rfl, hb4⟩; have hz4 := hb4.size; (try simp at hz4); have P4 : Blk w4 w.heap.size 52 #[.int .i64 1, .slice A n c] := blkOf hb4 (by (try simp) <;> omega) (by with_reducible repeat (first | exact P3 | exact Blk.newAt (by simp) | refine Blk.drew ?_ | refine Blk.drewN ?_ _ | refine Blk.alloc ?_ _)); have P4c0 : w4.cell? ⟨w.heap.size, 0, none⟩ = some (.int .i64 1) := P4.cell 0; have P4f0 := P4.frozen 0; have P4c1 : w4.cell? ⟨w.heap.size, 1, none⟩ = some (.slice A n c) := P4.cell 1; have P4f1 := P4.frozen 1; have R4 : Blk w4 (w.heap.size + 1) 54 #[.int .u64 0, .int .u64 0, .int .u64 0, .int .u64 32768] := blkOf hb4 (by (try simp) <;> omega) (by with_reducible repeat (first | exact R3 | exact Blk.newAt (by simp) | refine Blk.drew ?_ | refine Blk.drewN ?_ _ | refine Blk.alloc ?_ _)); have R4c0 : w4.cell? ⟨(w.heap.size + 1), 0, none⟩ = some (.int .u64 0) := R4.cell 0; have R4f0 := R4.frozen 0; have R4c1 : w4.cell? ⟨(w.heap.size + 1), 1, none⟩ = some (.int .u64 0) := R4.cell 1; have R4f1 := R4.frozen 1; have R4c2 : w4.cell? ⟨(w.heap.size + 1), 2, none⟩ = some (.int .u64 0) := R4.cell 2; have R4f2 := R4.frozen 2; have R4c3 : w4.cell? ⟨(w.heap.size + 1), 3, none⟩ = some (.int .u64 32768) := R4.cell 3; have R4f3 := R4.frozen 3; have T4 : Blk w4 (w.heap.size + 1 + 1) 52 #[.int .i64 1, .slice (some ⟨w.heap.size + 1, 0, none⟩) 4 4] := blkOf hb4 (by (try simp) <;> omega) (by with_reducible repeat (first | exact T3 | exact Blk.newAt (by simp) | refine Blk.drew ?_ | refine Blk.drewN ?_ _ | refine Blk.alloc ?_ _)); have T4c0 : w4.cell? ⟨(w.heap.size + 1 + 1), 0, none⟩ = some (.int .i64 1) := T4.cell 0; have T4f0 := T4.frozen 0; have T4c1 : w4.cell? ⟨(w.heap.size + 1 + 1), 1, none⟩ = some (.slice (some ⟨w.heap.size + 1, 0, none⟩) 4 4) := T4.cell 1; have T4f1 := T4.frozen 1))
      have bw : Below w.heap.size w w4 := by (with_reducible repeat (first | exact Below.refl _ _ | exact hb4 | exact hb3 | refine bto0 ?_ hb4 | refine bto0 ?_ hb3 | refine bdr ?_ _ | refine Below.drew ?_ | refine ball ?_ _))
      have hrw := hr.up bw
      have hX2 : dv l ≤ 9223372036854775808 := by rw [HX.out]; omega
      have HX2 := Lib.hid hX2; clear hX2
      go_loop [5, 6] (fun v5 v6 => ∃ (k Y : Nat), v6 = .int .i64 ((k : Int) - 1) ∧ v5 = .int .i64 (-(Y : Int)) ∧ k ≤ n ∧ dv (l.drop k) = Y) (fun _ v => (intOf v + 1).toNat)
      case atStart => exact ⟨n, 0, val_int (by omega), rfl, Nat.le_refl _, by rw [List.drop_eq_nil_of_le (by rw [Hl.out]; omega)]; rfl⟩
      case round =>
        obtain ⟨k, Y, rfl, rfl, hk, hY⟩ := hrel
        rcases Nat.eq_zero_or_pos k with rfl | hpos
        · have hYX : Y = X := by rw [← hY, List.drop_zero, HX.out]
          have HYX : Hid ((Y : Int) = 1 * (X : Int)) := Lib.hid (by omega)
          have hY2 : Y < 9223372036854775808 := by omega
          clear hYX hY hrw hr
          go_wp2
          go_ret2
          exact ⟨(two_ib HYX.out).trans (congrArg Ending.returned HR.out.symm), bw⟩
        · obtain ⟨j, rfl⟩ : ∃ j, k = j + 1 := ⟨k - 1, by omega⟩
          have ej : (((j + 1 : Nat) : Int) - 1) = (j : Int) := by omega
          rw [ej]
          clear ej
          obtain ⟨ad, u, rfl, _, hx, hc⟩ := hrw.at_ (show j < n by omega)
          obtain ⟨d, hd, rfl⟩ := vD_at hx
          have hd2 : d < 65536 := hok d (List.mem_of_getElem? hd)
          obtain ⟨hs1, hs2⟩ := right_step hd HX2.out
          rw [hY] at hs1
          have HY2 : Hid (dv (l.drop j) = d + 65536 * Y) := Lib.hid hs1
          have hY3 : d + 65536 * Y ≤ 9223372036854775808 := by rw [← hs1]; exact hs2
          clear hs1 hs2 hY hrw hr hx hd
          go_wp2
          go_round
          case rel => exact ⟨j, d + 65536 * Y, by go_num, val_int (by omega), by omega, HY2.out⟩
          case measure => simp [intOf]

    · rw [decide_eq_false hx] at L1
      clear L2
      have LL1 := Lib.hid L1; clear L1
      clear hX
      obtain ⟨Z, hZ⟩ : ∃ Z, numR (1 * (X : Int)) = Z := ⟨_, rfl⟩
      have h0 := numR_out (x := 1 * (X : Int)) (by unfold rngP; omega)
      rw [hZ] at h0 ⊢
      have HR := Lib.hid h0; clear h0 hZ
      go_enter Tryz.func20, Tryz.ntmps20
      go_wp2_with (go_at_call 37; (with_reducible refine (LL1.out _ (hr.up (by (with_reducible repeat (first | exact Below.refl _ _ | refine bdr ?_ _ | refine Below.drew ?_ | refine ball ?_ _)))) (reads_of_blk (t := 54) (cs := #[.int .u64 0, .int .u64 0, .int .u64 0, .int .u64 32768]) (by with_reducible repeat (first | exact Blk.newAt (by simp) | refine Blk.drew ?_ | refine Blk.drewN ?_ _ | refine Blk.alloc ?_ _)) (by simp [vD]) (by simp [vD]))).mono ?_); rintro e w3 ⟨rfl, hb3⟩; have hz3 := hb3.size; (try simp at hz3); have P3 : Blk w3 w.heap.size 52 #[.int .i64 1, .slice A n c] := blkOf hb3 (by (try simp) <;> omega) (by with_reducible repeat (first | exact Blk.newAt (by simp) | refine Blk.drew ?_ | refine Blk.drewN ?_ _ | refine Blk.alloc ?_ _)); have P3c0 : w3.cell? ⟨w.heap.size, 0, none⟩ = some (.int .i64 1) := P3.cell 0; have P3f0 := P3.frozen 0; have P3c1 : w3.cell? ⟨w.heap.size, 1, none⟩ = some (.slice A n c) := P3.cell 1; have P3f1 := P3.frozen 1; have R3 : Blk w3 (w.heap.size + 1) 54 #[.int .u64 0, .int .u64 0, .int .u64 0, .int .u64 32768] := blkOf hb3 (by (try simp) <;> omega) (by with_reducible repeat (first | exact Blk.newAt (by simp) | refine Blk.drew ?_ | refine Blk.drewN ?_ _ | refine Blk.alloc ?_ _)); have R3c0 : w3.cell? ⟨(w.heap.size + 1), 0, none⟩ = some (.int .u64 0) := R3.cell 0; have R3f0 := R3.frozen 0; have R3c1 : w3.cell? ⟨(w.heap.size + 1), 1, none⟩ = some (.int .u64 0) := R3.cell 1; have R3f1 := R3.frozen 1; have R3c2 : w3.cell? ⟨(w.heap.size + 1), 2, none⟩ = some (.int .u64 0) := R3.cell 2; have R3f2 := R3.frozen 2; have R3c3 : w3.cell? ⟨(w.heap.size + 1), 3, none⟩ = some (.int .u64 32768) := R3.cell 3; have R3f3 := R3.frozen 3; have T3 : Blk w3 (w.heap.size + 1 + 1) 52 #[.int .i64 1, .slice (some ⟨w.heap.size + 1, 0, none⟩) 4 4] := blkOf hb3 (by (try simp) <;> omega) (by with_reducible repeat (first | exact Blk.newAt (by simp) | refine Blk.drew ?_ | refine Blk.drewN ?_ _ | refine Blk.alloc ?_ _)); have T3c0 : w3.cell? ⟨(w.heap.size + 1 + 1), 0, none⟩ = some (.int .i64 1) := T3.cell 0; have T3f0 := T3.frozen 0; have T3c1 : w3.cell? ⟨(w.heap.size + 1 + 1), 1, none⟩ = some (.slice (some ⟨w.heap.size + 1, 0, none⟩) 4 4) := T3.cell 1; have T3f1 := T3.frozen 1)
      go_ret2
      exact ⟨congrArg Ending.returned HR.out.symm, by (with_reducible repeat (first | exact Below.refl _ _ | exact hb3 | refine bto0 ?_ hb3 | refine bdr ?_ _ | refine Below.drew ?_ | refine ball ?_ _))⟩

  · by_cases hx : X ≤ 9223372036854775808
    · rw [decide_eq_false (by omega)] at L2
      clear L1
      have LL2 := Lib.hid L2; clear L2
      have HX := Lib.hid hX; clear hX
      obtain ⟨Z, hZ⟩ : ∃ Z, numR ((-1) * (X : Int)) = Z := ⟨_, rfl⟩
      have h0 := numR_in (x := (-1) * (X : Int)) (by unfold rngP; omega)
      rw [hZ] at h0 ⊢
      have HR := Lib.hid h0; clear h0 hZ
      go_enter Tryz.func20, Tryz.ntmps20
      go_wp2_with (go_at_call 37; (with_reducible refine (LL2.out _ (hr.up (by (with_reducible repeat (first | exact Below.refl _ _ | refine bdr ?_ _ | refine Below.drew ?_ | refine ball ?_ _)))) (reads_of_blk (t := 54) (cs := #[.int .u64 0, .int .u64 0, .int .u64 0, .int .u64 32768]) (by with_reducible repeat (first | exact Blk.newAt (by simp) | refine Blk.drew ?_ | refine Blk.drewN ?_ _ | refine Blk.alloc ?_ _)) (by simp [vD]) (by simp [vD]))).mono ?_); rintro e w4 ⟨rfl, hb4⟩; have hz4 := hb4.size; (try simp at hz4); have P4 : Blk w4 w.heap.size 52 #[.int .i64 (-1), .slice A n c] := blkOf hb4 (by (try simp) <;> omega) (by with_reducible repeat (first | exact Blk.newAt (by simp) | refine Blk.drew ?_ | refine Blk.drewN ?_ _ | refine Blk.alloc ?_ _)); have P4c0 : w4.cell? ⟨w.heap.size, 0, none⟩ = some (.int .i64 (-1)) := P4.cell 0; have P4f0 := P4.frozen 0; have P4c1 : w4.cell? ⟨w.heap.size, 1, none⟩ = some (.slice A n c) := P4.cell 1; have P4f1 := P4.frozen 1; have R4 : Blk w4 (w.heap.size + 1) 54 #[.int .u64 0, .int .u64 0, .int .u64 0, .int .u64 32768] := blkOf hb4 (by (try simp) <;> omega) (by with_reducible repeat (first | exact Blk.newAt (by simp) | refine Blk.drew ?_ | refine Blk.drewN ?_ _ | refine Blk.alloc ?_ _)); have R4c0 : w4.cell? ⟨(w.heap.size + 1), 0, none⟩ = some (.int .u64 0) := R4.cell 0; have R4f0 := R4.frozen 0; have R4c1 : w4.cell? ⟨(w.heap.size + 1), 1, none⟩ = some (.int .u64 0) := R4.cell 1; have R4f1 := R4.frozen 1; have R4c2 : w4.cell? ⟨(w.heap.size + 1), 2, none⟩ = some (.int .u64 0) := R4.cell 2; have R4f2 := R4.frozen 2; have R4c3 : w4.cell? ⟨(w.heap.size + 1), 3, none⟩ = some (.int .u64 32768) := R4.cell 3; have R4f3 := R4.frozen 3; have T4 : Blk w4 (w.heap.size + 1 + 1) 52 #[.int .i64 1, .slice (some ⟨w.heap.size + 1, 0, none⟩) 4 4] := blkOf hb4 (by (try simp) <;> omega) (by with_reducible repeat (first | exact Blk.newAt (by simp) | refine Blk.drew ?_ | refine Blk.drewN ?_ _ | refine Blk.alloc ?_ _)); have T4c0 : w4.cell? ⟨(w.heap.size + 1 + 1), 0, none⟩ = some (.int .i64 1) := T4.cell 0; have T4f0 := T4.frozen 0; have T4c1 : w4.cell? ⟨(w.heap.size + 1 + 1), 1, none⟩ = some (.slice (some ⟨w.heap.size + 1, 0, none⟩) 4 4) := T4.cell 1; have T4f1 := T4.frozen 1)
      have bw : Below w.heap.size w w4 := by (with_reducible repeat (first | exact Below.refl _ _ | exact hb4 | refine bto0 ?_ hb4 | refine bdr ?_ _ | refine Below.drew ?_ | refine ball ?_ _))
      have hrw := hr.up bw
      have hX2 : dv l ≤ 9223372036854775808 := by rw [HX.out]; omega
      have HX2 := Lib.hid hX2; clear hX2
      go_loop [5, 6] (fun v5 v6 => ∃ (k Y : Nat), v6 = .int .i64 ((k : Int) - 1) ∧ v5 = .int .i64 (-(Y : Int)) ∧ k ≤ n ∧ dv (l.drop k) = Y) (fun _ v => (intOf v + 1).toNat)
      case atStart => exact ⟨n, 0, val_int (by omega), rfl, Nat.le_refl _, by rw [List.drop_eq_nil_of_le (by rw [Hl.out]; omega)]; rfl⟩
      case round =>
        obtain ⟨k, Y, rfl, rfl, hk, hY⟩ := hrel
        rcases Nat.eq_zero_or_pos k with rfl | hpos
        · have hYX : Y = X := by rw [← hY, List.drop_zero, HX.out]
          have HYX : Hid (-(Y : Int) = (-1) * (X : Int)) := Lib.hid (by omega)
          have hY2 : Y ≤ 9223372036854775808 := by omega
          clear hYX hY hrw hr
          go_wp2
          go_ret2
          exact ⟨(two_ib HYX.out).trans (congrArg Ending.returned HR.out.symm), bw⟩
        · obtain ⟨j, rfl⟩ : ∃ j, k = j + 1 := ⟨k - 1, by omega⟩
          have ej : (((j + 1 : Nat) : Int) - 1) = (j : Int) := by omega
          rw [ej]
          clear ej
          obtain ⟨ad, u, rfl, _, hx, hc⟩ := hrw.at_ (show j < n by omega)
          obtain ⟨d, hd, rfl⟩ := vD_at hx
          have hd2 : d < 65536 := hok d (List.mem_of_getElem? hd)
          obtain ⟨hs1, hs2⟩ := right_step hd HX2.out
          rw [hY] at hs1
          have HY2 : Hid (dv (l.drop j) = d + 65536 * Y) := Lib.hid hs1
          have hY3 : d + 65536 * Y ≤ 9223372036854775808 := by rw [← hs1]; exact hs2
          clear hs1 hs2 hY hrw hr hx hd
          go_wp2
          go_round
          case rel => exact ⟨j, d + 65536 * Y, by go_num, val_int (by omega), by omega, HY2.out⟩
          case measure => simp [intOf]

    · rw [decide_eq_true (by omega)] at L2
      clear L1
      have LL2 := Lib.hid L2; clear L2
      clear hX
      obtain ⟨Z, hZ⟩ : ∃ Z, numR ((-1) * (X : Int)) = Z := ⟨_, rfl⟩
      have h0 := numR_out (x := (-1) * (X : Int)) (by unfold rngP; omega)
      rw [hZ] at h0 ⊢
      have HR := Lib.hid h0; clear h0 hZ
      go_enter Tryz.func20, Tryz.ntmps20
      go_wp2_with (go_at_call 37; (with_reducible refine (LL2.out _ (hr.up (by (with_reducible repeat (first | exact Below.refl _ _ | refine bdr ?_ _ | refine Below.drew ?_ | refine ball ?_ _)))) (reads_of_blk (t := 54) (cs := #[.int .u64 0, .int .u64 0, .int .u64 0, .int .u64 32768]) (by with_reducible repeat (first | exact Blk.newAt (by simp) | refine Blk.drew ?_ | refine Blk.drewN ?_ _ | refine Blk.alloc ?_ _)) (by simp [vD]) (by simp [vD]))).mono ?_); rintro e w4 ⟨rfl, hb4⟩; have hz4 := hb4.size; (try simp at hz4); have P4 : Blk w4 w.heap.size 52 #[.int .i64 (-1), .slice A n c] := blkOf hb4 (by (try simp) <;> omega) (by with_reducible repeat (first | exact Blk.newAt (by simp) | refine Blk.drew ?_ | refine Blk.drewN ?_ _ | refine Blk.alloc ?_ _)); have P4c0 : w4.cell? ⟨w.heap.size, 0, none⟩ = some (.int .i64 (-1)) := P4.cell 0; have P4f0 := P4.frozen 0; have P4c1 : w4.cell? ⟨w.heap.size, 1, none⟩ = some (.slice A n c) := P4.cell 1; have P4f1 := P4.frozen 1; have R4 : Blk w4 (w.heap.size + 1) 54 #[.int .u64 0, .int .u64 0, .int .u64 0, .int .u64 32768] := blkOf hb4 (by (try simp) <;> omega) (by with_reducible repeat (first | exact Blk.newAt (by simp) | refine Blk.drew ?_ | refine Blk.drewN ?_ _ | refine Blk.alloc ?_ _)); have R4c0 : w4.cell? ⟨(w.heap.size + 1), 0, none⟩ = some (.int .u64 0) := R4.cell 0; have R4f0 := R4.frozen 0; have R4c1 : w4.cell? ⟨(w.heap.size + 1), 1, none⟩ = some (.int .u64 0) := R4.cell 1; have R4f1 := R4.frozen 1; have R4c2 : w4.cell? ⟨(w.heap.size + 1), 2, none⟩ = some (.int .u64 0) := R4.cell 2; have R4f2 := R4.frozen 2; have R4c3 : w4.cell? ⟨(w.heap.size + 1), 3, none⟩ = some (.int .u64 32768) := R4.cell 3; have R4f3 := R4.frozen 3; have T4 : Blk w4 (w.heap.size + 1 + 1) 52 #[.int .i64 1, .slice (some ⟨w.heap.size + 1, 0, none⟩) 4 4] := blkOf hb4 (by (try simp) <;> omega) (by with_reducible repeat (first | exact Blk.newAt (by simp) | refine Blk.drew ?_ | refine Blk.drewN ?_ _ | refine Blk.alloc ?_ _)); have T4c0 : w4.cell? ⟨(w.heap.size + 1 + 1), 0, none⟩ = some (.int .i64 1) := T4.cell 0; have T4f0 := T4.frozen 0; have T4c1 : w4.cell? ⟨(w.heap.size + 1 + 1), 1, none⟩ = some (.slice (some ⟨w.heap.size + 1, 0, none⟩) 4 4) := T4.cell 1; have T4f1 := T4.frozen 1)
      go_ret2
      exact ⟨congrArg Ending.returned HR.out.symm, by (with_reducible repeat (first | exact Below.refl _ _ | exact hb4 | refine bto0 ?_ hb4 | refine bdr ?_ _ | refine Below.drew ?_ | refine ball ?_ _))⟩

end Go.Proofs.YthpggfcindnlcaaGreatDoor
