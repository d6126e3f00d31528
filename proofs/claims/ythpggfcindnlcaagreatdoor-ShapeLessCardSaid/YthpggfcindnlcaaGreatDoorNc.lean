
/-
  Contracts of the reference's numbers: Whole, Less, apart.
-/
import Derived.Test.YthpggfcindnlcaaGreatDoorNb
set_option linter.unusedSimpArgs false
set_option linter.unusedVariables false
namespace Go.Proofs.YthpggfcindnlcaaGreatDoor
open Go.RowKit

set_option maxRecDepth 100000 in
set_option maxHeartbeats 2000000 in
theorem whole_any (N : Nat) (hN : N < 18446744073709551616) (w : World) :
    Calls Tryz.prog 15 #[.int .u64 N] w (RetN w 1 N 4) := by
  obtain ⟨i0, hi0, hz0, hz1, hz2⟩ := int_info8 Tryz.infoU64
  have hW1 : Below w.heap.size w (w.alloc (.cells #[.int .i64 0, .slice none 0 0] 52)) := ball (Below.refl _ _) _
  go_enter Tryz.func15, Tryz.ntmps15
  go_wp2
  go_loopw [0, 3, 4] (fun v0 v3 v4 wr => ∃ (i x : Nat) (O : List Nat), v0 = .int .u64 x ∧ v4 = .int .i64 i ∧ i ≤ 4 ∧ O.length = i ∧ dok O ∧ x ≤ N ∧ dv O + 65536 ^ i * x = N ∧ wr.ownsRow (w.heap.size + 1) 54 1 v3 i (vD O) ∧
      Below (w.heap.size + 1) (w.alloc (.cells #[.int .i64 0, .slice none 0 0] 52)) wr) (fun _ _ v4 _ => 4 - (intOf v4).toNat)
  case atStart =>
    refine ⟨0, N, [], rfl, rfl, by omega, rfl, by intro x hx; simp at hx, by omega, by simp [dv], ?_, ?_⟩
    · have h0 := own_empty (w.alloc (.cells #[.int .i64 0, .slice none 0 0] 52)) 54 1 rfl
      have hz : (w.alloc (.cells #[.int .i64 0, .slice none 0 0] 52)).heap.size = w.heap.size + 1 := by simp
      rw [hz] at h0
      exact h0
    · exact (Below.refl _ _).alloc (by simp) _
  case round =>
    obtain ⟨i, x, O, rfl, rfl, hi, hO, hdO, hx, hv, hown, hbr⟩ := hrel
    have zr : w.heap.size + 1 ≤ wr.heap.size := by simpa using hbr.size
    have bwr := hW1.trans (hbr.mono (by omega))
    by_cases hlt : i < 4
    · have hst := whole_step hO hv
      have Hdn := Lib.hid (dok_snoc hdO (Nat.mod_lt x (by omega : 0 < 65536)))
      have H1 : ∀ u ∈ [Value.int .u64 ((x : Int) % 65536)], u.oneCell' = true := by simp [Value.oneCell']
      have Hst := Lib.hid hst; clear hst
      have HO := Lib.hid hO; clear hO
      clear hv
      have hN2 : (x : Int) ≤ 18446744073709551615 := by omega
      go_wp2_with (at_builtin; refine wpList_push rfl _ _ 50 rfl (w.heap.size + 1) 54 i0 (.int .u64 0) 1 8 Tryz.underlying50 hi0 hz0 hz1 hz2 rfl (by decide) u3 i _ rfl hown rfl rfl rfl H1 (by omega) (by omega) zr ?_; intro v1 w1 hown1 hb1)
      go_roundw
      case rel =>
        refine ⟨i + 1, x / 65536, O ++ [x % 65536], val_int (by omega), by go_num, by omega, by simp [HO.out], Hdn.out, by omega, Hst.out, ?_, hb1 _ _ (Nat.le_refl _) hbr⟩
        have e : vD (O ++ [x % 65536]) = vD O ++ [Value.int .u64 ((x : Int) % 65536)] := by simp [vD]
        rw [e]
        exact hown1
      case measure => simp [intOf]; omega
    · have hi4 : i = 4 := by omega
      subst hi4
      have hx0 : x = 0 := by
        have := Nat.le_add_left (65536 ^ 4 * x) (dv O)
        rw [hv] at this
        have h4 : (65536 : Nat) ^ 4 = 18446744073709551616 := by decide
        rw [h4] at this
        omega
      subst hx0
      have Hv := Lib.hid (show dv O = N by simpa using hv)
      have HO := Lib.hid hO
      obtain ⟨A3, c3, rfl, hc3⟩ := own_form hown
      have k0 := hbr.cell (p := ⟨w.heap.size, 0, none⟩) (by simp)
      have k1 := hbr.cell (p := ⟨w.heap.size, 1, none⟩) (by simp)
      have k2 := hbr.frozen (p := ⟨w.heap.size, 0, none⟩) (by simp)
      have k3 := hbr.frozen (p := ⟨w.heap.size, 1, none⟩) (by simp)
      clear hv hO
      go_wp2
      refine bodyPost_ret (v := .agg #[.int .i64 1, .slice A3 4 c3]) (by simp [results, Tryz.results15, go_sem, k0, k1]) rfl ⟨_, rfl, ⟨A3, 4, c3, O, rfl, ?_, hc3, by omega, hdO, Hv.out, HO.out⟩, ?_⟩
      · exact Reads.of_own (ownsRow_setCell_below (ownsRow_setCell_below hown (by show w.heap.size < w.heap.size + 1; omega) _) (by show w.heap.size < w.heap.size + 1; omega) _)
      · exact (bwr.setCell (p := ⟨w.heap.size, 0, none⟩) (Nat.le_refl _) _).setCell (p := ⟨w.heap.size, 1, none⟩) (Nat.le_refl _) _

set_option maxRecDepth 100000 in
set_option maxHeartbeats 2000000 in
theorem rless_n (sa sb : Int) (A : Option Addr) (n c : Nat) (l : List Nat) (A' : Option Addr) (n' c' : Nat) (l' : List Nat) (w : World)
    (hr : Reads w w.heap.size 1 A n (vD l)) (hr' : Reads w w.heap.size 1 A' n' (vD l')) (hok : dok l) (hok' : dok l') (hn : n ≤ 10000) (hn' : n' ≤ 10000) :
    Calls Tryz.prog 37 #[.agg #[.int .i64 sa, .slice A n c], .agg #[.int .i64 sb, .slice A' n' c']] w (RetB w (.bool (decide (dv l < dv l')))) := by
  have hl : l.length = n := by have := hr.1; rw [vD_len] at this; omega
  have hl' : l'.length = n' := by have := hr'.1; rw [vD_len] at this; omega
  have hw2 : Below w.heap.size w ((w.alloc (.cells #[.int .i64 sa, .slice A n c] 52)).alloc (.cells #[.int .i64 sb, .slice A' n' c'] 52)) := ball (ball (Below.refl _ _) _) _
  have q1 := hr.below hw2
  have q2 := hr'.below hw2
  obtain ⟨M, hM1, hM2, hM3⟩ : ∃ M : Nat, n ≤ M ∧ n' ≤ M ∧ (M ≤ n ∨ M ≤ n') := ⟨max n n', by omega, by omega, by omega⟩
  have hd0 : l.drop M = [] := List.drop_eq_nil_of_le (by omega)
  have hd0' : l'.drop M = [] := List.drop_eq_nil_of_le (by omega)
  have Hl := Lib.hid hl; clear hl
  have Hl' := Lib.hid hl'; clear hl'
  have Hok := Lib.hid hok; clear hok
  have Hok' := Lib.hid hok'; clear hok'
  have Hd := Lib.hid (show dv (l.drop M) = dv (l'.drop M) by rw [hd0, hd0'])
  clear hd0 hd0'
  have hs : n < n' ∨ n' ≤ n := by omega
  rcases hs with hs | hs
  all_goals
    go_enter Tryz.func37, Tryz.ntmps37
    go_wp2
    go_loopw [5] (fun v wr => ∃ (k : Nat), v = .int .i64 ((k : Int) - 1) ∧ k ≤ M ∧ dv (l.drop k) = dv (l'.drop k) ∧ ∃ m, wr = ((w.alloc (.cells #[.int .i64 sa, .slice A n c] 52)).alloc (.cells #[.int .i64 sb, .slice A' n' c'] 52)).drewN m) (fun v _ => (intOf v + 1).toNat)
    case atStart => exact ⟨M, val_int (by omega), Nat.le_refl _, Hd.out, 0, rfl⟩
    case round =>
      obtain ⟨k, rfl, hk, he, m, rfl⟩ := hrel
      rcases Nat.eq_zero_or_pos k with rfl | hpos
      · have Hf := Lib.hid (less_eq he)
        clear he
        go_wp2
        go_ret
        exact ⟨ret_bool Hf.out.symm, bdr hw2 _⟩
      · obtain ⟨j, rfl⟩ : ∃ j, k = j + 1 := ⟨k - 1, by omega⟩
        have ej : (((j + 1 : Nat) : Int) - 1) = (j : Int) := by omega
        rw [ej]
        clear ej
        have D1 := fun W (h : Below w.heap.size w W) => digit_quiet A n c l j W w.heap.size (hr.below h) (by omega) (by omega)
        have D2 := fun W (h : Below w.heap.size w W) => digit_quiet A' n' c' l' j W w.heap.size (hr'.below h) (by omega) (by omega)
        by_cases hq : dg l j = dg l' j
        · have he2 : dv (l.drop j) = dv (l'.drop j) := by rw [dv_dg l j, dv_dg l' j, hq, he]
          have He := Lib.hid he2
          rw [hq] at D1
          clear he he2 hq
          obtain ⟨a, ha⟩ : ∃ a, dg l' j = a := ⟨_, rfl⟩
          rw [ha] at D1 D2
          clear ha
          have Hd1 := Lib.hid D1; clear D1
          have Hd2 := Lib.hid D2; clear D2
          go_wp2_with fail
          go_quiet ((go_at_call 50; first | (with_reducible exact quiet_add_same (Hd1.out _ (bdr hw2 _))) | (with_reducible exact quiet_add_same (Hd2.out _ (bdr hw2 _)))))
          go_wp2
          go_roundw
          case rel => exact ⟨j, by go_num, by omega, He.out, _, rfl⟩
          case measure => simp [intOf]
        · have hf := less_at Hok.out Hok'.out he hq
          have hne : ((dg l j : Int) != (dg l' j : Int)) = true := by rw [bne_iff_ne]; omega
          obtain ⟨a, ha⟩ : ∃ a, dg l j = a := ⟨_, rfl⟩
          obtain ⟨b, hb⟩ : ∃ b, dg l' j = b := ⟨_, rfl⟩
          rw [ha] at D1 hf hne
          rw [hb] at D2 hf hne
          have Hf := Lib.hid hf
          clear he hq hf ha hb
          have Hd1 := Lib.hid D1; clear D1
          have Hd2 := Lib.hid D2; clear D2
          go_wp2_with fail
          go_quiet ((go_at_call 50; first | (with_reducible exact quiet_add_same (Hd1.out _ (bdr hw2 _))) | (with_reducible exact quiet_add_same (Hd2.out _ (bdr hw2 _)))))
          go_wp2_with fail
          go_quiet ((go_at_call 50; first | (with_reducible exact quiet_add_same (Hd1.out _ (bdr hw2 _))) | (with_reducible exact quiet_add_same (Hd2.out _ (bdr hw2 _)))))
          go_wp2
          go_ret
          refine ⟨ret_bool ?_, ?_⟩
          · rw [Hf.out]
          · first | exact bdr hw2 _ | exact bdr (bdr hw2 _) _ | exact bdr (bdr (bdr hw2 _) _) _

end Go.Proofs.YthpggfcindnlcaaGreatDoor
