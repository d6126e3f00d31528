
/-
  Contracts of the reference's numbers: apart.
-/
import Derived.Test.YthpggfcindnlcaaGreatDoorNc
set_option linter.unusedSimpArgs false
set_option linter.unusedVariables false
namespace Go.Proofs.YthpggfcindnlcaaGreatDoor
open Go.RowKit

set_option maxRecDepth 100000 in
set_option maxHeartbeats 2000000 in
theorem apart_any (sa sb : Int) (A : Option Addr) (n c : Nat) (l : List Nat) (A' : Option Addr) (n' c' : Nat) (l' : List Nat) (w : World)
    (hr : Reads w w.heap.size 1 A n (vD l)) (hr' : Reads w w.heap.size 1 A' n' (vD l')) (hok : dok l) (hok' : dok l') (hn : n ≤ 10000) (hn' : n' ≤ 10000) (hle : dv l' ≤ dv l) :
    Calls Tryz.prog 38 #[.agg #[.int .i64 sa, .slice A n c], .agg #[.int .i64 sb, .slice A' n' c']] w (RetN w 1 (dv l - dv l') n) := by
  obtain ⟨i0, hi0, hz0, hz1, hz2⟩ := int_info8 Tryz.infoU64
  have hl : l.length = n := by have := hr.1; rw [vD_len] at this; omega
  have Hl := Lib.hid hl; clear hl
  have Hok := Lib.hid hok; clear hok
  have Hok' := Lib.hid hok'; clear hok'
  have Hle := Lib.hid hle; clear hle
  have hW3 : Below w.heap.size w (((w.alloc (.cells #[.int .i64 sa, .slice A n c] 52)).alloc (.cells #[.int .i64 sb, .slice A' n' c'] 52)).alloc (.cells #[.int .i64 0, .slice none 0 0] 52)) := ball (ball (ball (Below.refl _ _) _) _) _
  go_enter Tryz.func38, Tryz.ntmps38
  go_wp2
  go_loopw [5, 6, 13] (fun v5 v6 v7 wr => ∃ (i br : Nat) (O : List Nat), v7 = .int .i64 i ∧ v6 = .int .u64 br ∧ i ≤ n ∧ O.length = i ∧ dok O ∧ br ≤ 1 ∧
      dv O + low l' i = low l i + br * 65536 ^ i ∧ wr.ownsRow (w.heap.size + 3) 54 1 v5 i (vD O) ∧
      Below (w.heap.size + 3) (((w.alloc (.cells #[.int .i64 sa, .slice A n c] 52)).alloc (.cells #[.int .i64 sb, .slice A' n' c'] 52)).alloc (.cells #[.int .i64 0, .slice none 0 0] 52)) wr) (fun _ _ v7 _ => n - (intOf v7).toNat)
  case atStart =>
    refine ⟨0, 0, [], rfl, rfl, by omega, rfl, by intro x hx; simp at hx, by omega, by simp [dv, low_zero], ?_, ?_⟩
    · have h0 := own_empty (((w.alloc (.cells #[.int .i64 sa, .slice A n c] 52)).alloc (.cells #[.int .i64 sb, .slice A' n' c'] 52)).alloc (.cells #[.int .i64 0, .slice none 0 0] 52)) 54 1 rfl
      have hz : (((w.alloc (.cells #[.int .i64 sa, .slice A n c] 52)).alloc (.cells #[.int .i64 sb, .slice A' n' c'] 52)).alloc (.cells #[.int .i64 0, .slice none 0 0] 52)).heap.size = w.heap.size + 3 := by simp
      rw [hz] at h0
      exact h0
    · exact (Below.refl _ _).alloc (by simp) _
  case round =>
    obtain ⟨i, br, O, rfl, rfl, hi, hO, hdO, hbr1, hv, hown, hbr⟩ := hrel
    have zr : w.heap.size + 3 ≤ wr.heap.size := by simpa using hbr.size
    have bwr := hW3.trans (hbr.mono (by omega))
    by_cases hlt : i < n
    · obtain ⟨ad, u, rfl, _, hx, hc⟩ := (hr.below bwr).at_ hlt
      obtain ⟨a, ha1, rfl⟩ := vD_at hx
      have ha : dg l i = a := by unfold dg; rw [ha1]; rfl
      obtain ⟨b, hb⟩ : ∃ b, dg l' i = b := ⟨_, rfl⟩
      have ha2 := dg_lt Hok.out i
      have hb2 := dg_lt Hok'.out i
      rw [ha] at ha2
      rw [hb] at hb2
      obtain ⟨q, hq⟩ : ∃ q, q + b + br = a + 65536 := ⟨a + 65536 - b - br, by omega⟩
      have hst := apart_step (A := l) (B := l') hO hv hbr1 (by omega) (by omega) (by rw [ha, hb]; exact hq)
      have Hdn := Lib.hid (dok_snoc hdO (Nat.mod_lt q (by omega : 0 < 65536)))
      have D2 := fun W (h : Below w.heap.size w W) => digit_quiet A' n' c' l' i W w.heap.size (hr'.below h) (by omega) (by omega)
      rw [hb] at D2
      have Hd2 := Lib.hid D2; clear D2
      have hq2 : q ≤ 131071 := by omega
      have e1 : ((a : Int) + 65536 - (b : Int) - (br : Int)) = (q : Int) := by omega
      have g1 : (0 : Int) ≤ (i : Int) := by omega
      have g2 : (i : Int) < (n : Int) := by omega
      have H1 : ∀ u ∈ [Value.int .u64 ((q : Int) % 65536)], u.oneCell' = true := by simp [Value.oneCell']
      have a1 := hbr.cell (p := ⟨w.heap.size, 1, none⟩) (by simp)
      have b1 := hbr.cell (p := ⟨w.heap.size + 1, 1, none⟩) (by simp)
      have Hst := Lib.hid hst.1
      have hq1 := hst.2
      have Hq1 : q / 65536 = 0 ∨ q / 65536 = 1 := by omega
      clear hst hv ha hb ha1 hx hr
      have HO := Lib.hid hO; clear hO
      have Hq := Lib.hid hq; clear hq
      go_wp2_with fail
      go_quiet ((go_at_call 50; first | (with_reducible exact Calls.quiet_of_same (Hd2.out _ (bdr bwr _)))))
      go_wp2_with (at_builtin; refine wpList_push rfl _ _ 50 rfl (w.heap.size + 3) 54 i0 (.int .u64 0) 1 8 Tryz.underlying50 hi0 hz0 hz1 hz2 rfl (by decide) u5 i _ rfl hown rfl rfl rfl H1 (by omega) (by omega) zr ?_; intro v1 w1 hown1 hb1)
      go_roundw
      case rel =>
        refine ⟨i + 1, 1 - q / 65536, O ++ [q % 65536], by go_num, val_int (by omega), by omega, by simp [HO.out], Hdn.out, by omega, Hst.out, ?_, hb1 _ _ (Nat.le_refl _) (bdr hbr _)⟩
        have e : vD (O ++ [q % 65536]) = vD O ++ [Value.int .u64 ((q : Int) % 65536)] := by simp [vD]
        rw [e]
        exact hown1
      case measure => simp [intOf]; omega
    · have hin : i = n := by omega
      subst hin
      have hfin := apart_end (by rw [Hl.out]) hO hdO Hok.out hv Hle.out
      have Hv := Lib.hid hfin
      have HO := Lib.hid hO
      obtain ⟨A5, c5, rfl, hc5⟩ := own_form hown
      have k0 := hbr.cell (p := ⟨w.heap.size + 1 + 1, 0, none⟩) (by simp)
      have k1 := hbr.cell (p := ⟨w.heap.size + 1 + 1, 1, none⟩) (by simp)
      have k2 := hbr.frozen (p := ⟨w.heap.size + 1 + 1, 0, none⟩) (by simp)
      have k3 := hbr.frozen (p := ⟨w.heap.size + 1 + 1, 1, none⟩) (by simp)
      clear hv hO hfin
      go_wp2
      refine bodyPost_ret (v := .agg #[.int .i64 1, .slice A5 i c5]) (by simp [results, Tryz.results38, go_sem, k0, k1]) rfl ⟨_, rfl, ⟨A5, i, c5, O, rfl, ?_, hc5, by omega, hdO, Hv.out, HO.out⟩, ?_⟩
      · exact Reads.of_own (ownsRow_setCell_below (ownsRow_setCell_below hown (by show w.heap.size + 1 + 1 < w.heap.size + 3; omega) _) (by show w.heap.size + 1 + 1 < w.heap.size + 3; omega) _)
      · exact (bwr.setCell (p := ⟨w.heap.size + 1 + 1, 0, none⟩) (by show w.heap.size ≤ w.heap.size + 1 + 1; omega) _).setCell (p := ⟨w.heap.size + 1 + 1, 1, none⟩) (by show w.heap.size ≤ w.heap.size + 1 + 1; omega) _

end Go.Proofs.YthpggfcindnlcaaGreatDoor
