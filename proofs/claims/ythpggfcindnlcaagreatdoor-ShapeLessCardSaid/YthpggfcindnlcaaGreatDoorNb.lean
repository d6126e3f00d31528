
/-
  Contracts of the reference's numbers: digit, size.
-/
import Derived.Test.YthpggfcindnlcaaGreatDoorRows
import Derived.Test.YthpggfcindnlcaaGreatDoorNm
import Derived.Deep.QuietTactic
import Derived.BigQuiet
import Derived.IntWalk
import Derived.WalkSpells
import Derived.WalkLawsBesides
set_option linter.unusedSimpArgs false
set_option linter.unusedVariables false
namespace Go.Proofs.YthpggfcindnlcaaGreatDoor
open Go.RowKit

theorem Tryz.infoU64 : (Tryz.prog.info? 54).map (fun i => (i.zero, i.size, i.bytes)) = some (some (.int .u64 0), 1, 8) := by kernel_rfl

set_option maxHeartbeats 400000 in
theorem digit_any (A : Option Addr) (n c : Nat) (l : List Nat) (i : Nat) (w : World) (B : Nat) (hr : Reads w B 1 A n (vD l)) (_hn : n ≤ 1000000) (_hi : i ≤ 1000000) :
    Calls Tryz.prog 50 #[.slice A n c, .int .i64 i] w fun e w' => e = .returned (.int .u64 (dg l i : Nat)) ∧ w = w' := by
  have hl : l.length = n := by have := hr.1; rw [vD_len] at this; omega
  unfold dg
  by_cases h : i < n
  · obtain ⟨ad, u, rfl, _, hx, hc⟩ := hr.at_ h
    obtain ⟨d, hd, rfl⟩ := vD_at hx
    rw [hd]
    clear hx hr hd
    go_enter Tryz.func50, Tryz.ntmps50
    go_wp2
    go_ret
    exact ⟨rfl, rfl⟩
  · rw [List.getElem?_eq_none (by omega)]
    have Hr := Lib.hid hr; clear hr hl
    go_enter Tryz.func50, Tryz.ntmps50
    go_wp2
    go_ret
    exact ⟨rfl, rfl⟩
theorem digit_quiet (A : Option Addr) (n c : Nat) (l : List Nat) (i : Nat) (w : World) (B : Nat) (hr : Reads w B 1 A n (vD l)) (hn : n ≤ 1000000) (hi : i ≤ 1000000) :
    Calls Tryz.prog 50 #[.slice A n c, .int .i64 i] w fun e w' => e = .returned (.int .u64 (dg l i : Nat)) ∧ w' = w :=
  (digit_any A n c l i w B hr hn hi).mono fun _ _ ⟨h1, h2⟩ => ⟨h1, h2.symm⟩

set_option maxHeartbeats 2000000 in
theorem size_any (sa sb : Int) (A : Option Addr) (n c : Nat) (l : List Nat) (A' : Option Addr) (n' c' : Nat) (l' : List Nat) (w : World)
    (hr : Reads w w.heap.size 1 A n (vD l)) (hr' : Reads w w.heap.size 1 A' n' (vD l')) (hok : dok l) (hok' : dok l') (hn : n ≤ 10000) (hn' : n' ≤ 10000) (_hnc : n ≤ c) (_hnc' : n' ≤ c') :
    Calls Tryz.prog 36 #[.agg #[.int .i64 sa, .slice A n c], .agg #[.int .i64 sb, .slice A' n' c']] w (RetN w 1 (dv l + dv l') (max n n' + 1)) := by
  obtain ⟨i0, hi0, hz0, hz1, hz2⟩ := int_info8 Tryz.infoU64
  have hl : l.length = n := by have := hr.1; rw [vD_len] at this; omega
  have hl' : l'.length = n' := by have := hr'.1; rw [vD_len] at this; omega
  have Hl := Lib.hid hl; clear hl
  have Hl' := Lib.hid hl'; clear hl'
  have Hok := Lib.hid hok; clear hok
  have Hok' := Lib.hid hok'; clear hok'
  go_enter Tryz.func36, Tryz.ntmps36
  have hW3 : Below w.heap.size w (((w.alloc (.cells #[.int .i64 sa, .slice A n c] 52)).alloc (.cells #[.int .i64 sb, .slice A' n' c'] 52)).alloc (.cells #[.int .i64 0, .slice none 0 0] 52)) := ball (ball (ball (Below.refl _ _) _) _) _
  go_wp2
  go_loopw [5, 6, 7] (fun v5 v6 v7 wr => ∃ (i cy : Nat) (O : List Nat), v7 = .int .i64 i ∧ v6 = .int .u64 cy ∧ O.length = i ∧ dok O ∧ cy ≤ 1 ∧ (i ≤ max n n' ∨ (i = max n n' + 1 ∧ cy = 0)) ∧
      dv O + 65536 ^ i * (cy + dv (l.drop i) + dv (l'.drop i)) = dv l + dv l' ∧ wr.ownsRow (w.heap.size + 3) 54 1 v5 i (vD O) ∧
      Below (w.heap.size + 3) (((w.alloc (.cells #[.int .i64 sa, .slice A n c] 52)).alloc (.cells #[.int .i64 sb, .slice A' n' c'] 52)).alloc (.cells #[.int .i64 0, .slice none 0 0] 52)) wr) (fun _ _ v7 _ => max n n' + 2 - (intOf v7).toNat)
  case atStart =>
    refine ⟨0, 0, [], rfl, rfl, rfl, by intro x hx; simp at hx, by omega, by omega, by simp [dv], ?_, ?_⟩
    · have h0 := own_empty (((w.alloc (.cells #[.int .i64 sa, .slice A n c] 52)).alloc (.cells #[.int .i64 sb, .slice A' n' c'] 52)).alloc (.cells #[.int .i64 0, .slice none 0 0] 52)) 54 1 rfl
      have hz : (((w.alloc (.cells #[.int .i64 sa, .slice A n c] 52)).alloc (.cells #[.int .i64 sb, .slice A' n' c'] 52)).alloc (.cells #[.int .i64 0, .slice none 0 0] 52)).heap.size = w.heap.size + 3 := by simp
      rw [hz] at h0
      exact h0
    · exact (Below.refl _ _).alloc (by simp) _
  case round =>
    obtain ⟨i, cy, O, rfl, rfl, hO, hdO, hcy, hi, hv, hown, hbr⟩ := hrel
    have zr : w.heap.size + 3 ≤ wr.heap.size := by simpa using hbr.size
    have a1 := hbr.cell (p := ⟨w.heap.size, 1, none⟩) (by simp)
    have b1 := hbr.cell (p := ⟨w.heap.size + 1, 1, none⟩) (by simp)
    have bwr := hW3.trans (hbr.mono (by omega))
    have q1 := (hr.below bwr)
    have q2 := (hr'.below bwr)
    have hc : i < n ∨ (¬ i < n ∧ i < n') ∨ (¬ i < n ∧ ¬ i < n' ∧ 0 < cy) ∨ (¬ i < n ∧ ¬ i < n' ∧ cy = 0) := by omega
    obtain ⟨a, ha⟩ : ∃ a, dg l i = a := ⟨_, rfl⟩
    obtain ⟨b, hb⟩ : ∃ b, dg l' i = b := ⟨_, rfl⟩
    have ha2 := dg_lt Hok.out i
    have hb2 := dg_lt Hok'.out i
    rw [ha] at ha2
    rw [hb] at hb2
    obtain ⟨q, hq⟩ : ∃ q, a + b + cy = q := ⟨_, rfl⟩
    have hst := size_step hO hv ha hb hq
    have hdn := dok_snoc hdO (Nat.mod_lt q (by omega : 0 < 65536))
    have D1 := fun W (h : Below w.heap.size w W) => digit_quiet A n c l i W w.heap.size (hr.below h) (by omega) (by omega)
    have D2 := fun W (h : Below w.heap.size w W) => digit_quiet A' n' c' l' i W w.heap.size (hr'.below h) (by omega) (by omega)
    rw [ha] at D1
    rw [hb] at D2
    have hq2 : q ≤ 131071 := by omega
    have e1 : ((a : Int) + (b : Int) + (cy : Int)) = (q : Int) := by omega
    have H1 : ∀ u ∈ [Value.int .u64 ((q : Int) % 65536)], u.oneCell' = true := by simp [Value.oneCell']
    have hml := hown.2
    have az : n ≤ i → a = 0 := fun h => by rw [← ha]; exact dg_out (by rw [Hl.out]; omega)
    have bz : n' ≤ i → b = 0 := fun h => by rw [← hb]; exact dg_out (by rw [Hl'.out]; omega)
    rcases hc with hc | ⟨hc, hc'⟩ | ⟨hc, hc', hcc⟩ | ⟨hc, hc', hcc⟩
    ·
      clear az bz
      have Hd1 := Lib.hid D1; clear D1
      have Hd2 := Lib.hid D2; clear D2
      have Hst := Lib.hid hst; clear hst
      have Hv := Lib.hid hv; clear hv
      have HO := Lib.hid hO; clear hO
      have Hq := Lib.hid hq; clear hq
      clear ha hb hml
      go_wp2_with fail
      go_quiet ((go_at_call 50; first | (with_reducible exact Calls.quiet_of_same (Hd1.out _ (bdr bwr _))) | (with_reducible exact Calls.quiet_of_same (Hd2.out _ (bdr bwr _)))))
      go_wp2_with (at_builtin; refine wpList_push rfl _ _ 50 rfl (w.heap.size + 3) 54 i0 (.int .u64 0) 1 8 Tryz.underlying50 hi0 hz0 hz1 hz2 rfl (by decide) u5 i _ rfl hown rfl rfl rfl H1 (by omega) (by omega) zr ?_; intro v1 w1 hown1 hb1)
      go_roundw
      case rel =>
        refine ⟨i + 1, q / 65536, O ++ [q % 65536], by go_num, val_int (by omega), by simp [HO.out], hdn, by omega, by omega, Hst.out, ?_, hb1 _ _ (Nat.le_refl _) (bdr hbr _)⟩
        have e : vD (O ++ [q % 65536]) = vD O ++ [Value.int .u64 ((q : Int) % 65536)] := by simp [vD]
        rw [e]
        exact hown1
      case measure => simp [intOf]; omega
    ·
      clear az bz
      have Hd1 := Lib.hid D1; clear D1
      have Hd2 := Lib.hid D2; clear D2
      have Hst := Lib.hid hst; clear hst
      have Hv := Lib.hid hv; clear hv
      have HO := Lib.hid hO; clear hO
      have Hq := Lib.hid hq; clear hq
      clear ha hb hml
      go_wp2_with fail
      go_quiet ((go_at_call 50; first | (with_reducible exact Calls.quiet_of_same (Hd1.out _ (bdr bwr _))) | (with_reducible exact Calls.quiet_of_same (Hd2.out _ (bdr bwr _)))))
      go_wp2_with (at_builtin; refine wpList_push rfl _ _ 50 rfl (w.heap.size + 3) 54 i0 (.int .u64 0) 1 8 Tryz.underlying50 hi0 hz0 hz1 hz2 rfl (by decide) u5 i _ rfl hown rfl rfl rfl H1 (by omega) (by omega) zr ?_; intro v1 w1 hown1 hb1)
      go_roundw
      case rel =>
        refine ⟨i + 1, q / 65536, O ++ [q % 65536], by go_num, val_int (by omega), by simp [HO.out], hdn, by omega, by omega, Hst.out, ?_, hb1 _ _ (Nat.le_refl _) (bdr hbr _)⟩
        have e : vD (O ++ [q % 65536]) = vD O ++ [Value.int .u64 ((q : Int) % 65536)] := by simp [vD]
        rw [e]
        exact hown1
      case measure => simp [intOf]; omega
    ·
      have a0 := az (by omega)
      have b0 := bz (by omega)
      have q01 : q ≤ 1 := by omega
      clear az bz a0 b0
      have Hd1 := Lib.hid D1; clear D1
      have Hd2 := Lib.hid D2; clear D2
      have Hst := Lib.hid hst; clear hst
      have Hv := Lib.hid hv; clear hv
      have HO := Lib.hid hO; clear hO
      have Hq := Lib.hid hq; clear hq
      clear ha hb hml
      go_wp2_with fail
      go_quiet ((go_at_call 50; first | (with_reducible exact Calls.quiet_of_same (Hd1.out _ (bdr bwr _))) | (with_reducible exact Calls.quiet_of_same (Hd2.out _ (bdr bwr _)))))
      go_wp2_with (at_builtin; refine wpList_push rfl _ _ 50 rfl (w.heap.size + 3) 54 i0 (.int .u64 0) 1 8 Tryz.underlying50 hi0 hz0 hz1 hz2 rfl (by decide) u5 i _ rfl hown rfl rfl rfl H1 (by omega) (by omega) zr ?_; intro v1 w1 hown1 hb1)
      go_roundw
      case rel =>
        refine ⟨i + 1, q / 65536, O ++ [q % 65536], by go_num, val_int (by omega), by simp [HO.out], hdn, by omega, by omega, Hst.out, ?_, hb1 _ _ (Nat.le_refl _) (bdr hbr _)⟩
        have e : vD (O ++ [q % 65536]) = vD O ++ [Value.int .u64 ((q : Int) % 65536)] := by simp [vD]
        rw [e]
        exact hown1
      case measure => simp [intOf]; omega
    · subst hcc
      have hd1 : l.drop i = [] := List.drop_eq_nil_of_le (by rw [Hl.out]; omega)
      have hd2 : l'.drop i = [] := List.drop_eq_nil_of_le (by rw [Hl'.out]; omega)
      rw [hd1, hd2] at hv
      have hv2 : dv O = dv l + dv l' := by simpa [dv] using hv
      have Hv := Lib.hid hv2
      have HO := Lib.hid hO
      obtain ⟨A5, c5, rfl, hc5⟩ := own_form hown
      have k0 := hbr.cell (p := ⟨w.heap.size + 1 + 1, 0, none⟩) (by simp)
      have k1 := hbr.cell (p := ⟨w.heap.size + 1 + 1, 1, none⟩) (by simp)
      have k2 := hbr.frozen (p := ⟨w.heap.size + 1 + 1, 0, none⟩) (by simp)
      have k3 := hbr.frozen (p := ⟨w.heap.size + 1 + 1, 1, none⟩) (by simp)
      clear D1 D2 hst hv hv2 hO hq ha hb hd1 hd2 hml H1 e1 az bz
      go_wp2
      refine bodyPost_ret (v := .agg #[.int .i64 1, .slice A5 i c5]) (by simp [results, Tryz.results36, go_sem, k0, k1]) rfl ⟨_, rfl, ⟨A5, i, c5, O, rfl, ?_, hc5, by omega, hdO, Hv.out, HO.out⟩, ?_⟩
      · exact Reads.of_own (ownsRow_setCell_below (ownsRow_setCell_below hown (by show w.heap.size + 1 + 1 < w.heap.size + 3; omega) _) (by show w.heap.size + 1 + 1 < w.heap.size + 3; omega) _)
      · exact (bwr.setCell (p := ⟨w.heap.size + 1 + 1, 0, none⟩) (by show w.heap.size ≤ w.heap.size + 1 + 1; omega) _).setCell (p := ⟨w.heap.size + 1 + 1, 1, none⟩) (by show w.heap.size ≤ w.heap.size + 1 + 1; omega) _

end Go.Proofs.YthpggfcindnlcaaGreatDoor
