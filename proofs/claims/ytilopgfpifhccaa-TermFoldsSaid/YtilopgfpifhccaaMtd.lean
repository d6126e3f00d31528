/-
  Several texts in one: Nb Nc Nd.
-/
import Derived.Test.YtilopgfpifhccaaMtc
import Derived.Test.YtilopgfpifhccaaRows
import Derived.Deep.QuietTactic
import Derived.BigQuiet
import Derived.IntWalk
import Derived.WalkSpells
import Derived.WalkLawsBesides
/-
  Contracts of the reference's numbers: digit, size.
-/
namespace Go.Proofs.Ytilopgfpifhccaa
section
set_option linter.unusedSimpArgs false
set_option linter.unusedVariables false
open Go.RowKit

theorem Try.infoU64 : (Try.prog.info? 85).map (fun i => (i.zero, i.size, i.bytes)) = some (some (.int .u64 0), 1, 8) := by kernel_rfl

set_option maxHeartbeats 400000 in
theorem digit_any (A : Option Addr) (n c : Nat) (l : List Nat) (i : Nat) (w : World) (B : Nat) (hr : Reads w B 1 A n (vD l)) (_hn : n ≤ 1000000) (_hi : i ≤ 1000000) :
    Calls Try.prog 66 #[.slice A n c, .int .i64 i] w fun e w' => e = .returned (.int .u64 (dg l i : Nat)) ∧ w = w' := by
  have hl : l.length = n := by have := hr.1; rw [vD_len] at this; omega
  unfold dg
  by_cases h : i < n
  · obtain ⟨ad, u, rfl, _, hx, hc⟩ := hr.at_ h
    obtain ⟨d, hd, rfl⟩ := vD_at hx
    rw [hd]
    clear hx hr hd
    go_enter Try.func66, Try.ntmps66
    go_wp2
    go_ret
    exact ⟨rfl, rfl⟩
  · rw [List.getElem?_eq_none (by omega)]
    have Hr := Lib.hid hr; clear hr hl
    go_enter Try.func66, Try.ntmps66
    go_wp2
    go_ret
    exact ⟨rfl, rfl⟩
theorem digit_quiet (A : Option Addr) (n c : Nat) (l : List Nat) (i : Nat) (w : World) (B : Nat) (hr : Reads w B 1 A n (vD l)) (hn : n ≤ 1000000) (hi : i ≤ 1000000) :
    Calls Try.prog 66 #[.slice A n c, .int .i64 i] w fun e w' => e = .returned (.int .u64 (dg l i : Nat)) ∧ w' = w :=
  (digit_any A n c l i w B hr hn hi).mono fun _ _ ⟨h1, h2⟩ => ⟨h1, h2.symm⟩

set_option maxHeartbeats 2000000 in
theorem size_any (sa sb : Int) (A : Option Addr) (n c : Nat) (l : List Nat) (A' : Option Addr) (n' c' : Nat) (l' : List Nat) (w : World)
    (hr : Reads w w.heap.size 1 A n (vD l)) (hr' : Reads w w.heap.size 1 A' n' (vD l')) (hok : dok l) (hok' : dok l') (hn : n ≤ 10000) (hn' : n' ≤ 10000) (_hnc : n ≤ c) (_hnc' : n' ≤ c') :
    Calls Try.prog 57 #[.agg #[.int .i64 sa, .slice A n c], .agg #[.int .i64 sb, .slice A' n' c']] w (RetN w 1 (dv l + dv l') (max n n' + 1)) := by
  obtain ⟨i0, hi0, hz0, hz1, hz2⟩ := int_info8 Try.infoU64
  have hl : l.length = n := by have := hr.1; rw [vD_len] at this; omega
  have hl' : l'.length = n' := by have := hr'.1; rw [vD_len] at this; omega
  have Hl := Lib.hid hl; clear hl
  have Hl' := Lib.hid hl'; clear hl'
  have Hok := Lib.hid hok; clear hok
  have Hok' := Lib.hid hok'; clear hok'
  go_enter Try.func57, Try.ntmps57
  have hW3 : Below w.heap.size w (((w.alloc (.cells #[.int .i64 sa, .slice A n c] 73)).alloc (.cells #[.int .i64 sb, .slice A' n' c'] 73)).alloc (.cells #[.int .i64 0, .slice none 0 0] 73)) := ball (ball (ball (Below.refl _ _) _) _) _
  go_wp2
  go_loopw [5, 6, 7] (fun v5 v6 v7 wr => ∃ (i cy : Nat) (O : List Nat), v7 = .int .i64 i ∧ v6 = .int .u64 cy ∧ O.length = i ∧ dok O ∧ cy ≤ 1 ∧ (i ≤ max n n' ∨ (i = max n n' + 1 ∧ cy = 0)) ∧
      dv O + 65536 ^ i * (cy + dv (l.drop i) + dv (l'.drop i)) = dv l + dv l' ∧ wr.ownsRow (w.heap.size + 3) 85 1 v5 i (vD O) ∧
      Below (w.heap.size + 3) (((w.alloc (.cells #[.int .i64 sa, .slice A n c] 73)).alloc (.cells #[.int .i64 sb, .slice A' n' c'] 73)).alloc (.cells #[.int .i64 0, .slice none 0 0] 73)) wr) (fun _ _ v7 _ => max n n' + 2 - (intOf v7).toNat)
  case atStart =>
    refine ⟨0, 0, [], rfl, rfl, rfl, by intro x hx; simp at hx, by omega, by omega, by simp [dv], ?_, ?_⟩
    · have h0 := own_empty (((w.alloc (.cells #[.int .i64 sa, .slice A n c] 73)).alloc (.cells #[.int .i64 sb, .slice A' n' c'] 73)).alloc (.cells #[.int .i64 0, .slice none 0 0] 73)) 85 1 rfl
      have hz : (((w.alloc (.cells #[.int .i64 sa, .slice A n c] 73)).alloc (.cells #[.int .i64 sb, .slice A' n' c'] 73)).alloc (.cells #[.int .i64 0, .slice none 0 0] 73)).heap.size = w.heap.size + 3 := by simp
      rw [hz] at h0
      exact h0
    · exact (Below.refl _ _).alloc (by simp) _
  case round =>
    obtain ⟨i, cy, O, rfl, rfl, hO, hdO, hcy, hi, hv, hown, hbr⟩ := hrel
    have zr : w.heap.size + 3 ≤ wr.heap.size := by simpa using hbr.size
    have a1 := hbr.cell (p := ⟨w.heap.size, 1, none⟩) (by simp)
    have b1 := hbr.cell (p := ⟨w.heap.size + 1, 1, none⟩) (by simp)
    have bwr := hW3.trans (hbr.mono (by omega))
    have q1 := (hr.below bwr)
    have q2 := (hr'.below bwr)
    have hc : i < n ∨ (¬ i < n ∧ i < n') ∨ (¬ i < n ∧ ¬ i < n' ∧ 0 < cy) ∨ (¬ i < n ∧ ¬ i < n' ∧ cy = 0) := by omega
    obtain ⟨a, ha⟩ : ∃ a, dg l i = a := ⟨_, rfl⟩
    obtain ⟨b, hb⟩ : ∃ b, dg l' i = b := ⟨_, rfl⟩
    have ha2 := dg_lt Hok.out i
    have hb2 := dg_lt Hok'.out i
    rw [ha] at ha2
    rw [hb] at hb2
    obtain ⟨q, hq⟩ : ∃ q, a + b + cy = q := ⟨_, rfl⟩
    have hst := size_step hO hv ha hb hq
    have hdn := dok_snoc hdO (Nat.mod_lt q (by omega : 0 < 65536))
    have D1 := fun W (h : Below w.heap.size w W) => digit_quiet A n c l i W w.heap.size (hr.below h) (by omega) (by omega)
    have D2 := fun W (h : Below w.heap.size w W) => digit_quiet A' n' c' l' i W w.heap.size (hr'.below h) (by omega) (by omega)
    rw [ha] at D1
    rw [hb] at D2
    have hq2 : q ≤ 131071 := by omega
    have e1 : ((a : Int) + (b : Int) + (cy : Int)) = (q : Int) := by omega
    have H1 : ∀ u ∈ [Value.int .u64 ((q : Int) % 65536)], u.oneCell' = true := by simp [Value.oneCell']
    have hml := hown.2
    have az : n ≤ i → a = 0 := fun h => by rw [← ha]; exact dg_out (by rw [Hl.out]; omega)
    have bz : n' ≤ i → b = 0 := fun h => by rw [← hb]; exact dg_out (by rw [Hl'.out]; omega)
    rcases hc with hc | ⟨hc, hc'⟩ | ⟨hc, hc', hcc⟩ | ⟨hc, hc', hcc⟩
    ·
      clear az bz
      have Hd1 := Lib.hid D1; clear D1
      have Hd2 := Lib.hid D2; clear D2
      have Hst := Lib.hid hst; clear hst
      have Hv := Lib.hid hv; clear hv
      have HO := Lib.hid hO; clear hO
      have Hq := Lib.hid hq; clear hq
      clear ha hb hml
      go_wp2_with fail
      go_quiet ((go_at_call 66; first | (with_reducible exact Calls.quiet_of_same (Hd1.out _ (bdr bwr _))) | (with_reducible exact Calls.quiet_of_same (Hd2.out _ (bdr bwr _)))))
      go_wp2_with (at_builtin; refine wpList_push rfl _ _ 71 rfl (w.heap.size + 3) 85 i0 (.int .u64 0) 1 8 Try.underlying71 hi0 hz0 hz1 hz2 rfl (by decide) u5 i _ rfl hown rfl rfl rfl H1 (by omega) (by omega) zr ?_; intro v1 w1 hown1 hb1)
      go_roundw
      case rel =>
        refine ⟨i + 1, q / 65536, O ++ [q % 65536], by go_num, val_int (by omega), by simp [HO.out], hdn, by omega, by omega, Hst.out, ?_, hb1 _ _ (Nat.le_refl _) (bdr hbr _)⟩
        have e : vD (O ++ [q % 65536]) = vD O ++ [Value.int .u64 ((q : Int) % 65536)] := by simp [vD]
        rw [e]
        exact hown1
      case measure => simp [intOf]; omega
    ·
      clear az bz
      have Hd1 := Lib.hid D1; clear D1
      have Hd2 := Lib.hid D2; clear D2
      have Hst := Lib.hid hst; clear hst
      have Hv := Lib.hid hv; clear hv
      have HO := Lib.hid hO; clear hO
      have Hq := Lib.hid hq; clear hq
      clear ha hb hml
      go_wp2_with fail
      go_quiet ((go_at_call 66; first | (with_reducible exact Calls.quiet_of_same (Hd1.out _ (bdr bwr _))) | (with_reducible exact Calls.quiet_of_same (Hd2.out _ (bdr bwr _)))))
      go_wp2_with (at_builtin; refine wpList_push rfl _ _ 71 rfl (w.heap.size + 3) 85 i0 (.int .u64 0) 1 8 Try.underlying71 hi0 hz0 hz1 hz2 rfl (by decide) u5 i _ rfl hown rfl rfl rfl H1 (by omega) (by omega) zr ?_; intro v1 w1 hown1 hb1)
      go_roundw
      case rel =>
        refine ⟨i + 1, q / 65536, O ++ [q % 65536], by go_num, val_int (by omega), by simp [HO.out], hdn, by omega, by omega, Hst.out, ?_, hb1 _ _ (Nat.le_refl _) (bdr hbr _)⟩
        have e : vD (O ++ [q % 65536]) = vD O ++ [Value.int .u64 ((q : Int) % 65536)] := by simp [vD]
        rw [e]
        exact hown1
      case measure => simp [intOf]; omega
    ·
      have a0 := az (by omega)
      have b0 := bz (by omega)
      have q01 : q ≤ 1 := by omega
      clear az bz a0 b0
      have Hd1 := Lib.hid D1; clear D1
      have Hd2 := Lib.hid D2; clear D2
      have Hst := Lib.hid hst; clear hst
      have Hv := Lib.hid hv; clear hv
      have HO := Lib.hid hO; clear hO
      have Hq := Lib.hid hq; clear hq
      clear ha hb hml
      go_wp2_with fail
      go_quiet ((go_at_call 66; first | (with_reducible exact Calls.quiet_of_same (Hd1.out _ (bdr bwr _))) | (with_reducible exact Calls.quiet_of_same (Hd2.out _ (bdr bwr _)))))
      go_wp2_with (at_builtin; refine wpList_push rfl _ _ 71 rfl (w.heap.size + 3) 85 i0 (.int .u64 0) 1 8 Try.underlying71 hi0 hz0 hz1 hz2 rfl (by decide) u5 i _ rfl hown rfl rfl rfl H1 (by omega) (by omega) zr ?_; intro v1 w1 hown1 hb1)
      go_roundw
      case rel =>
        refine ⟨i + 1, q / 65536, O ++ [q % 65536], by go_num, val_int (by omega), by simp [HO.out], hdn, by omega, by omega, Hst.out, ?_, hb1 _ _ (Nat.le_refl _) (bdr hbr _)⟩
        have e : vD (O ++ [q % 65536]) = vD O ++ [Value.int .u64 ((q : Int) % 65536)] := by simp [vD]
        rw [e]
        exact hown1
      case measure => simp [intOf]; omega
    · subst hcc
      have hd1 : l.drop i = [] := List.drop_eq_nil_of_le (by rw [Hl.out]; omega)
      have hd2 : l'.drop i = [] := List.drop_eq_nil_of_le (by rw [Hl'.out]; omega)
      rw [hd1, hd2] at hv
      have hv2 : dv O = dv l + dv l' := by simpa [dv] using hv
      have Hv := Lib.hid hv2
      have HO := Lib.hid hO
      obtain ⟨A5, c5, rfl, hc5⟩ := own_form hown
      have k0 := hbr.cell (p := ⟨w.heap.size + 1 + 1, 0, none⟩) (by simp)
      have k1 := hbr.cell (p := ⟨w.heap.size + 1 + 1, 1, none⟩) (by simp)
      have k2 := hbr.frozen (p := ⟨w.heap.size + 1 + 1, 0, none⟩) (by simp)
      have k3 := hbr.frozen (p := ⟨w.heap.size + 1 + 1, 1, none⟩) (by simp)
      clear D1 D2 hst hv hv2 hO hq ha hb hd1 hd2 hml H1 e1 az bz
      go_wp2
      refine bodyPost_ret (v := .agg #[.int .i64 1, .slice A5 i c5]) (by simp [results, Try.results57, go_sem, k0, k1]) rfl ⟨_, rfl, ⟨A5, i, c5, O, rfl, ?_, hc5, by omega, hdO, Hv.out, HO.out⟩, ?_⟩
      · exact Reads.of_own (ownsRow_setCell_below (ownsRow_setCell_below hown (by show w.heap.size + 1 + 1 < w.heap.size + 3; omega) _) (by show w.heap.size + 1 + 1 < w.heap.size + 3; omega) _)
      · exact (bwr.setCell (p := ⟨w.heap.size + 1 + 1, 0, none⟩) (by show w.heap.size ≤ w.heap.size + 1 + 1; omega) _).setCell (p := ⟨w.heap.size + 1 + 1, 1, none⟩) (by show w.heap.size ≤ w.heap.size + 1 + 1; omega) _
end
end Go.Proofs.Ytilopgfpifhccaa
/-
  Contracts of the reference's numbers: Whole, Less, apart.
-/
namespace Go.Proofs.Ytilopgfpifhccaa
section
set_option linter.unusedSimpArgs false
set_option linter.unusedVariables false
open Go.RowKit

set_option maxRecDepth 100000 in
set_option maxHeartbeats 2000000 in
theorem whole_any (N : Nat) (hN : N < 18446744073709551616) (w : World) :
    Calls Try.prog 56 #[.int .u64 N] w (RetN w 1 N 4) := by
  obtain ⟨i0, hi0, hz0, hz1, hz2⟩ := int_info8 Try.infoU64
  have hW1 : Below w.heap.size w (w.alloc (.cells #[.int .i64 0, .slice none 0 0] 73)) := ball (Below.refl _ _) _
  go_enter Try.func56, Try.ntmps56
  go_wp2
  go_loopw [0, 3, 4] (fun v0 v3 v4 wr => ∃ (i x : Nat) (O : List Nat), v0 = .int .u64 x ∧ v4 = .int .i64 i ∧ i ≤ 4 ∧ O.length = i ∧ dok O ∧ x ≤ N ∧ dv O + 65536 ^ i * x = N ∧ wr.ownsRow (w.heap.size + 1) 85 1 v3 i (vD O) ∧
      Below (w.heap.size + 1) (w.alloc (.cells #[.int .i64 0, .slice none 0 0] 73)) wr) (fun _ _ v4 _ => 4 - (intOf v4).toNat)
  case atStart =>
    refine ⟨0, N, [], rfl, rfl, by omega, rfl, by intro x hx; simp at hx, by omega, by simp [dv], ?_, ?_⟩
    · have h0 := own_empty (w.alloc (.cells #[.int .i64 0, .slice none 0 0] 73)) 85 1 rfl
      have hz : (w.alloc (.cells #[.int .i64 0, .slice none 0 0] 73)).heap.size = w.heap.size + 1 := by simp
      rw [hz] at h0
      exact h0
    · exact (Below.refl _ _).alloc (by simp) _
  case round =>
    obtain ⟨i, x, O, rfl, rfl, hi, hO, hdO, hx, hv, hown, hbr⟩ := hrel
    have zr : w.heap.size + 1 ≤ wr.heap.size := by simpa using hbr.size
    have bwr := hW1.trans (hbr.mono (by omega))
    by_cases hlt : i < 4
    · have hst := whole_step hO hv
      have Hdn := Lib.hid (dok_snoc hdO (Nat.mod_lt x (by omega : 0 < 65536)))
      have H1 : ∀ u ∈ [Value.int .u64 ((x : Int) % 65536)], u.oneCell' = true := by simp [Value.oneCell']
      have Hst := Lib.hid hst; clear hst
      have HO := Lib.hid hO; clear hO
      clear hv
      have hN2 : (x : Int) ≤ 18446744073709551615 := by omega
      go_wp2_with (at_builtin; refine wpList_push rfl _ _ 71 rfl (w.heap.size + 1) 85 i0 (.int .u64 0) 1 8 Try.underlying71 hi0 hz0 hz1 hz2 rfl (by decide) u3 i _ rfl hown rfl rfl rfl H1 (by omega) (by omega) zr ?_; intro v1 w1 hown1 hb1)
      go_roundw
      case rel =>
        refine ⟨i + 1, x / 65536, O ++ [x % 65536], val_int (by omega), by go_num, by omega, by simp [HO.out], Hdn.out, by omega, Hst.out, ?_, hb1 _ _ (Nat.le_refl _) hbr⟩
        have e : vD (O ++ [x % 65536]) = vD O ++ [Value.int .u64 ((x : Int) % 65536)] := by simp [vD]
        rw [e]
        exact hown1
      case measure => simp [intOf]; omega
    · have hi4 : i = 4 := by omega
      subst hi4
      have hx0 : x = 0 := by
        have := Nat.le_add_left (65536 ^ 4 * x) (dv O)
        rw [hv] at this
        have h4 : (65536 : Nat) ^ 4 = 18446744073709551616 := by decide
        rw [h4] at this
        omega
      subst hx0
      have Hv := Lib.hid (show dv O = N by simpa using hv)
      have HO := Lib.hid hO
      obtain ⟨A3, c3, rfl, hc3⟩ := own_form hown
      have k0 := hbr.cell (p := ⟨w.heap.size, 0, none⟩) (by simp)
      have k1 := hbr.cell (p := ⟨w.heap.size, 1, none⟩) (by simp)
      have k2 := hbr.frozen (p := ⟨w.heap.size, 0, none⟩) (by simp)
      have k3 := hbr.frozen (p := ⟨w.heap.size, 1, none⟩) (by simp)
      clear hv hO
      go_wp2
      refine bodyPost_ret (v := .agg #[.int .i64 1, .slice A3 4 c3]) (by simp [results, Try.results56, go_sem, k0, k1]) rfl ⟨_, rfl, ⟨A3, 4, c3, O, rfl, ?_, hc3, by omega, hdO, Hv.out, HO.out⟩, ?_⟩
      · exact Reads.of_own (ownsRow_setCell_below (ownsRow_setCell_below hown (by show w.heap.size < w.heap.size + 1; omega) _) (by show w.heap.size < w.heap.size + 1; omega) _)
      · exact (bwr.setCell (p := ⟨w.heap.size, 0, none⟩) (Nat.le_refl _) _).setCell (p := ⟨w.heap.size, 1, none⟩) (Nat.le_refl _) _

set_option maxRecDepth 100000 in
set_option maxHeartbeats 2000000 in
theorem rless_n (sa sb : Int) (A : Option Addr) (n c : Nat) (l : List Nat) (A' : Option Addr) (n' c' : Nat) (l' : List Nat) (w : World)
    (hr : Reads w w.heap.size 1 A n (vD l)) (hr' : Reads w w.heap.size 1 A' n' (vD l')) (hok : dok l) (hok' : dok l') (hn : n ≤ 10000) (hn' : n' ≤ 10000) :
    Calls Try.prog 55 #[.agg #[.int .i64 sa, .slice A n c], .agg #[.int .i64 sb, .slice A' n' c']] w (RetB w (.bool (decide (dv l < dv l')))) := by
  have hl : l.length = n := by have := hr.1; rw [vD_len] at this; omega
  have hl' : l'.length = n' := by have := hr'.1; rw [vD_len] at this; omega
  have hw2 : Below w.heap.size w ((w.alloc (.cells #[.int .i64 sa, .slice A n c] 73)).alloc (.cells #[.int .i64 sb, .slice A' n' c'] 73)) := ball (ball (Below.refl _ _) _) _
  have q1 := hr.below hw2
  have q2 := hr'.below hw2
  obtain ⟨M, hM1, hM2, hM3⟩ : ∃ M : Nat, n ≤ M ∧ n' ≤ M ∧ (M ≤ n ∨ M ≤ n') := ⟨max n n', by omega, by omega, by omega⟩
  have hd0 : l.drop M = [] := List.drop_eq_nil_of_le (by omega)
  have hd0' : l'.drop M = [] := List.drop_eq_nil_of_le (by omega)
  have Hl := Lib.hid hl; clear hl
  have Hl' := Lib.hid hl'; clear hl'
  have Hok := Lib.hid hok; clear hok
  have Hok' := Lib.hid hok'; clear hok'
  have Hd := Lib.hid (show dv (l.drop M) = dv (l'.drop M) by rw [hd0, hd0'])
  clear hd0 hd0'
  have hs : n < n' ∨ n' ≤ n := by omega
  rcases hs with hs | hs
  all_goals
    go_enter Try.func55, Try.ntmps55
    go_wp2
    go_loopw [5] (fun v wr => ∃ (k : Nat), v = .int .i64 ((k : Int) - 1) ∧ k ≤ M ∧ dv (l.drop k) = dv (l'.drop k) ∧ ∃ m, wr = ((w.alloc (.cells #[.int .i64 sa, .slice A n c] 73)).alloc (.cells #[.int .i64 sb, .slice A' n' c'] 73)).drewN m) (fun v _ => (intOf v + 1).toNat)
    case atStart => exact ⟨M, val_int (by omega), Nat.le_refl _, Hd.out, 0, rfl⟩
    case round =>
      obtain ⟨k, rfl, hk, he, m, rfl⟩ := hrel
      rcases Nat.eq_zero_or_pos k with rfl | hpos
      · have Hf := Lib.hid (less_eq he)
        clear he
        go_wp2
        go_ret
        exact ⟨ret_bool Hf.out.symm, bdr hw2 _⟩
      · obtain ⟨j, rfl⟩ : ∃ j, k = j + 1 := ⟨k - 1, by omega⟩
        have ej : (((j + 1 : Nat) : Int) - 1) = (j : Int) := by omega
        rw [ej]
        clear ej
        have D1 := fun W (h : Below w.heap.size w W) => digit_quiet A n c l j W w.heap.size (hr.below h) (by omega) (by omega)
        have D2 := fun W (h : Below w.heap.size w W) => digit_quiet A' n' c' l' j W w.heap.size (hr'.below h) (by omega) (by omega)
        by_cases hq : dg l j = dg l' j
        · have he2 : dv (l.drop j) = dv (l'.drop j) := by rw [dv_dg l j, dv_dg l' j, hq, he]
          have He := Lib.hid he2
          rw [hq] at D1
          clear he he2 hq
          obtain ⟨a, ha⟩ : ∃ a, dg l' j = a := ⟨_, rfl⟩
          rw [ha] at D1 D2
          clear ha
          have Hd1 := Lib.hid D1; clear D1
          have Hd2 := Lib.hid D2; clear D2
          go_wp2_with fail
          go_quiet ((go_at_call 66; first | (with_reducible exact quiet_add_same (Hd1.out _ (bdr hw2 _))) | (with_reducible exact quiet_add_same (Hd2.out _ (bdr hw2 _)))))
          go_wp2
          go_roundw
          case rel => exact ⟨j, by go_num, by omega, He.out, _, rfl⟩
          case measure => simp [intOf]
        · have hf := less_at Hok.out Hok'.out he hq
          have hne : ((dg l j : Int) != (dg l' j : Int)) = true := by rw [bne_iff_ne]; omega
          obtain ⟨a, ha⟩ : ∃ a, dg l j = a := ⟨_, rfl⟩
          obtain ⟨b, hb⟩ : ∃ b, dg l' j = b := ⟨_, rfl⟩
          rw [ha] at D1 hf hne
          rw [hb] at D2 hf hne
          have Hf := Lib.hid hf
          clear he hq hf ha hb
          have Hd1 := Lib.hid D1; clear D1
          have Hd2 := Lib.hid D2; clear D2
          go_wp2_with fail
          go_quiet ((go_at_call 66; first | (with_reducible exact quiet_add_same (Hd1.out _ (bdr hw2 _))) | (with_reducible exact quiet_add_same (Hd2.out _ (bdr hw2 _)))))
          go_wp2_with fail
          go_quiet ((go_at_call 66; first | (with_reducible exact quiet_add_same (Hd1.out _ (bdr hw2 _))) | (with_reducible exact quiet_add_same (Hd2.out _ (bdr hw2 _)))))
          go_wp2
          go_ret
          refine ⟨ret_bool ?_, ?_⟩
          · rw [Hf.out]
          · first | exact bdr hw2 _ | exact bdr (bdr hw2 _) _ | exact bdr (bdr (bdr hw2 _) _) _
end
end Go.Proofs.Ytilopgfpifhccaa
/-
  Contracts of the reference's numbers: apart.
-/
namespace Go.Proofs.Ytilopgfpifhccaa
section
set_option linter.unusedSimpArgs false
set_option linter.unusedVariables false
open Go.RowKit

set_option maxRecDepth 100000 in
set_option maxHeartbeats 2000000 in
theorem apart_any (sa sb : Int) (A : Option Addr) (n c : Nat) (l : List Nat) (A' : Option Addr) (n' c' : Nat) (l' : List Nat) (w : World)
    (hr : Reads w w.heap.size 1 A n (vD l)) (hr' : Reads w w.heap.size 1 A' n' (vD l')) (hok : dok l) (hok' : dok l') (hn : n ≤ 10000) (hn' : n' ≤ 10000) (hle : dv l' ≤ dv l) :
    Calls Try.prog 67 #[.agg #[.int .i64 sa, .slice A n c], .agg #[.int .i64 sb, .slice A' n' c']] w (RetN w 1 (dv l - dv l') n) := by
  obtain ⟨i0, hi0, hz0, hz1, hz2⟩ := int_info8 Try.infoU64
  have hl : l.length = n := by have := hr.1; rw [vD_len] at this; omega
  have Hl := Lib.hid hl; clear hl
  have Hok := Lib.hid hok; clear hok
  have Hok' := Lib.hid hok'; clear hok'
  have Hle := Lib.hid hle; clear hle
  have hW3 : Below w.heap.size w (((w.alloc (.cells #[.int .i64 sa, .slice A n c] 73)).alloc (.cells #[.int .i64 sb, .slice A' n' c'] 73)).alloc (.cells #[.int .i64 0, .slice none 0 0] 73)) := ball (ball (ball (Below.refl _ _) _) _) _
  go_enter Try.func67, Try.ntmps67
  go_wp2
  go_loopw [5, 6, 13] (fun v5 v6 v7 wr => ∃ (i br : Nat) (O : List Nat), v7 = .int .i64 i ∧ v6 = .int .u64 br ∧ i ≤ n ∧ O.length = i ∧ dok O ∧ br ≤ 1 ∧
      dv O + low l' i = low l i + br * 65536 ^ i ∧ wr.ownsRow (w.heap.size + 3) 85 1 v5 i (vD O) ∧
      Below (w.heap.size + 3) (((w.alloc (.cells #[.int .i64 sa, .slice A n c] 73)).alloc (.cells #[.int .i64 sb, .slice A' n' c'] 73)).alloc (.cells #[.int .i64 0, .slice none 0 0] 73)) wr) (fun _ _ v7 _ => n - (intOf v7).toNat)
  case atStart =>
    refine ⟨0, 0, [], rfl, rfl, by omega, rfl, by intro x hx; simp at hx, by omega, by simp [dv, low_zero], ?_, ?_⟩
    · have h0 := own_empty (((w.alloc (.cells #[.int .i64 sa, .slice A n c] 73)).alloc (.cells #[.int .i64 sb, .slice A' n' c'] 73)).alloc (.cells #[.int .i64 0, .slice none 0 0] 73)) 85 1 rfl
      have hz : (((w.alloc (.cells #[.int .i64 sa, .slice A n c] 73)).alloc (.cells #[.int .i64 sb, .slice A' n' c'] 73)).alloc (.cells #[.int .i64 0, .slice none 0 0] 73)).heap.size = w.heap.size + 3 := by simp
      rw [hz] at h0
      exact h0
    · exact (Below.refl _ _).alloc (by simp) _
  case round =>
    obtain ⟨i, br, O, rfl, rfl, hi, hO, hdO, hbr1, hv, hown, hbr⟩ := hrel
    have zr : w.heap.size + 3 ≤ wr.heap.size := by simpa using hbr.size
    have bwr := hW3.trans (hbr.mono (by omega))
    by_cases hlt : i < n
    · obtain ⟨ad, u, rfl, _, hx, hc⟩ := (hr.below bwr).at_ hlt
      obtain ⟨a, ha1, rfl⟩ := vD_at hx
      have ha : dg l i = a := by unfold dg; rw [ha1]; rfl
      obtain ⟨b, hb⟩ : ∃ b, dg l' i = b := ⟨_, rfl⟩
      have ha2 := dg_lt Hok.out i
      have hb2 := dg_lt Hok'.out i
      rw [ha] at ha2
      rw [hb] at hb2
      obtain ⟨q, hq⟩ : ∃ q, q + b + br = a + 65536 := ⟨a + 65536 - b - br, by omega⟩
      have hst := apart_step (A := l) (B := l') hO hv hbr1 (by omega) (by omega) (by rw [ha, hb]; exact hq)
      have Hdn := Lib.hid (dok_snoc hdO (Nat.mod_lt q (by omega : 0 < 65536)))
      have D2 := fun W (h : Below w.heap.size w W) => digit_quiet A' n' c' l' i W w.heap.size (hr'.below h) (by omega) (by omega)
      rw [hb] at D2
      have Hd2 := Lib.hid D2; clear D2
      have hq2 : q ≤ 131071 := by omega
      have e1 : ((a : Int) + 65536 - (b : Int) - (br : Int)) = (q : Int) := by omega
      have g1 : (0 : Int) ≤ (i : Int) := by omega
      have g2 : (i : Int) < (n : Int) := by omega
      have H1 : ∀ u ∈ [Value.int .u64 ((q : Int) % 65536)], u.oneCell' = true := by simp [Value.oneCell']
      have a1 := hbr.cell (p := ⟨w.heap.size, 1, none⟩) (by simp)
      have b1 := hbr.cell (p := ⟨w.heap.size + 1, 1, none⟩) (by simp)
      have Hst := Lib.hid hst.1
      have hq1 := hst.2
      have Hq1 : q / 65536 = 0 ∨ q / 65536 = 1 := by omega
      clear hst hv ha hb ha1 hx hr
      have HO := Lib.hid hO; clear hO
      have Hq := Lib.hid hq; clear hq
      go_wp2_with fail
      go_quiet ((go_at_call 66; first | (with_reducible exact Calls.quiet_of_same (Hd2.out _ (bdr bwr _)))))
      go_wp2_with (at_builtin; refine wpList_push rfl _ _ 71 rfl (w.heap.size + 3) 85 i0 (.int .u64 0) 1 8 Try.underlying71 hi0 hz0 hz1 hz2 rfl (by decide) u5 i _ rfl hown rfl rfl rfl H1 (by omega) (by omega) zr ?_; intro v1 w1 hown1 hb1)
      go_roundw
      case rel =>
        refine ⟨i + 1, 1 - q / 65536, O ++ [q % 65536], by go_num, val_int (by omega), by omega, by simp [HO.out], Hdn.out, by omega, Hst.out, ?_, hb1 _ _ (Nat.le_refl _) (bdr hbr _)⟩
        have e : vD (O ++ [q % 65536]) = vD O ++ [Value.int .u64 ((q : Int) % 65536)] := by simp [vD]
        rw [e]
        exact hown1
      case measure => simp [intOf]; omega
    · have hin : i = n := by omega
      subst hin
      have hfin := apart_end (by rw [Hl.out]) hO hdO Hok.out hv Hle.out
      have Hv := Lib.hid hfin
      have HO := Lib.hid hO
      obtain ⟨A5, c5, rfl, hc5⟩ := own_form hown
      have k0 := hbr.cell (p := ⟨w.heap.size + 1 + 1, 0, none⟩) (by simp)
      have k1 := hbr.cell (p := ⟨w.heap.size + 1 + 1, 1, none⟩) (by simp)
      have k2 := hbr.frozen (p := ⟨w.heap.size + 1 + 1, 0, none⟩) (by simp)
      have k3 := hbr.frozen (p := ⟨w.heap.size + 1 + 1, 1, none⟩) (by simp)
      clear hv hO hfin
      go_wp2
      refine bodyPost_ret (v := .agg #[.int .i64 1, .slice A5 i c5]) (by simp [results, Try.results67, go_sem, k0, k1]) rfl ⟨_, rfl, ⟨A5, i, c5, O, rfl, ?_, hc5, by omega, hdO, Hv.out, HO.out⟩, ?_⟩
      · exact Reads.of_own (ownsRow_setCell_below (ownsRow_setCell_below hown (by show w.heap.size + 1 + 1 < w.heap.size + 3; omega) _) (by show w.heap.size + 1 + 1 < w.heap.size + 3; omega) _)
      · exact (bwr.setCell (p := ⟨w.heap.size + 1 + 1, 0, none⟩) (by show w.heap.size ≤ w.heap.size + 1 + 1; omega) _).setCell (p := ⟨w.heap.size + 1 + 1, 1, none⟩) (by show w.heap.size ≤ w.heap.size + 1 + 1; omega) _
end
end Go.Proofs.Ytilopgfpifhccaa
