/-
  Keys as rows: contract of the reference's Get.
-/
import Derived.Test.YtohaplmbgipbcaaDoorKw
import Derived.Test.YtohaplmbgipbcaaDoorKk
set_option linter.unusedSimpArgs false
namespace Go.Proofs.YtohaplmbgipbcaaDoor
open Go.RowKit

theorem wrap_back (U : Nat) (hU : U < 18446744073709551616) : IntKind.i64.wrap (IntKind.u64.wrap ((U : Int) - 9223372036854775808)) = (U : Int) - 9223372036854775808 := by
  rw [IntKind.wrap_u64, IntKind.wrap_i64]
  omega
theorem zero_reads (w : World) (A : Option Addr) (B : Nat) : Reads w B 3 A 0 (vV []) := ⟨rfl, fun h => absurd h (Nat.lt_irrefl _)⟩
theorem RetGet.bad_ {w w' : World} {L : List UInt8} {k x : Int} {e : Ending} {A : Option Addr} (hf : kdR L = ([], k)) (h : Below w.heap.size w w') (hx : x = k) (he : e = .returned (.tuple #[.slice A 0 0, .int .i64 x])) : RetGet w L e w' := by
  unfold RetGet
  rw [hf]
  exact ⟨A, 0, by rw [he, hx]; rfl, Nat.le_refl _, zero_reads _ _ _, h⟩

set_option maxRecDepth 100000 in
set_option maxHeartbeats 8000000 in
theorem rkget_any (s : ByteArray) (w : World) (hs : s.size ≤ 100000) : Calls Tryd.prog 15 #[.string s] w (RetGet w s.data.toList) := by
  have hsI : (s.size : Int) ≤ 100000 := by omega
  obtain ⟨i0, hi0, hz0, hs0, hy0⟩ := int_info8 Tryd.infoV
  have hO := (own_empty (w.alloc (.cells #[] 43)) 43 3 (g := w.heap.size + 1) (by simp))
  have hO2 := World.ownsRow.mono (base' := w.heap.size) hO (by simp)
  have hb0 : Below w.heap.size w ((w.alloc (.cells #[] 43)).alloc (.cells #[] 43)) := ball (ball (Below.refl _ _) _) _
  clear hO
  go_enter Tryd.func15, Tryd.ntmps15
  go_wp2
  go_loopw [5, 6] (fun rv av wr => ∃ (i : Nat) (rows : List Vl), rows.length ≤ i ∧ i ≤ s.size ∧ av = .int .i64 (i : Int) ∧ wr.ownsRow w.heap.size 43 3 rv rows.length (vV rows) ∧ Below w.heap.size w wr ∧ kdR s.data.toList = comb rows (kdR (s.data.toList.drop i))) (fun _ av _ => s.size - (intOf av).toNat)
  case atStart => exact ⟨0, [], Nat.le_refl _, by omega, rfl, hO2, hb0, by rw [List.drop_zero]; exact (comb_nil _).symm⟩
  case round =>
    clear hO2 hb0
    obtain ⟨i, rows, hri, hi, rfl, hown, hb, he⟩ := hrel
    have hbs := hb.size
    have q0 : (0 : Int) ≤ (i : Int) := by omega
    by_cases hlt : i < s.size
    · have q1 : (i : Int) < (s.size : Int) := by omega
      have q2 : (i : Int) + 1 ≤ (s.size : Int) := by omega
      have hdr := drop_at s i hlt
      have BAD : ∀ e : Int, e ≠ 0 → kdV (s.data.toList.drop i) = .bad e → Hid (kdR s.data.toList = ([], e)) := fun e h0 h => Lib.hid (by
        rw [he]
        exact comb_bad rows (by rw [hdr]; simp) h0 h)
      have STEP : ∀ (v : Vl) (q : Nat), kdV (s.data.toList.drop i) = .ok v (s.data.toList.drop q) → Hid (kdR s.data.toList = comb (rows ++ [v]) (kdR (s.data.toList.drop q))) := fun v q h => Lib.hid (by rw [he, comb_ok rows h])
      have HDR := Lib.hid hdr
      clear he hdr
      have xb : (s[i].toNat : Int) ≤ 255 := by have := s[i].toNat_lt; omega
      have hrl : rows.length ≤ 100000 := by omega
      have hkV : kdV (s.data.toList.drop i) = if s[i].toNat = 1 then .ok ⟨0, 0, ⟨#[]⟩⟩ (s.data.toList.drop (i + 1)) else if s[i].toNat = 2 then kdI (s.data.toList.drop (i + 1)) else if s[i].toNat = 3 then kdB (s.data.toList.drop (i + 1)) else if s[i].toNat = 4 then kdT (s.data.toList.drop (i + 1)) else .bad 6 := by rw [HDR.out]; rfl
      by_cases h1 : s[i].toNat = 1
      · rw [if_pos h1] at hkV
        have hst := STEP _ _ hkV
        have e1 : ((s[i].toNat : Int) == 1) = true := by rw [beq_iff_eq]; omega
        clear BAD STEP hkV HDR h1
        go_wp2_with (at_builtin; refine wpList_pushG (news := Vl.cells ⟨0, 0, ⟨#[]⟩⟩) rfl _ _ 22 rfl w.heap.size 43 i0 _ 3 32 Tryd.underlying22 hi0 hz0 hs0 hy0 rfl (by decide) u5 rows.length _ rfl hown rfl _ rfl rfl rfl (cells_one _) (by omega) (by omega) hbs ?_; intro v3 w3 hown3 hk3)
        go_roundw
        case rel => exact ⟨i + 1, rows ++ [⟨0, 0, ⟨#[]⟩⟩], by simp; omega, by omega, by go_num, (by rw [vV_snoc, List.length_append]; exact hown3), hk3 _ _ (Nat.le_refl _) hb, hst.out⟩
        case measure => simp [intOf]; omega
      · rw [if_neg h1] at hkV
        have e1 : ((s[i].toNat : Int) == 1) = false := beq_eq_false_iff_ne.2 (by omega)
        by_cases h2 : s[i].toNat = 2
        · rw [if_pos h2] at hkV
          have e2 : ((s[i].toNat : Int) == 2) = true := by rw [beq_iff_eq]; omega
          unfold kdI at hkV
          rw [List.length_drop, szl] at hkV
          by_cases h8 : s.size - (i + 1) < 8
          · rw [if_pos h8] at hkV
            have hf := BAD 3 (by decide) hkV
            have e8 : (s.size : Int) - ((i : Int) + 1) < 8 := by omega
            clear BAD STEP hkV HDR h1 h2
            go_wp2
            go_ret2
            exact RetGet.bad_ hf.out hb rfl rfl
          · rw [if_neg h8] at hkV
            rw [List.drop_drop] at hkV
            have hst := STEP _ _ hkV
            have e8 : (8 : Int) ≤ (s.size : Int) - ((i : Int) + 1) := by omega
            have hU8 : beVal ((s.data.toList.drop (i + 1)).take 8) < 18446744073709551616 := by
              have h1 := beVal_lt_of (l := (s.data.toList.drop (i + 1)).take 8) (n := 8) (by rw [List.length_take]; omega)
              omega
            have hx := wrap_back _ hU8
            clear BAD STEP hkV HDR h1 h2
            go_wp2
            go_loop [8, 9] (fun uv jv => ∃ j : Nat, j ≤ 8 ∧ jv = .int .i64 j ∧ uv = .int .u64 ((beVal ((s.data.toList.drop (i + 1)).take j) : Nat) : Int)) (fun _ jv => 8 - (intOf jv).toNat)
            case atStart => exact ⟨0, by omega, rfl, rfl⟩
            case round =>
              obtain ⟨j, hj, rfl, rfl⟩ := hrel
              have r0 : (0 : Int) ≤ (j : Int) := by omega
              by_cases hjl : j < 8
              · have r1 : (j : Int) < 8 := by omega
                have r2 : (i : Int) + 1 + (j : Int) < (s.size : Int) := by omega
                have r3 : i + 1 + j < s.size := by omega
                have yb : (s[i + 1 + j].toNat : Int) ≤ 255 := by have := s[i + 1 + j].toNat_lt; omega
                have yb0 : (0 : Int) ≤ (s[i + 1 + j].toNat : Int) := by omega
                have hbt := Lib.hid (beVal_take (l := s.data.toList.drop (i + 1)) (j := j) (b := s[i + 1 + j]) (by rw [List.getElem?_drop]; exact at_list s (i + 1 + j) r3))
                have hlt2 : beVal ((s.data.toList.drop (i + 1)).take j) < 72057594037927936 := by
                  have h1 := beVal_lt_of (l := (s.data.toList.drop (i + 1)).take j) (n := 7) (by rw [List.length_take]; omega)
                  omega
                clear hU8 hx hst
                obtain ⟨U, hU⟩ : ∃ U, beVal ((s.data.toList.drop (i + 1)).take j) = U := ⟨_, rfl⟩
                rw [hU] at hbt hlt2 ⊢
                clear hU
                have HW : Hid (IntKind.u64.wrap (IntKind.u64.wrap (256 * (U : Int)) + (s[i + 1 + j].toNat : Int)) = ((256 * U + s[i + 1 + j].toNat : Nat) : Int)) := Lib.hid (by rw [IntKind.wrap_u64, IntKind.wrap_u64]; omega)
                have hU0 : (0 : Int) ≤ (U : Int) := by omega
                clear hlt2
                go_wp2
                go_round
                case rel => exact ⟨j + 1, by omega, by go_num, val_int (by rw [hbt.out]; exact HW.out)⟩
                case measure => simp [intOf]; omega
              · obtain rfl : j = 8 := by omega
                obtain ⟨U, hU⟩ : ∃ U, beVal ((s.data.toList.drop (i + 1)).take 8) = U := ⟨_, rfl⟩
                rw [hU] at hx hU8 hst ⊢
                clear hU
                obtain ⟨M, hM⟩ : ∃ M : Int, (U : Int) - 9223372036854775808 = M := ⟨_, rfl⟩
                rw [hM] at hst
                have hx' : IntKind.i64.wrap (IntKind.u64.wrap ((U : Int) - 9223372036854775808)) = M := by rw [hx, hM]
                clear hx hM
                have r2 : (i : Int) + 1 + 8 ≤ (s.size : Int) := by omega
                go_wp2_with (at_builtin; refine wpList_pushG (news := Vl.cells ⟨1, M, ⟨#[]⟩⟩) rfl _ _ 22 rfl w.heap.size 43 i0 _ 3 32 Tryd.underlying22 hi0 hz0 hs0 hy0 rfl (by decide) u5 rows.length _ rfl hown rfl _ rfl rfl rfl (cells_one _) (by omega) (by omega) hbs ?_; intro v3 w3 hown3 hk3)
                go_roundw
                case rel => exact ⟨i + 1 + 8, rows ++ [⟨1, M, ⟨#[]⟩⟩], by simp; omega, by omega, by go_num, (by rw [vV_snoc, List.length_append]; exact hown3), hk3 _ _ (Nat.le_refl _) hb, hst.out⟩
                case measure => simp [intOf]; omega
        · rw [if_neg h2] at hkV
          have e2 : ((s[i].toNat : Int) == 2) = false := beq_eq_false_iff_ne.2 (by omega)
          by_cases h3 : s[i].toNat = 3
          · rw [if_pos h3] at hkV
            have e3 : ((s[i].toNat : Int) == 3) = true := by rw [beq_iff_eq]; omega
            by_cases hn : i + 1 < s.size
            · have hdr2 := drop_at s (i + 1) hn
              rw [hdr2, kdB] at hkV
              have r2 : (i : Int) + 1 < (s.size : Int) := by omega
              have n1 : ((i : Int) + 1 == (s.size : Int)) = false := beq_eq_false_iff_ne.2 (by omega)
              have yb : (s[i + 1].toNat : Int) ≤ 255 := by have := s[i + 1].toNat_lt; omega
              clear hdr2
              by_cases hg : 1 < s[i + 1].toNat
              · rw [if_pos hg] at hkV
                have hf := BAD 2 (by decide) hkV
                have hg' : (1 : Int) < (s[i + 1].toNat : Int) := by omega
                clear BAD STEP hkV HDR h1 h2 h3
                go_wp2
                go_ret2
                exact RetGet.bad_ hf.out hb rfl rfl
              · rw [if_neg hg] at hkV
                have hst := STEP _ _ hkV
                have hg' : (s[i + 1].toNat : Int) ≤ 1 := by omega
                clear BAD STEP hkV HDR h1 h2 h3 hg
                go_wp2_with (at_builtin; refine wpList_pushG (news := Vl.cells ⟨2, s[i + 1].toNat, ⟨#[]⟩⟩) rfl _ _ 22 rfl w.heap.size 43 i0 _ 3 32 Tryd.underlying22 hi0 hz0 hs0 hy0 rfl (by decide) u5 rows.length _ rfl hown rfl _ rfl rfl rfl (cells_one _) (by omega) (by omega) hbs ?_; intro v3 w3 hown3 hk3)
                go_roundw
                case rel => exact ⟨i + 1 + 1, rows ++ [⟨2, s[i + 1].toNat, ⟨#[]⟩⟩], by simp; omega, by omega, by go_num, (by rw [vV_snoc, List.length_append]; exact hown3), hk3 _ _ (Nat.le_refl _) hb, hst.out⟩
                case measure => simp [intOf]; omega
            · have hnil : s.data.toList.drop (i + 1) = [] := List.drop_eq_nil_of_le (by rw [szl]; omega)
              rw [hnil] at hkV
              clear hnil
              have hf := BAD 3 (by decide) hkV
              have n1 : ((i : Int) + 1 == (s.size : Int)) = true := by rw [beq_iff_eq]; omega
              clear BAD STEP hkV HDR h1 h2 h3
              go_wp2
              go_ret2
              exact RetGet.bad_ hf.out hb rfl rfl
          · rw [if_neg h3] at hkV
            have e3 : ((s[i].toNat : Int) == 3) = false := beq_eq_false_iff_ne.2 (by omega)
            by_cases h4 : s[i].toNat = 4
            · rw [if_pos h4] at hkV
              have e4 : ((s[i].toNat : Int) == 4) = true := by rw [beq_iff_eq]; omega
              have T := fun W => rtext_any s (i + 1) ((i : Int) + 1) (by omega) W hs (by omega)
              unfold RetTx at T
              cases ht : txt [] (s.data.toList.drop (i + 1)) with
              | bad e =>
                rw [ht] at T
                rw [kdT_bad ht] at hkV
                have hne : e ≠ 0 := by
                  rw [HDR.out] at hkV
                  exact kd_bad_ne hkV
                have hf := BAD e hne hkV
                have hneb : (e != 0) = true := by simpa using hne
                have HT := Lib.hid T; clear T
                clear BAD STEP hkV HDR h1 h2 h3 h4 ht
                go_wp2_with fail
                refine (HT.out _).mono ?_
                rintro x w1 ⟨hb1, rfl⟩
                go_wp2
                go_ret2
                exact RetGet.bad_ hf.out (bto0 hb hb1) rfl rfl
              | ok t r =>
                rw [ht] at T
                have hkT := kdT_ok ht
                rw [hkT] at hkV
                have S2 : ∀ q : Nat, r = s.data.toList.drop q → Hid (kdR s.data.toList = comb (rows ++ [⟨3, 0, str t⟩]) (kdR (s.data.toList.drop q))) := fun q h => STEP _ _ (by rw [hkV, h])
                obtain ⟨P, hP⟩ : ∃ P, str t = P := ⟨_, rfl⟩
                rw [hP] at S2
                simp only [hP] at T
                have HT := Lib.hid T; clear T
                have HS2 := Lib.hid S2; clear S2
                clear BAD STEP hkV HDR h1 h2 h3 h4 ht hkT hP
                go_wp2_with fail
                refine (HT.out _).mono ?_
                rintro x w1 ⟨hb1, q, y, rfl, hq1, hq2, hrq, rfl⟩
                have hst := HS2.out q hrq
                have hw1 : Below w.heap.size w w1 := bto0 hb hb1
                have hws := hw1.size
                have hown1 := World.ownsRow.kept (row := none) hown ⟨hb1.os, hb1.tape, hb1.output, hb1.size, fun i hi _ => hb1.block i hi⟩ (by cases h' : u5.ownBlock <;> simp)
                clear hrq
                go_wp2_with (at_builtin; refine wpList_pushG (news := Vl.cells ⟨3, 0, P⟩) rfl _ _ 22 rfl w.heap.size 43 i0 _ 3 32 Tryd.underlying22 hi0 hz0 hs0 hy0 rfl (by decide) u5 rows.length _ rfl hown1 rfl _ rfl rfl rfl (cells_one _) (by omega) (by omega) hws ?_; intro v3 w3 hown3 hk3)
                go_roundw
                case rel => exact ⟨q, rows ++ [⟨3, 0, P⟩], by simp; omega, by omega, rfl, (by rw [vV_snoc, List.length_append]; exact hown3), hk3 _ _ (Nat.le_refl _) hw1, hst.out⟩
                case measure => simp [intOf]; omega
            · rw [if_neg h4] at hkV
              have e4 : ((s[i].toNat : Int) == 4) = false := beq_eq_false_iff_ne.2 (by omega)
              have hf := BAD 6 (by decide) hkV
              clear BAD STEP hkV HDR h1 h2 h3 h4
              go_wp2
              go_ret2
              exact RetGet.bad_ hf.out hb rfl rfl
    · obtain rfl : i = s.size := by omega
      have hnil : Hid (kdR s.data.toList = (rows, 0)) := Lib.hid (by rw [he, List.drop_eq_nil_of_le (by rw [szl]; exact Nat.le_refl _), kdR_nil]; unfold comb; simp)
      obtain ⟨A5, c5, rfl, hc5⟩ := own_form hown
      have hro := Reads.of_own hown
      go_wp2
      go_ret2
      exact ⟨A5, c5, by rw [hnil.out]; rfl, by rw [hnil.out]; exact hc5, by rw [hnil.out]; exact hro, hb⟩
end Go.Proofs.YtohaplmbgipbcaaDoor
