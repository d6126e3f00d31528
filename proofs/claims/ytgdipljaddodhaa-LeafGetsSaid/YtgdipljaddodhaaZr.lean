/-
  Pages of a tree: contract of the reference's Page: leaf pages.
-/
import Derived.Test.YtgdipljaddodhaaZq
set_option linter.unusedSimpArgs false
set_option linter.unusedVariables false
namespace Go.Proofs.Ytgdipljaddodhaa
open Go.RowKit

set_option maxRecDepth 100000 in
set_option maxHeartbeats 8000000 in
theorem page_leaf (L : List UInt8) (ho : hdOk L = true) (hk : hdK L = 2) (w : World) :
    Calls Try.prog 25 #[.string (str L)] w (RetPg w 0 (hdN L) [] (rdMany (hdC L) (L.drop 8)) (okLeaf L)) := by
  have hl : L.length = 512 := by unfold hdOk at ho; rw [Bool.and_eq_true] at ho; simpa using ho.1
  have G := fun W => rhget_any L (by omega) W
  unfold RetHd at G
  have hv : hdV L = .agg #[.int .u8 2, .int .u16 (hdC L : Int), .int .u32 (hdN L : Int)] := by unfold hdV; rw [ho, hk]; rfl
  rw [hv, ho] at G
  have hOK : okLeaf L = (!rdSh (hdC L) (L.drop 8) && allZ (rdRest (hdC L) (L.drop 8)) && mayEn (rdMany (hdC L) (L.drop 8))) := rfl
  rw [hOK]
  have hC2 : hdC L ≤ 65535 := by
    have := beVal_lt_of (l := (L.drop 2).take 2) (n := 2) (by rw [List.length_take]; omega)
    unfold hdC; omega
  generalize hdN L = N at *
  generalize hdC L = C at *
  generalize hr0 : (L.drop 8) = r0 at *
  have HG := Lib.hid G
  have hz := str_size L
  have hzI : ((str L).size : Int) = 512 := by rw [hz, hl]; rfl
  have hz5 : (str L).size = 512 := by rw [hz, hl]
  have Hl := Lib.hid hl
  have Hr0 := Lib.hid hr0
  have hCI : (C : Int) ≤ 65535 := by omega
  clear G ho hk hv hr0 hOK hz hzI
  obtain ⟨i0, hi0, hz0, hs0, hy0⟩ := int_info8 Try.infoE
  obtain ⟨i1, hi1, hz1, hs1, hy1⟩ := int_info8 Try.infoN
  go_enter Try.func25, Try.ntmps25
  go_wp2_with fail
  refine (HG.out _).mono ?_
  rintro e w1 ⟨rfl, hb1⟩
  have X0 := ((Blk.new w1 70 #[.int .u8 2, .int .u16 (C : Int), .int .u32 (N : Int)]).alloc (.cells #[] 27)).alloc (.cells #[] 22)
  have hbA : Below w.heap.size w (((w1.alloc (.cells #[.int .u8 2, .int .u16 (C : Int), .int .u32 (N : Int)] 70)).alloc (.cells #[] 27)).alloc (.cells #[] 22)) := ball (ball (ball hb1 _) _) _
  have hsA : (((w1.alloc (.cells #[.int .u8 2, .int .u16 (C : Int), .int .u32 (N : Int)] 70)).alloc (.cells #[] 27)).alloc (.cells #[] 22)).heap.size = w1.heap.size + 3 := by simp
  have ownE : (((w1.alloc (.cells #[.int .u8 2, .int .u16 (C : Int), .int .u32 (N : Int)] 70)).alloc (.cells #[] 27)).alloc (.cells #[] 22)).ownsRow (w1.heap.size + 1) 27 3 (.slice (some ⟨w1.heap.size + 1, 0, none⟩) 0 0) 0 [] := by
    have h := (own_empty (w1.alloc (.cells #[.int .u8 2, .int .u16 (C : Int), .int .u32 (N : Int)] 70)) 27 3 (g := w1.heap.size + 1) (by simp)).alloc (.cells #[] 22)
    simpa using h
  have ownC : (((w1.alloc (.cells #[.int .u8 2, .int .u16 (C : Int), .int .u32 (N : Int)] 70)).alloc (.cells #[] 27)).alloc (.cells #[] 22)).ownsRow (w1.heap.size + 1) 22 1 (.slice (some ⟨w1.heap.size + 1 + 1, 0, none⟩) 0 0) 0 [] := by
    have h := own_empty ((w1.alloc (.cells #[.int .u8 2, .int .u16 (C : Int), .int .u32 (N : Int)] 70)).alloc (.cells #[] 27)) 22 1 (g := w1.heap.size + 1 + 1) (by simp)
    exact World.ownsRow.mono h (by simp)
  have HA := Lib.hid (And.intro X0 (And.intro hbA (And.intro ownE (And.intro ownC hsA))))
  have hhw : w.heap.size ≤ w1.heap.size := hb1.size
  clear X0 hbA hsA ownE ownC hb1
  go_wp2_with fail
  obtain ⟨X0, hbA, ownE, ownC, hsA⟩ := HA.out

  obtain ⟨WA, hWA⟩ : ∃ WA, ((w1.alloc (.cells #[.int .u8 2, .int .u16 (C : Int), .int .u32 (N : Int)] 70)).alloc (.cells #[] 27)).alloc (.cells #[] 22) = WA := ⟨_, rfl⟩
  rw [hWA] at X0 hbA ownE ownC hsA ⊢
  clear hWA HA

  obtain ⟨h, hh⟩ : ∃ h, w1.heap.size = h := ⟨_, rfl⟩
  rw [hh] at X0 ownE ownC hsA hhw ⊢
  clear hh
  have hsA2 : h + 1 ≤ WA.heap.size := by omega
  have c00 : WA.cell? ⟨h, 0, none⟩ = some (.int .u8 2) := X0.cell 0
  have c01 : WA.cell? ⟨h, 1, none⟩ = some (.int .u16 (C : Int)) := X0.cell 1
  go_wp2_with fail
  clear c00 c01
  go_loopw [8, 9, 10, 11] (fun lv cv pv iv wr => ∃ (j P : Nat), j ≤ C ∧ iv = .int .i64 (j : Int) ∧ pv = .int .i64 (P : Int) ∧ P ≤ 512 ∧ L.drop P = rdRest j r0 ∧ rdSh j r0 = false ∧ small (rdMany j r0) = true ∧ wr.ownsRow (h + 1) 27 3 lv j (vE (rdMany j r0)) ∧ cv = .slice (some ⟨h + 1 + 1, 0, none⟩) 0 0 ∧ Blk wr h 70 #[.int .u8 2, .int .u16 (C : Int), .int .u32 (N : Int)] ∧ Below w.heap.size w wr ∧ h + 1 ≤ wr.heap.size) (fun _ _ _ iv _ => C - (intOf iv).toNat)
  case atStart => exact ⟨0, 8, by omega, rfl, rfl, by omega, Hr0.out, rfl, rfl, ownE, rfl, X0, hbA, hsA2⟩
  case round =>
    clear X0 hbA hsA2 ownE ownC hsA
    obtain ⟨j, P, hj, rfl, rfl, hP, hdrop, hsh, hsm, hownE, rfl, hX, hb, hsz⟩ := hrel
    have q0 : (0 : Int) ≤ (j : Int) := by omega
    have p0 : (0 : Int) ≤ (P : Int) := by omega
    have p1 : (P : Int) ≤ 512 := by omega
    have c00 : wr.cell? ⟨h, 0, none⟩ = some (.int .u8 2) := hX.cell 0
    have c01 : wr.cell? ⟨h, 1, none⟩ = some (.int .u16 (C : Int)) := hX.cell 1
    have wC : IntKind.i64.wrap (C : Int) = (C : Int) := IntWalk.i64_in _ (by omega)
    by_cases hlt : j < C
    · have q1 : (j : Int) < (C : Int) := by omega
      have ON := one_any L P (by rw [Hl.out]; exact hP) (by rw [Hl.out]; omega) wr
      rw [hdrop] at ON
      by_cases hok1 : oneOk (rdRest j r0) = true
      rotate_left
      · have hok' : oneOk (rdRest j r0) = false := by simpa using hok1
        have hF : (!rdSh C r0 && allZ (rdRest C r0) && mayEn (rdMany C r0)) = false := by
          unfold oneOk at hok'
          by_cases hss : rdS (rdRest j r0) = true
          · have := rdSh_at C r0 j hlt hss
            rw [this]; rfl
          · have hs' : rdS (rdRest j r0) = false := by simpa using hss
            rw [hs'] at hok'
            have hk2 : 200 < keyN (rdRest j r0) := by simp at hok'; exact hok'
            have := small_false (rdMany_at C r0 j hlt) (by rw [rdE_size]; exact hk2)
            rw [this, Bool.and_false]
        rw [hok'] at ON
        have HON := Lib.hid ON
        have HF := Lib.hid hF
        clear ON hok1 hok' hF hdrop hsh hsm
        go_wp2_with fail
        refine HON.out.mono ?_
        rintro e w3 ⟨rfl, hb3⟩
        have hbw3 := bto0 hb hb3
        unfold zeroEn
        go_wp2
        refine bodyPost_ret (v := .tuple #[.int .i64 (-1), .int .u32 0, _, _]) (by simp [results, Try.results25, go_sem]; exact ⟨rfl, rfl⟩) rfl ?_
        rw [HF.out]
        exact ⟨_, _, rfl, by (with_reducible repeat (first | exact hbw3 | refine ball ?_ _))⟩
      · rw [hok1] at ON
        have hs0 : rdS (rdRest j r0) = false := by unfold oneOk at hok1; rw [Bool.and_eq_true] at hok1; simpa using hok1.1
        have hk2 : keyN (rdRest j r0) ≤ 200 := by unfold oneOk at hok1; rw [Bool.and_eq_true] at hok1; simpa using hok1.2
        have hge := (rdS_iff _).1 hs0
        have hPl : P + (8 + keyN (rdRest j r0)) ≤ 512 := by rw [← hdrop, List.length_drop, Hl.out] at hge; rw [← hdrop]; omega
        have hdr : L.drop (P + (8 + keyN (rdRest j r0))) = rdR (rdRest j r0) := by rw [(rd_form hs0).2.1, ← hdrop, List.drop_drop]
        obtain ⟨st1, st2, st3⟩ := rd_step j r0
        have hsh' : rdSh (j + 1) r0 = false := by rw [st3, hsh, hs0]; rfl
        have hsm' : small (rdMany (j + 1) r0) = true := by
          rw [st1]; unfold small at hsm ⊢; rw [List.all_append, hsm]; simp [rdE_size, hk2]
        have HST := Lib.hid (And.intro st1 (And.intro st2 (And.intro hsh' (And.intro hsm' hdr))))
        clear st1 st2 st3 hsh' hsm' hdr hsh hsm hok1 hs0 hge
        obtain ⟨K, hK⟩ : ∃ K, P + (8 + keyN (rdRest j r0)) = K := ⟨_, rfl⟩
        unfold RetOne at ON
        rw [hK] at ON HST hPl
        have k0 : (K : Int) ≤ 512 := by omega
        obtain ⟨E, hE⟩ : ∃ E, rdE (rdRest j r0) = E := ⟨_, rfl⟩
        rw [hE] at ON HST
        obtain ⟨es, ep, eq⟩ := E
        unfold En.agg at ON
        have HON := Lib.hid ON
        clear ON hE hK hk2 hdrop
        simp only at HON
        go_wp2_with fail
        refine HON.out.mono ?_
        rintro e w3 ⟨rfl, hb3⟩
        have hownE3 := (own_below hownE hb3).alloc (.cells #[.string es, .int .u32 ep, .int .u16 eq] 27)
        have hX3 := (hX.below hb3 hX.lt).alloc (.cells #[.string es, .int .u32 ep, .int .u16 eq] 27)
        have hb3' : Below w.heap.size w (w3.alloc (.cells #[.string es, .int .u32 ep, .int .u16 eq] 27)) := ball (bto0 hb hb3) _
        have hsz3 : h + 1 ≤ (w3.alloc (.cells #[.string es, .int .u32 ep, .int .u16 eq] 27)).heap.size := by have := hb3.size; simp; omega
        have d00 : (w3.alloc (.cells #[.string es, .int .u32 ep, .int .u16 eq] 27)).cell? ⟨h, 0, none⟩ = some (.int .u8 2) := hX3.cell 0
        clear hownE hX c00 c01
        have H3 := Lib.hid (And.intro hownE3 (And.intro hX3 (And.intro hb3' hsz3)))
        clear hownE3 hX3 hb3'
        go_wp2_with (at_builtin; go_loud (refine wpList_pushX (news := En.cells ⟨es, ep, eq⟩) rfl _ _ 29 rfl (h + 1) 27 i0 _ 3 24 Try.underlying29 hi0 hz0 hs0 hy0 rfl (by decide) u8 j _ rfl H3.out.1 rfl (w3.heap.size + 1) rfl (by simp) rfl (cells_oneE _) (by omega) (by omega) H3.out.2.2.2 ?_); intro v4 w4 hownE4 hg4; have d04 : w4.cell? ⟨h, 0, none⟩ = some (.int .u8 2) := (H3.out.2.1.below (belowX_grown H3.out.1 (Nat.le_refl _) H3.out.2.2.2 hg4 (Below.refl _ _)) (by omega)).cell 0)
        have hk4 := belowX_grown H3.out.1 (Nat.le_refl _) H3.out.2.2.2 hg4 (Below.refl _ _)
        have hb4 : Below w.heap.size w w4 := belowX_grown H3.out.1 (by omega) H3.out.2.2.2 hg4 H3.out.2.2.1
        go_roundw
        case rel => exact ⟨j + 1, K, by omega, by go_num, rfl, hPl, by rw [HST.out.2.1]; exact HST.out.2.2.2.2, HST.out.2.2.1, HST.out.2.2.2.1, by rw [HST.out.1, vE_snoc]; exact hownE4, rfl, H3.out.2.1.below hk4 (by omega), hb4, Nat.le_trans hsz3 hk4.size⟩
        case measure => simp [intOf]; omega
    · obtain rfl : j = C := by omega
      obtain ⟨R, hR⟩ : ∃ R, rdRest j r0 = R := ⟨_, rfl⟩
      rw [hR] at hdrop
      have hM : mayEn (rdMany j r0) = riseE (rdMany j r0) := by rw [small_mayEn, hsm]; rfl
      have HD := Lib.hid hdrop
      have HF := Lib.hid (And.intro hsh (And.intro hR hM))
      clear hsh hR hM hsm hdrop
      go_wp2_with fail
      go_loop [15] (fun iv => ∃ m : Nat, P ≤ m ∧ m ≤ 512 ∧ iv = .int .i64 (m : Int) ∧ allZ R = allZ (L.drop m)) (fun iv => 512 - (intOf iv).toNat)
      case atStart => exact ⟨P, Nat.le_refl _, hP, rfl, by rw [HD.out]⟩
      case round =>
        obtain ⟨m, hm0, hm1, rfl, hz⟩ := hrel
        have Hz := Lib.hid hz; clear hz
        have m0 : (0 : Int) ≤ (m : Int) := by omega
        by_cases hm : m < 512
        · have m1 : (m : Int) < 512 := by omega
          have g1 : m < (str L).size := by omega
          have hx : L[m]? = some (L[m]'(by rw [Hl.out]; exact hm)) := List.getElem?_eq_getElem _
          have hg := str_get g1 hx
          have hzd := allZ_drop hx
          obtain ⟨x, hxe⟩ : ∃ x, L[m]'(by rw [Hl.out]; exact hm) = x := ⟨_, rfl⟩
          rw [hxe] at hg hzd
          have Hzd := Lib.hid hzd
          clear hx hxe hzd
          by_cases hx0 : x = 0
          · subst hx0
            have e0 : (str L)[m].toNat = 0 := by rw [hg]; rfl
            have hnx : Hid (allZ R = allZ (L.drop (m + 1))) := Lib.hid (by rw [Hz.out, Hzd.out]; rfl)
            clear hg Hz Hzd
            go_wp2
            go_round
            case rel => exact ⟨m + 1, by omega, by omega, by go_num, hnx.out⟩
            case measure => simp [intOf]; omega
          · have hnx : Hid (allZ R = false) := Lib.hid (by rw [Hz.out, Hzd.out]; simp [hx0])
            have hx1 : x.toNat ≠ 0 := fun e => hx0 (UInt8.toNat_inj.1 e)
            have e1 : ((str L)[m].toNat == 0) = false := by rw [hg]; simpa using hx1
            have e2 : (((str L)[m].toNat : Int) == 0) = false := by rw [hg]; simp; omega
            have e3 : ((str L)[m].toNat != 0) = true := by rw [hg]; simpa using hx1
            have e4 : (((str L)[m].toNat : Int) != 0) = true := by rw [hg]; simp; omega
            clear hg Hz Hzd hx0 hx1
            go_wp2
            refine bodyPost_ret (v := .tuple #[.int .i64 (-1), .int .u32 0, _, _]) (by simp [results, Try.results25, go_sem]; exact ⟨rfl, rfl⟩) rfl ?_
            rw [HF.out.2.1, hnx.out, Bool.and_false, Bool.false_and]
            exact ⟨_, _, rfl, by (with_reducible repeat (first | exact hb | refine ball ?_ _))⟩
        · obtain rfl : m = 512 := by omega
          have hZ : allZ R = true := by rw [Hz.out, List.drop_eq_nil_of_le (by rw [Hl.out]; exact Nat.le_refl _)]; rfl
          have HZ := Lib.hid hZ
          clear hZ Hz
          obtain ⟨A5, c5, rfl, hc5⟩ := own_form hownE
          have hro := Reads.of_own hownE
          have RI := rriseE_any A5 j c5 (rdMany j r0) wr hro (by omega)
          by_cases hri : riseE (rdMany j r0) = true
          rotate_left
          · have hri' : riseE (rdMany j r0) = false := by simpa using hri
            rw [hri'] at RI
            have HRI := Lib.hid RI
            have Hri := Lib.hid hri'
            clear RI hri hri'
            go_wp2_with fail
            refine HRI.out.mono ?_
            rintro e w3 ⟨rfl, hb3⟩
            have hbw3 := bto0 hb hb3
            go_wp2
            refine bodyPost_ret (v := .tuple #[.int .i64 (-1), .int .u32 0, _, _]) (by simp [results, Try.results25, go_sem]; exact ⟨rfl, rfl⟩) rfl ?_
            rw [HF.out.2.2, Hri.out, Bool.and_false]
            exact ⟨_, _, rfl, by (with_reducible repeat (first | exact hbw3 | refine ball ?_ _))⟩
          · rw [hri] at RI
            have HRI := Lib.hid RI
            have Hri := Lib.hid hri
            clear RI hri
            go_wp2_with fail
            refine HRI.out.mono ?_
            rintro e w3 ⟨rfl, hb3⟩
            have hX3 := hX.below hb3 hX.lt
            have d00 : w3.cell? ⟨h, 0, none⟩ = some (.int .u8 2) := hX3.cell 0
            have d02 : w3.cell? ⟨h, 2, none⟩ = some (.int .u32 (N : Int)) := hX3.cell 2
            clear c00 c01
            go_wp2_with fail
            go_quiet (fail)
            go_wp2
            have hbw3 := bto0 hb hb3
            refine bodyPost_ret (v := .tuple #[.int .i64 0, .int .u32 (N : Int), _, .slice A5 j c5]) (by simp [results, Try.results25, go_sem]; exact rfl) rfl ?_
            rw [HF.out.1, HF.out.2.1, HZ.out, HF.out.2.2, Hri.out]
            refine ⟨_, 0, A5, c5, by rw [rdMany_len]; rfl, Reads.none_, ?_, bdr hbw3 _⟩
            rw [rdMany_len]
            exact ((hro.below hb3).more hb3.size)
end Go.Proofs.Ytgdipljaddodhaa
