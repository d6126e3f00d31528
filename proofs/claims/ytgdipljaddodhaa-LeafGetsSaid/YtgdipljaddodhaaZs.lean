/-
  Pages of a tree: contract of the reference's Page: inner pages.
-/
import Derived.Test.YtgdipljaddodhaaZq
set_option linter.unusedSimpArgs false
set_option linter.unusedVariables false
namespace Go.Proofs.Ytgdipljaddodhaa
open Go.RowKit

/-- Is an inner page right, behind its head? -/
def okInner (L : List UInt8) : Bool := !riSh (hdC L) (dr (L.drop 8) 4) && allZ (riRest (hdC L) (dr (L.drop 8) 4)) && mayEn ((riMany (hdC L) (dr (L.drop 8) 4)).map Prod.fst)
theorem dr4 {L : List UInt8} (h : hdOk L = true) : dr (L.drop 8) 4 = L.drop 12 := by
  have hl : L.length = 512 := by unfold hdOk at h; rw [Bool.and_eq_true] at h; simpa using h.1
  rw [dr_ge (by rw [List.length_drop]; omega), List.drop_drop]

set_option maxRecDepth 100000 in
set_option maxHeartbeats 8000000 in
theorem page_inner (L : List UInt8) (ho : hdOk L = true) (hk : hdK L = 3) (hN : hdN L = 0) (hC0 : hdC L ≠ 0) (w : World) :
    Calls Try.prog 25 #[.string (str L)] w (RetPg w 1 0 (beVal (tk (L.drop 8) 4) :: (riMany (hdC L) (dr (L.drop 8) 4)).map Prod.snd) ((riMany (hdC L) (dr (L.drop 8) 4)).map Prod.fst) (okInner L)) := by
  have hl : L.length = 512 := by unfold hdOk at ho; rw [Bool.and_eq_true] at ho; simpa using ho.1
  have G := fun W => rhget_any L (by omega) W
  unfold RetHd at G
  have hv : hdV L = .agg #[.int .u8 3, .int .u16 (hdC L : Int), .int .u32 0] := by unfold hdV; rw [ho, hk, hN]; rfl
  rw [hv, ho] at G
  have hOK : okInner L = (!riSh (hdC L) (dr (L.drop 8) 4) && allZ (riRest (hdC L) (dr (L.drop 8) 4)) && mayEn ((riMany (hdC L) (dr (L.drop 8) 4)).map Prod.fst)) := rfl
  rw [hOK]
  have hd4 := dr4 ho
  have sl0 : ∀ W, (Instr.slice 9 (.string (str L)) (some (.int .i64 8)) (some (.int .i64 12)) none).run Try.prog W = .ok (.string (str ((L.drop 8).take 4))) W := cut_mid (P := Try.prog) Try.underlying9 L ((L.drop 8).take 4) .i64 .i64 8 12 (by omega) (by omega) (by omega) rfl
  have V0 := fun W => dval_any ((L.drop 8).take 4) (by rw [List.length_take]; omega) W
  have hc0e : tk (L.drop 8) 4 = (L.drop 8).take 4 := tk_ge (by rw [List.length_drop]; omega)
  have hc0b := beVal_lt_of (l := (L.drop 8).take 4) (n := 4) (by rw [List.length_take]; omega)
  rw [hc0e]
  obtain ⟨c0, hc0⟩ : ∃ c0, beVal ((L.drop 8).take 4) = c0 := ⟨_, rfl⟩
  rw [hc0] at V0 hc0b ⊢
  have w0 : IntKind.u32.wrap (c0 : Int) = (c0 : Int) := by rw [IntKind.wrap_u32]; omega
  have HV0 := Lib.hid V0
  clear V0 hc0e hc0b hc0

  have hC2 : hdC L ≤ 65535 := by
    have := beVal_lt_of (l := (L.drop 2).take 2) (n := 2) (by rw [List.length_take]; omega)
    unfold hdC; omega
  generalize hdN L = N at *
  generalize hdC L = C at *
  generalize hr0 : (dr (L.drop 8) 4) = r0 at *
  have hr0' : L.drop 12 = r0 := hd4.symm
  have c1 : ((C : Int) == 0) = false := by simp; omega
  have c2 : (C == 0) = false := by simp; omega
  clear hd4 hC0
  have HG := Lib.hid G
  have hz := str_size L
  have hzI : ((str L).size : Int) = 512 := by rw [hz, hl]; rfl
  have hz5 : (str L).size = 512 := by rw [hz, hl]
  have Hl := Lib.hid hl
  have Hr0 := Lib.hid hr0'
  have hCI : (C : Int) ≤ 65535 := by omega
  clear G ho hk hv hr0 hOK hz hzI
  obtain ⟨i0, hi0, hz0, hs0, hy0⟩ := int_info8 Try.infoE
  obtain ⟨i1, hi1, hz1, hs1, hy1⟩ := int_info8 Try.infoN
  go_enter Try.func25, Try.ntmps25
  go_wp2_with fail
  refine (HG.out _).mono ?_
  rintro e w1 ⟨rfl, hb1⟩
  have X0 := ((Blk.new w1 70 #[.int .u8 3, .int .u16 (C : Int), .int .u32 0]).alloc (.cells #[] 27)).alloc (.cells #[] 22)
  have hbA : Below w.heap.size w (((w1.alloc (.cells #[.int .u8 3, .int .u16 (C : Int), .int .u32 0] 70)).alloc (.cells #[] 27)).alloc (.cells #[] 22)) := ball (ball (ball hb1 _) _) _
  have hsA : (((w1.alloc (.cells #[.int .u8 3, .int .u16 (C : Int), .int .u32 0] 70)).alloc (.cells #[] 27)).alloc (.cells #[] 22)).heap.size = w1.heap.size + 3 := by simp
  have ownE : (((w1.alloc (.cells #[.int .u8 3, .int .u16 (C : Int), .int .u32 0] 70)).alloc (.cells #[] 27)).alloc (.cells #[] 22)).ownsRow (w1.heap.size + 1) 27 3 (.slice (some ⟨w1.heap.size + 1, 0, none⟩) 0 0) 0 [] := by
    have h := (own_empty (w1.alloc (.cells #[.int .u8 3, .int .u16 (C : Int), .int .u32 0] 70)) 27 3 (g := w1.heap.size + 1) (by simp)).alloc (.cells #[] 22)
    simpa using h
  have ownC : (((w1.alloc (.cells #[.int .u8 3, .int .u16 (C : Int), .int .u32 0] 70)).alloc (.cells #[] 27)).alloc (.cells #[] 22)).ownsRow (w1.heap.size + 1) 22 1 (.slice (some ⟨w1.heap.size + 1 + 1, 0, none⟩) 0 0) 0 [] := by
    have h := own_empty ((w1.alloc (.cells #[.int .u8 3, .int .u16 (C : Int), .int .u32 0] 70)).alloc (.cells #[] 27)) 22 1 (g := w1.heap.size + 1 + 1) (by simp)
    exact World.ownsRow.mono h (by simp)
  have HA := Lib.hid (And.intro X0 (And.intro hbA (And.intro ownE (And.intro ownC hsA))))
  have hhw : w.heap.size ≤ w1.heap.size := hb1.size
  clear X0 hbA hsA ownE ownC hb1
  go_wp2_with fail
  refine (HV0.out _).mono ?_
  rintro e w2 ⟨rfl, rfl⟩
  go_wp2_with (at_builtin; go_loud (refine wpList_pushX (news := [.int .u32 (c0 : Int)]) rfl _ _ 44 rfl (w1.heap.size + 1) 22 i1 _ 1 4 Try.underlying44 hi1 hz1 hs1 hy1 rfl (by decide) (.slice (some ⟨w1.heap.size + 1 + 1, 0, none⟩) 0 0) 0 _ rfl HA.out.2.2.2.1 rfl (w1.heap.size + 1 + 1 + 1) rfl (by simp) rfl (by intro u hu; rw [List.mem_singleton] at hu; subst hu; rfl) (by omega) (by omega) (by simp) ?_); intro v6 WA hownC6 hg6)
  obtain ⟨X0', hbA', ownE', ownC', hsA'⟩ := HA.out
  have hkA := belowX_grown ownC' (Nat.le_refl _) (by omega) hg6 (Below.refl _ _)
  have ownE := ownX_grown ownC' ownE' (by decide) hg6
  have X0 := X0'.below hkA (by omega)
  have hbA : Below w.heap.size w WA := belowX_grown ownC' (by omega) (by omega) hg6 hbA'
  have hsA : w1.heap.size + 3 ≤ WA.heap.size := by have := hkA.size; omega
  have ownC := hownC6
  rw [List.nil_append] at ownC
  clear X0' hbA' ownE' ownC' hsA' hkA hg6 hownC6 HA

  obtain ⟨h, hh⟩ : ∃ h, w1.heap.size = h := ⟨_, rfl⟩
  rw [hh] at X0 ownE ownC hsA hhw ⊢
  clear hh
  have hsA2 : h + 1 ≤ WA.heap.size := by omega
  have c00 : WA.cell? ⟨h, 0, none⟩ = some (.int .u8 3) := X0.cell 0
  have c01 : WA.cell? ⟨h, 1, none⟩ = some (.int .u16 (C : Int)) := X0.cell 1
  go_wp2_with fail
  clear c00 c01
  go_loopw [8, 9, 10, 11] (fun lv cv pv iv wr => ∃ (j P : Nat), j ≤ C ∧ iv = .int .i64 (j : Int) ∧ pv = .int .i64 (P : Int) ∧ P ≤ 512 ∧ L.drop P = riRest j r0 ∧ riSh j r0 = false ∧ small ((riMany j r0).map Prod.fst) = true ∧ wr.ownsRow (h + 1) 27 3 lv j (vE ((riMany j r0).map Prod.fst)) ∧ wr.ownsRow (h + 1) 22 1 cv (j + 1) (vN (c0 :: (riMany j r0).map Prod.snd)) ∧ Blk wr h 70 #[.int .u8 3, .int .u16 (C : Int), .int .u32 0] ∧ Below w.heap.size w wr ∧ h + 1 ≤ wr.heap.size) (fun _ _ _ iv _ => C - (intOf iv).toNat)
  case atStart => exact ⟨0, 12, by omega, rfl, rfl, by omega, Hr0.out, rfl, rfl, ownE, ownC, X0, hbA, hsA2⟩
  case round =>
    clear X0 hbA hsA2 ownE ownC hsA
    obtain ⟨j, P, hj, rfl, rfl, hP, hdrop, hsh, hsm, hownE, hownC, hX, hb, hsz⟩ := hrel
    have q0 : (0 : Int) ≤ (j : Int) := by omega
    have p0 : (0 : Int) ≤ (P : Int) := by omega
    have p1 : (P : Int) ≤ 512 := by omega
    have c00 : wr.cell? ⟨h, 0, none⟩ = some (.int .u8 3) := hX.cell 0
    have c01 : wr.cell? ⟨h, 1, none⟩ = some (.int .u16 (C : Int)) := hX.cell 1
    have wC : IntKind.i64.wrap (C : Int) = (C : Int) := IntWalk.i64_in _ (by omega)
    by_cases hlt : j < C
    · have q1 : (j : Int) < (C : Int) := by omega
      have ON := one_any L P (by rw [Hl.out]; exact hP) (by rw [Hl.out]; omega) wr
      rw [hdrop] at ON
      by_cases hok1 : oneOk (riRest j r0) = true
      rotate_left
      · have hok' : oneOk (riRest j r0) = false := by simpa using hok1
        have hF : (!riSh C r0 && allZ (riRest C r0) && mayEn ((riMany C r0).map Prod.fst)) = false := by
          unfold oneOk at hok'
          by_cases hss : rdS (riRest j r0) = true
          · have := riSh_at C r0 j hlt (by unfold riS; rw [hss]; rfl)
            rw [this]; rfl
          · have hs' : rdS (riRest j r0) = false := by simpa using hss
            rw [hs'] at hok'
            have hk2 : 200 < keyN (riRest j r0) := by simp at hok'; exact hok'
            have := small_false (show ((riMany C r0).map Prod.fst)[j]? = some (rdE (riRest j r0)) by rw [List.getElem?_map, riMany_at C r0 j hlt]; rfl) (by rw [rdE_size]; exact hk2)
            rw [this, Bool.and_false]
        rw [hok'] at ON
        have HON := Lib.hid ON
        have HF := Lib.hid hF
        clear ON hok1 hok' hF hdrop hsh hsm
        go_wp2_with fail
        refine HON.out.mono ?_
        rintro e w3 ⟨rfl, hb3⟩
        have hbw3 := bto0 hb hb3
        unfold zeroEn
        go_wp2
        refine bodyPost_ret (v := .tuple #[.int .i64 (-1), .int .u32 0, _, _]) (by simp [results, Try.results25, go_sem]; exact ⟨rfl, rfl⟩) rfl ?_
        rw [HF.out]
        exact ⟨_, _, rfl, by (with_reducible repeat (first | exact hbw3 | refine ball ?_ _))⟩
      · rw [hok1] at ON
        have hs0 : rdS (riRest j r0) = false := by unfold oneOk at hok1; rw [Bool.and_eq_true] at hok1; simpa using hok1.1
        have hk2 : keyN (riRest j r0) ≤ 200 := by unfold oneOk at hok1; rw [Bool.and_eq_true] at hok1; simpa using hok1.2
        have hge := (rdS_iff _).1 hs0
        have hPl : P + (8 + keyN (riRest j r0)) ≤ 512 := by rw [← hdrop, List.length_drop, Hl.out] at hge; rw [← hdrop]; omega
        have hdr : L.drop (P + (8 + keyN (riRest j r0))) = rdR (riRest j r0) := by rw [(rd_form hs0).2.1, ← hdrop, List.drop_drop]
        obtain ⟨st1, st2, st3⟩ := ri_step j r0
        by_cases h4 : P + (8 + keyN (riRest j r0)) + 4 ≤ 512
        rotate_left
        · have hS : riS (riRest j r0) = true := by
            unfold riS
            rw [hs0, Bool.false_or, decide_eq_true_iff, ← hdr, List.length_drop, Hl.out]; omega
          have hF : (!riSh C r0 && allZ (riRest C r0) && mayEn ((riMany C r0).map Prod.fst)) = false := by rw [riSh_at C r0 j hlt hS]; rfl
          obtain ⟨K, hK⟩ : ∃ K, P + (8 + keyN (riRest j r0)) = K := ⟨_, rfl⟩
          unfold RetOne at ON
          rw [hK] at ON h4 hPl
          have k0 : (K : Int) ≤ 512 := by omega
          have k1 : (512 : Int) < (K : Int) + 4 := by omega
          obtain ⟨E, hE⟩ : ∃ E, rdE (riRest j r0) = E := ⟨_, rfl⟩
          rw [hE] at ON
          obtain ⟨es, ep, eq⟩ := E
          unfold En.agg at ON
          have HON := Lib.hid ON
          have HF := Lib.hid hF
          clear ON hE hK hk2 hdrop st1 st2 st3 hS hF hs0 hge hdr hok1 h4 hPl hsh hsm
          simp only at HON
          go_wp2_with fail
          refine HON.out.mono ?_
          rintro e w3 ⟨rfl, hb3⟩
          have hX3 := (hX.below hb3 hX.lt).alloc (.cells #[.string es, .int .u32 ep, .int .u16 eq] 27)
          have d00 : (w3.alloc (.cells #[.string es, .int .u32 ep, .int .u16 eq] 27)).cell? ⟨h, 0, none⟩ = some (.int .u8 3) := hX3.cell 0
          have hbw3 := bto0 hb hb3
          clear hX3 c00 c01
          go_wp2
          refine bodyPost_ret (v := .tuple #[.int .i64 (-1), .int .u32 0, _, _]) (by simp [results, Try.results25, go_sem]; exact ⟨rfl, rfl⟩) rfl ?_
          rw [HF.out]
          exact ⟨_, _, rfl, by (with_reducible repeat (first | exact hbw3 | refine ball ?_ _))⟩
        have hr4 : 4 ≤ (rdR (riRest j r0)).length := by rw [← hdr, List.length_drop, Hl.out]; omega
        have hS0 : riS (riRest j r0) = false := by unfold riS; rw [hs0, Bool.false_or, decide_eq_false_iff_not]; omega
        have hsh' : riSh (j + 1) r0 = false := by rw [st3, hsh, hS0]; rfl
        have hsm' : small ((riMany (j + 1) r0).map Prod.fst) = true := by
          rw [st1, List.map_append]; unfold small at hsm ⊢; rw [List.all_append, hsm]; simp [rdE_size, hk2]
        have hdr4 : L.drop (P + (8 + keyN (riRest j r0)) + 4) = riR (riRest j r0) := by unfold riR; rw [dr_ge hr4, ← hdr, List.drop_drop]
        have hcv : riC (riRest j r0) = beVal ((L.drop (P + (8 + keyN (riRest j r0)))).take 4) := by unfold riC; rw [tk_ge hr4, hdr]
        have hcb := beVal_lt_of (l := (L.drop (P + (8 + keyN (riRest j r0)))).take 4) (n := 4) (by rw [List.length_take]; omega)
        have HST := Lib.hid (And.intro st1 (And.intro st2 (And.intro hsh' (And.intro hsm' hdr4))))
        clear st1 st2 st3 hsh' hsm' hdr hdr4 hsh hsm hok1 hs0 hge hr4 hS0
        obtain ⟨K, hK⟩ : ∃ K, P + (8 + keyN (riRest j r0)) = K := ⟨_, rfl⟩
        unfold RetOne at ON
        rw [hK] at ON HST hPl h4 hcv hcb
        have sl4 : ∀ W, (Instr.slice 9 (.string (str L)) (some (.int .i64 (K : Int))) (some (.int .i64 ((K : Int) + 4))) none).run Try.prog W = .ok (.string (str ((L.drop K).take 4))) W := cut_mid (P := Try.prog) Try.underlying9 L ((L.drop K).take 4) .i64 .i64 K ((K : Int) + 4) (by omega) (by omega) (by rw [Hl.out]; omega) (by congr 1; omega)
        have V4 := Lib.hid fun W => dval_any ((L.drop K).take 4) (by rw [List.length_take]; omega) W
        rw [← hcv] at V4 hcb
        obtain ⟨x, hx⟩ : ∃ x, riC (riRest j r0) = x := ⟨_, rfl⟩
        rw [hx] at V4 hcb HST
        have wx : IntKind.u32.wrap (x : Int) = (x : Int) := by rw [IntKind.wrap_u32]; omega
        have k0 : (K : Int) ≤ 512 := by omega
        have k1 : (K : Int) + 4 ≤ 512 := by omega
        obtain ⟨E, hE⟩ : ∃ E, rdE (riRest j r0) = E := ⟨_, rfl⟩
        rw [hE] at ON HST
        obtain ⟨es, ep, eq⟩ := E
        unfold En.agg at ON
        have HON := Lib.hid ON
        clear ON hE hK hk2 hdrop hx hcv hcb
        simp only at HON
        go_wp2_with fail
        refine HON.out.mono ?_
        rintro e w3 ⟨rfl, hb3⟩
        have hownE3 := (own_below hownE hb3).alloc (.cells #[.string es, .int .u32 ep, .int .u16 eq] 27)
        have hownC3 := (own_below hownC hb3).alloc (.cells #[.string es, .int .u32 ep, .int .u16 eq] 27)
        have hX3 := (hX.below hb3 hX.lt).alloc (.cells #[.string es, .int .u32 ep, .int .u16 eq] 27)
        have hb3' : Below w.heap.size w (w3.alloc (.cells #[.string es, .int .u32 ep, .int .u16 eq] 27)) := ball (bto0 hb hb3) _
        have hsz3 : h + 1 ≤ (w3.alloc (.cells #[.string es, .int .u32 ep, .int .u16 eq] 27)).heap.size := by have := hb3.size; simp; omega
        have d00 : (w3.alloc (.cells #[.string es, .int .u32 ep, .int .u16 eq] 27)).cell? ⟨h, 0, none⟩ = some (.int .u8 3) := hX3.cell 0
        clear hownE hownC hX c00 c01
        have H3 := Lib.hid (And.intro hownE3 (And.intro hX3 (And.intro hb3' (And.intro hsz3 hownC3))))
        clear hownE3 hX3 hb3' hownC3
        go_wp2_with (at_builtin; go_loud (refine wpList_pushX (news := En.cells ⟨es, ep, eq⟩) rfl _ _ 29 rfl (h + 1) 27 i0 _ 3 24 Try.underlying29 hi0 hz0 hs0 hy0 rfl (by decide) u8 j _ rfl H3.out.1 rfl (w3.heap.size + 1) rfl (by simp) rfl (cells_oneE _) (by omega) (by omega) H3.out.2.2.2.1 ?_); intro v4 w4 hownE4 hg4; have d04 : w4.cell? ⟨h, 0, none⟩ = some (.int .u8 3) := (H3.out.2.1.below (belowX_grown H3.out.1 (Nat.le_refl _) H3.out.2.2.2.1 hg4 (Below.refl _ _)) (by omega)).cell 0)
        have hk4 := belowX_grown H3.out.1 (Nat.le_refl _) H3.out.2.2.2.1 hg4 (Below.refl _ _)
        have hb4 : Below w.heap.size w w4 := belowX_grown H3.out.1 (by omega) H3.out.2.2.2.1 hg4 H3.out.2.2.1
        have hX4 := H3.out.2.1.below hk4 (by omega)
        have hownC4 := ownX_grown H3.out.1 H3.out.2.2.2.2 (by decide) hg4
        have hsz4 := Nat.le_trans hsz3 hk4.size
        have H4 := Lib.hid (And.intro hownE4 (And.intro hownC4 (And.intro hX4 (And.intro hb4 hsz4))))
        clear hownE4 hownC4 hX4 hb4 hk4 hg4 H3 d00
        refine (V4.out _).mono ?_
        rintro e w5 ⟨rfl, rfl⟩
        go_wp2_with (at_builtin; go_loud (refine wpList_pushX (news := [.int .u32 (x : Int)]) rfl _ _ 44 rfl (h + 1) 22 i1 _ 1 4 Try.underlying44 hi1 hz1 hs1 hy1 rfl (by decide) u9 (j + 1) _ rfl H4.out.2.1 rfl _ rfl rfl rfl (by intro u hu; rw [List.mem_singleton] at hu; subst hu; rfl) (by omega) (by omega) H4.out.2.2.2.2 ?_); intro v6 w6 hownC6 hg6)
        have hk6 := belowX_grown H4.out.2.1 (Nat.le_refl _) H4.out.2.2.2.2 hg6 (Below.refl _ _)
        have hb6 : Below w.heap.size w w6 := belowX_grown H4.out.2.1 (by omega) H4.out.2.2.2.2 hg6 H4.out.2.2.2.1
        have hownE6 := ownX_grown H4.out.2.1 H4.out.1 (by decide) hg6
        go_roundw
        case rel =>
          refine ⟨j + 1, K + 4, by omega, by go_num, by go_num, h4, by rw [HST.out.2.1]; exact HST.out.2.2.2.2, HST.out.2.2.1, HST.out.2.2.2.1, ?_, ?_, H4.out.2.2.1.below hk6 (by omega), hb6, Nat.le_trans hsz4 hk6.size⟩
          · rw [HST.out.1, List.map_append]
            show w6.ownsRow _ _ _ _ _ (vE (_ ++ [_]))
            rw [vE_snoc]; exact hownE6
          · rw [HST.out.1, List.map_append, ← List.cons_append]
            show w6.ownsRow _ _ _ _ _ (vN (_ ++ [x]))
            rw [vN_snoc]; exact hownC6
        case measure => simp [intOf]; omega
    · obtain rfl : j = C := by omega
      obtain ⟨R, hR⟩ : ∃ R, riRest j r0 = R := ⟨_, rfl⟩
      rw [hR] at hdrop
      have hM : mayEn ((riMany j r0).map Prod.fst) = riseE ((riMany j r0).map Prod.fst) := by rw [small_mayEn, hsm]; rfl
      have HD := Lib.hid hdrop
      have HF := Lib.hid (And.intro hsh (And.intro hR hM))
      clear hsh hR hM hsm hdrop
      go_wp2_with fail
      go_loop [15] (fun iv => ∃ m : Nat, P ≤ m ∧ m ≤ 512 ∧ iv = .int .i64 (m : Int) ∧ allZ R = allZ (L.drop m)) (fun iv => 512 - (intOf iv).toNat)
      case atStart => exact ⟨P, Nat.le_refl _, hP, rfl, by rw [HD.out]⟩
      case round =>
        obtain ⟨m, hm0, hm1, rfl, hz⟩ := hrel
        have Hz := Lib.hid hz; clear hz
        have m0 : (0 : Int) ≤ (m : Int) := by omega
        by_cases hm : m < 512
        · have m1 : (m : Int) < 512 := by omega
          have g1 : m < (str L).size := by omega
          have hx : L[m]? = some (L[m]'(by rw [Hl.out]; exact hm)) := List.getElem?_eq_getElem _
          have hg := str_get g1 hx
          have hzd := allZ_drop hx
          obtain ⟨x, hxe⟩ : ∃ x, L[m]'(by rw [Hl.out]; exact hm) = x := ⟨_, rfl⟩
          rw [hxe] at hg hzd
          have Hzd := Lib.hid hzd
          clear hx hxe hzd
          by_cases hx0 : x = 0
          · subst hx0
            have e0 : (str L)[m].toNat = 0 := by rw [hg]; rfl
            have hnx : Hid (allZ R = allZ (L.drop (m + 1))) := Lib.hid (by rw [Hz.out, Hzd.out]; rfl)
            clear hg Hz Hzd
            go_wp2
            go_round
            case rel => exact ⟨m + 1, by omega, by omega, by go_num, hnx.out⟩
            case measure => simp [intOf]; omega
          · have hnx : Hid (allZ R = false) := Lib.hid (by rw [Hz.out, Hzd.out]; simp [hx0])
            have hx1 : x.toNat ≠ 0 := fun e => hx0 (UInt8.toNat_inj.1 e)
            have e1 : ((str L)[m].toNat == 0) = false := by rw [hg]; simpa using hx1
            have e2 : (((str L)[m].toNat : Int) == 0) = false := by rw [hg]; simp; omega
            have e3 : ((str L)[m].toNat != 0) = true := by rw [hg]; simpa using hx1
            have e4 : (((str L)[m].toNat : Int) != 0) = true := by rw [hg]; simp; omega
            clear hg Hz Hzd hx0 hx1
            go_wp2
            refine bodyPost_ret (v := .tuple #[.int .i64 (-1), .int .u32 0, _, _]) (by simp [results, Try.results25, go_sem]; exact ⟨rfl, rfl⟩) rfl ?_
            rw [HF.out.2.1, hnx.out, Bool.and_false, Bool.false_and]
            exact ⟨_, _, rfl, by (with_reducible repeat (first | exact hb | refine ball ?_ _))⟩
        · obtain rfl : m = 512 := by omega
          have hZ : allZ R = true := by rw [Hz.out, List.drop_eq_nil_of_le (by rw [Hl.out]; exact Nat.le_refl _)]; rfl
          have HZ := Lib.hid hZ
          clear hZ Hz
          obtain ⟨A5, c5, rfl, hc5⟩ := own_form hownE
          have hro := Reads.of_own hownE
          have RI := rriseE_any A5 j c5 ((riMany j r0).map Prod.fst) wr hro (by omega)
          by_cases hri : riseE ((riMany j r0).map Prod.fst) = true
          rotate_left
          · have hri' : riseE ((riMany j r0).map Prod.fst) = false := by simpa using hri
            rw [hri'] at RI
            have HRI := Lib.hid RI
            have Hri := Lib.hid hri'
            clear RI hri hri'
            go_wp2_with fail
            refine HRI.out.mono ?_
            rintro e w3 ⟨rfl, hb3⟩
            have hbw3 := bto0 hb hb3
            go_wp2
            refine bodyPost_ret (v := .tuple #[.int .i64 (-1), .int .u32 0, _, _]) (by simp [results, Try.results25, go_sem]; exact ⟨rfl, rfl⟩) rfl ?_
            rw [HF.out.2.2, Hri.out, Bool.and_false]
            exact ⟨_, _, rfl, by (with_reducible repeat (first | exact hbw3 | refine ball ?_ _))⟩
          · rw [hri] at RI
            have HRI := Lib.hid RI
            have Hri := Lib.hid hri
            clear RI hri
            obtain ⟨A6, c6, rfl, hc6⟩ := own_form hownC
            have hrc := Reads.of_own hownC
            go_wp2_with fail
            refine HRI.out.mono ?_
            rintro e w3 ⟨rfl, hb3⟩
            have hX3 := hX.below hb3 hX.lt
            have d00 : w3.cell? ⟨h, 0, none⟩ = some (.int .u8 3) := hX3.cell 0
            have d02 : w3.cell? ⟨h, 2, none⟩ = some (.int .u32 0) := hX3.cell 2
            clear c00 c01
            go_wp2_with fail
            go_quiet (fail)
            go_wp2
            have hbw3 := bto0 hb hb3
            refine bodyPost_ret (v := .tuple #[.int .i64 1, .int .u32 0, .slice A6 (j + 1) c6, .slice A5 j c5]) (by simp [results, Try.results25, go_sem]) rfl ?_
            rw [HF.out.1, HF.out.2.1, HZ.out, HF.out.2.2, Hri.out]
            refine ⟨A6, c6, A5, c5, by simp [riMany_len], ?_, ?_, bdr hbw3 _⟩
            · rw [List.length_cons, List.length_map, riMany_len]; exact ((hrc.below hb3).more hb3.size)
            · rw [List.length_map, riMany_len]; exact ((hro.below hb3).more hb3.size)
end Go.Proofs.Ytgdipljaddodhaa
