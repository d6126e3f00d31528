/-
  Several texts in one: M9 Ma1.
-/
import Derived.Test.YtgndebdoljnheaaGreatDoorMqba
import Derived.Test.YtgndebdoljnheaaGreatDoorMqay
/-
  The program's Analyze.
-/
namespace Go.Proofs.YtgndebdoljnheaaGreatDoor
section
set_option linter.unusedSimpArgs false
set_option linter.unusedVariables false
open Go.RowKit

set_option maxRecDepth 100000 in
set_option maxHeartbeats 8000000 in
theorem analyze_any (n : Nat) (hn : n ≤ 300) (RA : Option Addr) (rn rc : Nat) (rws : List Rv) (w : World) (hR : RowsIn w RA rn rws) (hrn : rn ≤ 100000) :
    Calls Tryz.prog 7 #[.int .i64 (n : Int), .slice RA rn rc] w (RetAn w n rws) := by
  obtain ⟨i1, hi1, hz1, hs1, hy1⟩ := int_info8 Tryz.infoV13
  have hl : rws.length = rn := by have := hR.r.1; rw [vRv_len] at this; omega
  have mk := mkI13 n (by omega)
  have n0 : (0 : Int) ≤ (n : Int) := by omega
  have nI : (n : Int) ≤ 300 := by omega
  have rI : (rn : Int) ≤ 100000 := by omega
  have H0 := Lib.hid (And.intro hR hl)
  clear hR hl
  go_enter Tryz.func7, Tryz.ntmps7
  go_wp2_with fail
  have hb2 := ball (ball (Below.refl w.heap.size w) (.cells (madeCells #[.int .i64 0] n) 3)) (.cells (madeCells #[.int .i64 0] n) 3)
  have hP0 : Blk ((w.alloc (.cells (madeCells #[.int .i64 0] n) 3)).alloc (.cells (madeCells #[.int .i64 0] n) 3)) w.heap.size 3 (intsA (List.replicate n 0)) := by rw [made_ints]; exact (Blk.new _ _ _).alloc _
  have hP1 : Blk ((w.alloc (.cells (madeCells #[.int .i64 0] n) 3)).alloc (.cells (madeCells #[.int .i64 0] n) 3)) (w.heap.size + 1) 3 (intsA (List.replicate n 0)) := by rw [made_ints]; exact Blk.newAt (by simp)
  have HP := Lib.hid (And.intro hb2 (And.intro hP0 hP1))
  clear hb2 hP0 hP1
  go_region
  · have HA : Hid (An w w.heap.size (w.heap.size + 1) (List.replicate n 0) (List.replicate n 0) ((w.alloc (.cells (madeCells #[.int .i64 0] n) 3)).alloc (.cells (madeCells #[.int .i64 0] n) 3)).drew) := Lib.hid ⟨HP.out.1.drew, HP.out.2.1, HP.out.2.2, by omega, Nat.le_refl _, by omega⟩
    obtain ⟨W2, hW2⟩ : ∃ W2, ((w.alloc (.cells (madeCells #[.int .i64 0] n) 3)).alloc (.cells (madeCells #[.int .i64 0] n) 3)).drew = W2 := ⟨_, rfl⟩
    obtain ⟨D, hD⟩ : ∃ D, w.heap.size = D := ⟨_, rfl⟩
    obtain ⟨N, hN⟩ : ∃ N, w.heap.size + 1 = N := ⟨_, rfl⟩
    rw [hW2, hN] at HA
    rw [hW2, hN]
    have HA2 : Hid (An w D N (List.replicate n 0) (List.replicate n 0) W2) := by rw [← hD]; exact HA
    rw [hD]
    have HD := Lib.hid (And.intro hD hN)
    clear hD hN hW2 HP mk HA
    go_wp2_with fail
    go_loopw [23] (fun u23 wr => ∃ (i : Nat) (ds ns : List Int), u23 = .int .i64 i ∧ i ≤ n ∧ ds.length = n ∧ ns.length = n ∧ An w D N ds ns wr ∧ ∀ j, j < i → DN13 rws ds ns j) (fun u23 _ => n - (intOf u23).toNat)
    case atStart => exact ⟨0, _, _, rfl, by omega, by simp, by simp, HA2.out, fun j hj => by omega⟩
    case round =>
      obtain ⟨wo, rfl⟩ : ∃ wo : World, wo = wr := ⟨_, rfl⟩
      obtain ⟨i, ds, ns, rfl, hi, hds, hns, hA, hdn⟩ := hrel
      have i0 : (0 : Int) ≤ (i : Int) := by omega
      by_cases hlt : i < n
      · have i1' : (i : Int) < (n : Int) := by omega
        have HO := Lib.hid (And.intro hA (And.intro hdn (And.intro hds hns)))
        clear hA hdn hds hns
        go_wp2_with fail
        go_loopw [9, 28] (fun u9 u28 wr => ∃ (k : Nat) (A9 : Option Addr) (c9 m9 : Nat), u9 = .slice A9 m9 c9 ∧ u28 = .int .i64 k ∧ k ≤ rn ∧ m9 ≤ k ∧ wr.ownsRow w.heap.size 35 3 (.slice A9 m9 c9) m9 (vV (col13 i (rws.take k))) ∧ An w D N ds ns wr) (fun _ u28 _ => rn - (intOf u28).toNat)
        case atStart => exact ⟨0, none, 0, 0, rfl, rfl, by omega, by omega, ⟨rfl, .inl ⟨rfl, rfl⟩⟩, HO.out.1⟩
        case round =>
          obtain ⟨wi, rfl⟩ : ∃ wi : World, wi = wr := ⟨_, rfl⟩
          obtain ⟨k, A9, c9, m9, rfl, rfl, hk, hm9, hown, hA⟩ := hrel
          have k0 : (0 : Int) ≤ (k : Int) := by omega
          have hzw := hA.size
          by_cases hlt2 : k < rn
          · have k1 : (k : Int) < (rn : Int) := by omega
            have hRi := H0.out.1.below hA.bel
            obtain ⟨ad, r, hRA, had, hr, hrc⟩ := hRi.r.rv_ hlt2
            have hre := hRi.e r (List.mem_of_getElem? hr)
            have hrl : r.l.length = r.n := by have := hre.1.1; rw [vV_len] at this; omega
            have hct := col13_take (i := i) hr
            have HI := Lib.hid (And.intro hown (And.intro hA (And.intro hct hrl)))
            obtain ⟨rA, rN, rC, rL⟩ := r
            simp only at hre hrl hrc
            have hrn2 : rN ≤ maxLen := hre.2.1
            unfold maxLen at hrn2
            have rNI : (rN : Int) ≤ 9223372036854775807 := by omega
            subst hRA
            by_cases hin : i < rN
            · obtain ⟨ad2, v, hrA, had2, hv, p0, p1, p2⟩ := hre.1.val hin
              subst hrA
              have iN : (i : Int) < (rN : Int) := by omega
              by_cases hv0 : v.k = 0
              · have e1 : (v.k != 0) = false := by simp [hv0]
                have hpk : pick13 i ⟨some ad2, rN, rC, rL⟩ = [] := by unfold pick13; simp only [hv, hv0, if_pos]
                have HPK := Lib.hid hpk
                clear hown hA hRi hre hrl hct hpk hr hv had had2 hv0
                go_wp2_with fail
                exact ⟨⟨k + 1, A9, c9, m9, rfl, by go_num, by omega, by omega, by rw [HI.out.2.2.1, HPK.out, List.append_nil]; exact HI.out.1, HI.out.2.1⟩, by simp [intOf]; omega⟩
              · have e1 : (v.k != 0) = true := by simp [hv0]
                have hpk : pick13 i ⟨some ad2, rN, rC, rL⟩ = [v] := by unfold pick13; simp only [hv, if_neg hv0]
                have HPK := Lib.hid hpk
                clear hown hA hRi hre hrl hct hpk hr hv had had2 hv0
                go_wp2_with (at_builtin; refine wpList_pushR (news := v.cells) rfl (.tmp 44) (.tmp 49) 33 rfl w.heap.size 35 i1 _ 3 32 Tryz.underlying33 hi1 hz1 hs1 hy1 rfl (by decide) (.slice A9 m9 c9) m9 _ (by first | rfl | (simp [Act.eval, Act.put]; done)) HI.out.1 rfl _ (by first | rfl | (simp [Act.eval, Act.put]; done)) (by first | rfl | simp) rfl (by intro u hu; simp only [Vl.cells, List.mem_cons, List.not_mem_nil, or_false] at hu; rcases hu with rfl | rfl | rfl <;> rfl) (by omega) (by omega) (by omega) ?_; intro v9 w9 own9 kp9 ob9; obtain ⟨A10, c10, rfl, hc10⟩ := own_form own9; have a9 := HI.out.2.1.pushed HI.out.1 (by decide) (Nat.le_refl _) kp9; have H9 := Lib.hid (And.intro own9 a9); clear own9 kp9 ob9 a9)
                refine ⟨⟨k + 1, A10, c10, m9 + 1, rfl, by go_num, by omega, by omega, ?_, H9.out.2⟩, by simp [intOf]; omega⟩
                rw [HI.out.2.2.1, HPK.out]
                have h := H9.out.1
                unfold vV at h ⊢
                rw [List.flatMap_append]
                simpa using h
            · have iN : (rN : Int) ≤ (i : Int) := by omega
              have hpk : pick13 i ⟨rA, rN, rC, rL⟩ = [] := by unfold pick13; simp only [List.getElem?_eq_none (show rL.length ≤ i by omega)]
              have HPK := Lib.hid hpk
              clear hown hA hRi hre hrl hct hpk hr had
              go_wp2_with fail
              exact ⟨⟨k + 1, A9, c9, m9, rfl, by go_num, by omega, by omega, by rw [HI.out.2.2.1, HPK.out, List.append_nil]; exact HI.out.1, HI.out.2.1⟩, by simp [intOf]; omega⟩
          · obtain rfl : k = rn := by omega
            have htk : rws.take k = rws := List.take_of_length_le (by rw [H0.out.2]; exact Nat.le_refl _)
            rw [htk] at hown
            have hml : (col13 i rws).length = m9 := by have := hown.1; rw [vV_len] at this; omega
            have SO := Lib.hid (sort13_any (col13 i rws) m9 A9 c9 w.heap.size wi hown (by omega))
            have mI : (m9 : Int) ≤ 100000 := by omega
            have HI := Lib.hid (And.intro hown (And.intro hA hml))
            clear hown hA hml hlt2 htk
            go_wp2_with fail
            refine SO.out.mono ?_
            rintro e w5 ⟨rfl, l', hpm, hso, own5, gr5⟩
            have a5 := HI.out.2.1.grown HI.out.1 (by decide) (Nat.le_refl _) gr5
            obtain ⟨x5, hx5⟩ : ∃ x, ns[i]? = some x := ⟨_, List.getElem?_eq_getElem (by rw [HO.out.2.2.2]; exact hlt)⟩
            obtain ⟨y5, hy5⟩ : ∃ x, ds[i]? = some x := ⟨_, List.getElem?_eq_getElem (by rw [HO.out.2.2.1]; exact hlt)⟩
            have cN : w5.cell? ⟨N, i, none⟩ = some (.int .i64 x5) := (a5.n.cell i).trans (intsA_at hx5)
            have fN := a5.n.frozen i
            have lN := a5.n.lt
            have hll : l'.length = m9 := by have := own5.1; rw [vV_len] at this; omega
            have km : (m9 : Int) ≤ (k : Int) := by omega
            have a6 := a5.setN i ((k : Int) - (m9 : Int))
            have own6 := own_far13 own5 a5.n (by decide) i (.int .i64 ((k : Int) - (m9 : Int)))
            obtain ⟨W6, hW6⟩ : ∃ W6, w5.setCell ⟨N, i, none⟩ (.int .i64 ((k : Int) - (m9 : Int))) = W6 := ⟨_, rfl⟩
            rw [hW6] at a6 own6
            have DF := Lib.hid (diff13_any A9 m9 c9 l' W6 (Reads.of_own own6) (by omega))
            have H6 := Lib.hid (And.intro a6 (And.intro own6 (And.intro hpm (And.intro hso hll))))
            clear a5 own5 gr5 a6 own6 hpm hso hll hx5 SO
            go_wp2_with fail
            (try rw [hW6])
            clear hW6 cN fN lN
            refine DF.out.mono ?_
            rintro e w7 ⟨rfl, hb7⟩
            have a7 := H6.out.1.below hb7
            have cD : w7.cell? ⟨D, i, none⟩ = some (.int .i64 y5) := (a7.d.cell i).trans (intsA_at hy5)
            have fD := a7.d.frozen i
            have lD := a7.d.lt
            obtain ⟨Q, hQ⟩ : ∃ Q, cntK eqV l' m9 = Q := ⟨_, rfl⟩
            rw [hQ]
            have H7 := Lib.hid (And.intro (a7.setD i (Q : Int)) hQ)
            clear a7 hb7 hy5 hQ DF
            go_wp2_with fail
            refine ⟨⟨i + 1, ds.set i (Q : Int), ns.set i ((k : Int) - (m9 : Int)), by go_num, by omega, by rw [List.length_set]; exact HO.out.2.2.1, by rw [List.length_set]; exact HO.out.2.2.2, H7.out.1, fun j hj => ?_⟩, by simp [intOf]; omega⟩
            rcases Nat.lt_or_ge j i with h1 | h1
            · exact (HO.out.2.1 j h1).other (by omega) _ _
            · obtain rfl : j = i := by omega
              refine ⟨by rw [List.getElem?_set_self (by rw [HO.out.2.2.2]; exact hlt), H0.out.2, HI.out.2.2], ?_⟩
              obtain ⟨r, hr1, hr2, _⟩ := reps_sorted eqV_eqR (fun x y => cmpV x y ≤ 0) l' H6.out.2.2.2.1 eqV_le m9 (by rw [H6.out.2.2.2.2]; exact Nat.le_refl _)
              rw [List.take_of_length_le (by rw [H6.out.2.2.2.2]; exact Nat.le_refl _)] at hr1
              exact ⟨r, hr1.perm H6.out.2.2.1, by rw [List.getElem?_set_self (by rw [HO.out.2.2.1]; exact hlt), hr2, H7.out.2]⟩
      · obtain rfl : i = n := by omega
        have HF := Lib.hid (And.intro hA hdn)
        clear hA hdn hlt
        go_wp2
        go_ret2
        refine ⟨some ⟨D, 0, none⟩, some ⟨N, 0, none⟩, i, i, ds, ns, rfl, ?_, ?_, HF.out.1.bel, HF.out.2⟩
        · exact reads_ints13 HF.out.1.d (by assumption)
        · exact reads_ints13 HF.out.1.n (by assumption)
  · have HA : Hid (An w (w.heap.size + 1) w.heap.size (List.replicate n 0) (List.replicate n 0) ((w.alloc (.cells (madeCells #[.int .i64 0] n) 3)).alloc (.cells (madeCells #[.int .i64 0] n) 3)).drew) := Lib.hid ⟨HP.out.1.drew, HP.out.2.2, HP.out.2.1, by omega, by omega, Nat.le_refl _⟩
    obtain ⟨W2, hW2⟩ : ∃ W2, ((w.alloc (.cells (madeCells #[.int .i64 0] n) 3)).alloc (.cells (madeCells #[.int .i64 0] n) 3)).drew = W2 := ⟨_, rfl⟩
    obtain ⟨D, hD⟩ : ∃ D, w.heap.size + 1 = D := ⟨_, rfl⟩
    obtain ⟨N, hN⟩ : ∃ N, w.heap.size = N := ⟨_, rfl⟩
    rw [hW2, hD] at HA
    rw [hW2, hD]
    have HA2 : Hid (An w D N (List.replicate n 0) (List.replicate n 0) W2) := by rw [← hN]; exact HA
    rw [hN]
    have HD := Lib.hid (And.intro hD hN)
    clear hD hN hW2 HP mk HA
    go_wp2_with fail
    go_loopw [23] (fun u23 wr => ∃ (i : Nat) (ds ns : List Int), u23 = .int .i64 i ∧ i ≤ n ∧ ds.length = n ∧ ns.length = n ∧ An w D N ds ns wr ∧ ∀ j, j < i → DN13 rws ds ns j) (fun u23 _ => n - (intOf u23).toNat)
    case atStart => exact ⟨0, _, _, rfl, by omega, by simp, by simp, HA2.out, fun j hj => by omega⟩
    case round =>
      obtain ⟨wo, rfl⟩ : ∃ wo : World, wo = wr := ⟨_, rfl⟩
      obtain ⟨i, ds, ns, rfl, hi, hds, hns, hA, hdn⟩ := hrel
      have i0 : (0 : Int) ≤ (i : Int) := by omega
      by_cases hlt : i < n
      · have i1' : (i : Int) < (n : Int) := by omega
        have HO := Lib.hid (And.intro hA (And.intro hdn (And.intro hds hns)))
        clear hA hdn hds hns
        go_wp2_with fail
        go_loopw [9, 28] (fun u9 u28 wr => ∃ (k : Nat) (A9 : Option Addr) (c9 m9 : Nat), u9 = .slice A9 m9 c9 ∧ u28 = .int .i64 k ∧ k ≤ rn ∧ m9 ≤ k ∧ wr.ownsRow w.heap.size 35 3 (.slice A9 m9 c9) m9 (vV (col13 i (rws.take k))) ∧ An w D N ds ns wr) (fun _ u28 _ => rn - (intOf u28).toNat)
        case atStart => exact ⟨0, none, 0, 0, rfl, rfl, by omega, by omega, ⟨rfl, .inl ⟨rfl, rfl⟩⟩, HO.out.1⟩
        case round =>
          obtain ⟨wi, rfl⟩ : ∃ wi : World, wi = wr := ⟨_, rfl⟩
          obtain ⟨k, A9, c9, m9, rfl, rfl, hk, hm9, hown, hA⟩ := hrel
          have k0 : (0 : Int) ≤ (k : Int) := by omega
          have hzw := hA.size
          by_cases hlt2 : k < rn
          · have k1 : (k : Int) < (rn : Int) := by omega
            have hRi := H0.out.1.below hA.bel
            obtain ⟨ad, r, hRA, had, hr, hrc⟩ := hRi.r.rv_ hlt2
            have hre := hRi.e r (List.mem_of_getElem? hr)
            have hrl : r.l.length = r.n := by have := hre.1.1; rw [vV_len] at this; omega
            have hct := col13_take (i := i) hr
            have HI := Lib.hid (And.intro hown (And.intro hA (And.intro hct hrl)))
            obtain ⟨rA, rN, rC, rL⟩ := r
            simp only at hre hrl hrc
            have hrn2 : rN ≤ maxLen := hre.2.1
            unfold maxLen at hrn2
            have rNI : (rN : Int) ≤ 9223372036854775807 := by omega
            subst hRA
            by_cases hin : i < rN
            · obtain ⟨ad2, v, hrA, had2, hv, p0, p1, p2⟩ := hre.1.val hin
              subst hrA
              have iN : (i : Int) < (rN : Int) := by omega
              by_cases hv0 : v.k = 0
              · have e1 : (v.k != 0) = false := by simp [hv0]
                have hpk : pick13 i ⟨some ad2, rN, rC, rL⟩ = [] := by unfold pick13; simp only [hv, hv0, if_pos]
                have HPK := Lib.hid hpk
                clear hown hA hRi hre hrl hct hpk hr hv had had2 hv0
                go_wp2_with fail
                exact ⟨⟨k + 1, A9, c9, m9, rfl, by go_num, by omega, by omega, by rw [HI.out.2.2.1, HPK.out, List.append_nil]; exact HI.out.1, HI.out.2.1⟩, by simp [intOf]; omega⟩
              · have e1 : (v.k != 0) = true := by simp [hv0]
                have hpk : pick13 i ⟨some ad2, rN, rC, rL⟩ = [v] := by unfold pick13; simp only [hv, if_neg hv0]
                have HPK := Lib.hid hpk
                clear hown hA hRi hre hrl hct hpk hr hv had had2 hv0
                go_wp2_with (at_builtin; refine wpList_pushR (news := v.cells) rfl (.tmp 44) (.tmp 49) 33 rfl w.heap.size 35 i1 _ 3 32 Tryz.underlying33 hi1 hz1 hs1 hy1 rfl (by decide) (.slice A9 m9 c9) m9 _ (by first | rfl | (simp [Act.eval, Act.put]; done)) HI.out.1 rfl _ (by first | rfl | (simp [Act.eval, Act.put]; done)) (by first | rfl | simp) rfl (by intro u hu; simp only [Vl.cells, List.mem_cons, List.not_mem_nil, or_false] at hu; rcases hu with rfl | rfl | rfl <;> rfl) (by omega) (by omega) (by omega) ?_; intro v9 w9 own9 kp9 ob9; obtain ⟨A10, c10, rfl, hc10⟩ := own_form own9; have a9 := HI.out.2.1.pushed HI.out.1 (by decide) (Nat.le_refl _) kp9; have H9 := Lib.hid (And.intro own9 a9); clear own9 kp9 ob9 a9)
                refine ⟨⟨k + 1, A10, c10, m9 + 1, rfl, by go_num, by omega, by omega, ?_, H9.out.2⟩, by simp [intOf]; omega⟩
                rw [HI.out.2.2.1, HPK.out]
                have h := H9.out.1
                unfold vV at h ⊢
                rw [List.flatMap_append]
                simpa using h
            · have iN : (rN : Int) ≤ (i : Int) := by omega
              have hpk : pick13 i ⟨rA, rN, rC, rL⟩ = [] := by unfold pick13; simp only [List.getElem?_eq_none (show rL.length ≤ i by omega)]
              have HPK := Lib.hid hpk
              clear hown hA hRi hre hrl hct hpk hr had
              go_wp2_with fail
              exact ⟨⟨k + 1, A9, c9, m9, rfl, by go_num, by omega, by omega, by rw [HI.out.2.2.1, HPK.out, List.append_nil]; exact HI.out.1, HI.out.2.1⟩, by simp [intOf]; omega⟩
          · obtain rfl : k = rn := by omega
            have htk : rws.take k = rws := List.take_of_length_le (by rw [H0.out.2]; exact Nat.le_refl _)
            rw [htk] at hown
            have hml : (col13 i rws).length = m9 := by have := hown.1; rw [vV_len] at this; omega
            have SO := Lib.hid (sort13_any (col13 i rws) m9 A9 c9 w.heap.size wi hown (by omega))
            have mI : (m9 : Int) ≤ 100000 := by omega
            have HI := Lib.hid (And.intro hown (And.intro hA hml))
            clear hown hA hml hlt2 htk
            go_wp2_with fail
            refine SO.out.mono ?_
            rintro e w5 ⟨rfl, l', hpm, hso, own5, gr5⟩
            have a5 := HI.out.2.1.grown HI.out.1 (by decide) (Nat.le_refl _) gr5
            obtain ⟨x5, hx5⟩ : ∃ x, ns[i]? = some x := ⟨_, List.getElem?_eq_getElem (by rw [HO.out.2.2.2]; exact hlt)⟩
            obtain ⟨y5, hy5⟩ : ∃ x, ds[i]? = some x := ⟨_, List.getElem?_eq_getElem (by rw [HO.out.2.2.1]; exact hlt)⟩
            have cN : w5.cell? ⟨N, i, none⟩ = some (.int .i64 x5) := (a5.n.cell i).trans (intsA_at hx5)
            have fN := a5.n.frozen i
            have lN := a5.n.lt
            have hll : l'.length = m9 := by have := own5.1; rw [vV_len] at this; omega
            have km : (m9 : Int) ≤ (k : Int) := by omega
            have a6 := a5.setN i ((k : Int) - (m9 : Int))
            have own6 := own_far13 own5 a5.n (by decide) i (.int .i64 ((k : Int) - (m9 : Int)))
            obtain ⟨W6, hW6⟩ : ∃ W6, w5.setCell ⟨N, i, none⟩ (.int .i64 ((k : Int) - (m9 : Int))) = W6 := ⟨_, rfl⟩
            rw [hW6] at a6 own6
            have DF := Lib.hid (diff13_any A9 m9 c9 l' W6 (Reads.of_own own6) (by omega))
            have H6 := Lib.hid (And.intro a6 (And.intro own6 (And.intro hpm (And.intro hso hll))))
            clear a5 own5 gr5 a6 own6 hpm hso hll hx5 SO
            go_wp2_with fail
            (try rw [hW6])
            clear hW6 cN fN lN
            refine DF.out.mono ?_
            rintro e w7 ⟨rfl, hb7⟩
            have a7 := H6.out.1.below hb7
            have cD : w7.cell? ⟨D, i, none⟩ = some (.int .i64 y5) := (a7.d.cell i).trans (intsA_at hy5)
            have fD := a7.d.frozen i
            have lD := a7.d.lt
            obtain ⟨Q, hQ⟩ : ∃ Q, cntK eqV l' m9 = Q := ⟨_, rfl⟩
            rw [hQ]
            have H7 := Lib.hid (And.intro (a7.setD i (Q : Int)) hQ)
            clear a7 hb7 hy5 hQ DF
            go_wp2_with fail
            refine ⟨⟨i + 1, ds.set i (Q : Int), ns.set i ((k : Int) - (m9 : Int)), by go_num, by omega, by rw [List.length_set]; exact HO.out.2.2.1, by rw [List.length_set]; exact HO.out.2.2.2, H7.out.1, fun j hj => ?_⟩, by simp [intOf]; omega⟩
            rcases Nat.lt_or_ge j i with h1 | h1
            · exact (HO.out.2.1 j h1).other (by omega) _ _
            · obtain rfl : j = i := by omega
              refine ⟨by rw [List.getElem?_set_self (by rw [HO.out.2.2.2]; exact hlt), H0.out.2, HI.out.2.2], ?_⟩
              obtain ⟨r, hr1, hr2, _⟩ := reps_sorted eqV_eqR (fun x y => cmpV x y ≤ 0) l' H6.out.2.2.2.1 eqV_le m9 (by rw [H6.out.2.2.2.2]; exact Nat.le_refl _)
              rw [List.take_of_length_le (by rw [H6.out.2.2.2.2]; exact Nat.le_refl _)] at hr1
              exact ⟨r, hr1.perm H6.out.2.2.1, by rw [List.getElem?_set_self (by rw [HO.out.2.2.1]; exact hlt), hr2, H7.out.2]⟩
      · obtain rfl : i = n := by omega
        have HF := Lib.hid (And.intro hA hdn)
        clear hA hdn hlt
        go_wp2
        go_ret2
        refine ⟨some ⟨D, 0, none⟩, some ⟨N, 0, none⟩, i, i, ds, ns, rfl, ?_, ?_, HF.out.1.bel, HF.out.2⟩
        · exact reads_ints13 HF.out.1.d (by assumption)
        · exact reads_ints13 HF.out.1.n (by assumption)
end
end Go.Proofs.YtgndebdoljnheaaGreatDoor
/-
  The reference's rows of one value: Part, hasRow, Nulls.
-/
namespace Go.Proofs.YtgndebdoljnheaaGreatDoor
section
set_option linter.unusedSimpArgs false
set_option linter.unusedVariables false
open Go.RowKit

theorem own_grown13 {w w' : World} {base base2 : Nat} {e e2 : TypeId} {size size2 n n2 : Nat} {v v2 : Value} {xs xs2 : List Value} {o : Obj} (h : w.ownsRow base e size v n xs) (h2 : w.ownsRow base2 e2 size2 v2 n2 xs2) (hne : e ≠ e2) (hg : (w.alloc o).grownBy w' v.ownBlock) : w'.ownsRow base2 e2 size2 v2 n2 xs2 := by
  refine (h2.alloc o).kept hg ?_
  rcases h2.2 with ⟨rfl, _⟩ | ⟨g, cap, cur, rfl, _, hh, _⟩
  · exact .inl rfl
  · exact .inr fun e' => own_blk_ne h hh hne e'.symm
theorem add0_13 (ad : Addr) : ad.add 0 = ad := by unfold Addr.add; simp
def RetPa13 (w : World) (v : Vl) (e : Ending) (w' : World) : Prop := ∃ (A : Option Addr) (c : Nat), e = .returned (.slice A 1 c) ∧ w'.ownsRow w.heap.size 35 3 (.slice A 1 c) 1 (vV [v]) ∧ Below w.heap.size w w'
set_option maxRecDepth 100000 in
set_option maxHeartbeats 4000000 in
theorem part13_any (A : Option Addr) (c : Nat) (v : Vl) (A2 : Option Addr) (c2 : Nat) (w : World) (h1 : Reads w w.heap.size 3 A 1 (vV [v])) (h2 : Reads w w.heap.size 1 A2 1 (vI64 [0])) :
    Calls Tryz.prog 13 #[.slice A 1 c, .slice A2 1 c2] w (RetPa13 w v) := by
  obtain ⟨i1, hi1, hz1, hs1, hy1⟩ := int_info8 Tryz.infoV13
  have hE := own_empty w 35 3 (g := w.heap.size) rfl
  have hb0 := ball (Below.refl w.heap.size w) (.cells #[] 35)
  have H0 := Lib.hid (And.intro h1 (And.intro h2 (And.intro hE hb0)))
  clear h1 h2 hE hb0
  go_enter Tryz.func13, Tryz.ntmps13
  go_wp2_with fail
  go_loopw [5, 10] (fun u5 u10 wr => (u10 = .int .i64 0 ∧ u5 = .slice (some ⟨w.heap.size, 0, none⟩) 0 0 ∧ wr = w.alloc (.cells #[] 35)) ∨ (u10 = .int .i64 1 ∧ ∃ (A5 : Option Addr) (c5 : Nat), u5 = .slice A5 1 c5 ∧ wr.ownsRow w.heap.size 35 3 (.slice A5 1 c5) 1 (vV [v]) ∧ Below w.heap.size w wr)) (fun _ u10 _ => 1 - (intOf u10).toNat)
  case atStart => exact .inl ⟨rfl, rfl, rfl⟩
  case round =>
    rcases hrel with ⟨rfl, rfl, rfl⟩ | ⟨rfl, A5, c5, rfl, hown, hb⟩
    rotate_left
    · have HF := Lib.hid (And.intro hown hb)
      clear hown hb
      go_wp2
      go_ret
      exact ⟨A5, c5, rfl, HF.out.1, HF.out.2⟩
    · obtain ⟨ad, v', hA, had, hv, p0, p1, p2⟩ := (H0.out.1.below H0.out.2.2.2).val (k := 0) (by omega)
      injection hv with hv
      subst hv
      subst hA
      obtain ⟨ad2, u, hA2, had2, hu, q0⟩ := (H0.out.2.1.below H0.out.2.2.2).at_ (k := 0) (by omega)
      injection hu with hu
      subst hu
      subst hA2
      simp only [Nat.zero_mul, add0_13] at p0 p1 p2 q0
      go_wp2_with (at_builtin; refine wpList_pushR (news := v.cells) rfl (.tmp 13) (.tmp 21) 33 rfl w.heap.size 35 i1 _ 3 32 Tryz.underlying33 hi1 hz1 hs1 hy1 rfl (by decide) (.slice (some ⟨w.heap.size, 0, none⟩) 0 0) 0 _ (by first | rfl | (simp [Act.eval, Act.put]; done)) H0.out.2.2.1 rfl _ (by first | rfl | (simp [Act.eval, Act.put]; done)) (by first | rfl | simp) rfl (by intro u hu; simp only [Vl.cells, List.mem_cons, List.not_mem_nil, or_false] at hu; rcases hu with rfl | rfl | rfl <;> rfl) (by omega) (by omega) (by simp) ?_; intro v9 w9 own9 kp9 ob9; obtain ⟨A10, c10, rfl, hc10⟩ := own_form own9; have b9 := (H0.out.2.2.2.alloc (by simp) _).grown kp9 (by simp; omega) (fun g e => by have := (World.ownsRow.lt H0.out.2.2.1 g e).1; omega); have H9 := Lib.hid (And.intro own9 b9); clear own9 kp9 ob9 b9)
      refine ⟨.inr ⟨rfl, A10, c10, rfl, ?_, H9.out.2⟩, by simp [intOf]⟩
      have h := H9.out.1
      simpa [vV] using h
/-- Rows of one value each. -/
structure Ones (w : World) (A : Option Addr) (n : Nat) (rws : List Rv) (vs : List Vl) : Prop where
  r : Reads w w.heap.size 1 A n (vRv rws)
  len : vs.length = rws.length
  e : ∀ (k : Nat) (x : Rv), rws[k]? = some x → x.n = 1 ∧ ∃ v, vs[k]? = some v ∧ x.l = [v] ∧ Reads w w.heap.size 3 x.A 1 (vV [v])
  sz : ∀ v ∈ vs, v.s.size ≤ 1000000
theorem Ones.below {w w' : World} {A : Option Addr} {n : Nat} {rws : List Rv} {vs : List Vl} (h : Ones w A n rws vs) (hb : Below w.heap.size w w') : Ones w' A n rws vs :=
  ⟨(h.r.below hb).more hb.size, h.len, fun k x hx => by
    obtain ⟨h1, v, h2, h3, h4⟩ := h.e k x hx
    exact ⟨h1, v, h2, h3, (h4.below hb).more hb.size⟩, h.sz⟩
theorem rows_one (x y : Vl) : rowsV [x] [y] [] = if cmpV x y = 0 then 0 else cmpV x y := by
  unfold rowsV
  by_cases h : cmpV x y = 0
  · rw [if_pos h, if_pos h]
    rfl
  · rw [if_neg h, if_neg h]
    rfl
theorem rows_one0 (x y : Vl) : (rowsV [x] [y] [] == 0) = eqV x y := by
  rw [rows_one]
  unfold eqV
  by_cases h : cmpV x y = 0
  · simp [h]
  · simp [h]
set_option maxRecDepth 100000 in
set_option maxHeartbeats 4000000 in
theorem hasRow_any (A : Option Addr) (n c : Nat) (rws : List Rv) (vs : List Vl) (A2 : Option Addr) (c2 : Nat) (v : Vl) (w : World) (h : Ones w A n rws vs) (h2 : Reads w w.heap.size 3 A2 1 (vV [v])) (hv : v.s.size ≤ 1000000) (hn : n ≤ 100000) :
    Calls Tryz.prog 24 #[.slice A n c, .slice A2 1 c2] w (RetB w (.bool (vs.any fun y => eqV y v))) := by
  have hl : rws.length = n := by have := h.r.1; rw [vRv_len] at this; omega
  have nI : (n : Int) ≤ 100000 := by omega
  have H0 := Lib.hid (And.intro h (And.intro h2 (And.intro hv hl)))
  obtain ⟨R, hR⟩ : ∃ R, (vs.any fun y => eqV y v) = R := ⟨_, rfl⟩
  have HR := Lib.hid hR
  rw [hR]
  clear h h2 hv hl hR
  go_enter Tryz.func24, Tryz.ntmps24
  go_wp2_with fail
  go_loopw [8] (fun u8 wr => ∃ k : Nat, u8 = .int .i64 k ∧ k ≤ n ∧ ((vs.take k).any fun y => eqV y v) = false ∧ Below w.heap.size w wr) (fun u8 _ => n - (intOf u8).toNat)
  case atStart => exact ⟨0, rfl, by omega, rfl, Below.refl _ _⟩
  case round =>
    obtain ⟨k, rfl, hk, hany, hb⟩ := hrel
    have k0 : (0 : Int) ≤ (k : Int) := by omega
    by_cases hlt : k < n
    · have k1 : (k : Int) < (n : Int) := by omega
      have hO := H0.out.1.below hb
      obtain ⟨ad, r, hA, had, hr, hc⟩ := hO.r.rv_ hlt
      obtain ⟨e1, y, e2, e3, e4⟩ := hO.e k r hr
      obtain ⟨rA, rN, rC, rL⟩ := r
      simp only at e1 e3 e4 hc
      subst e1
      subst hA
      have RW : Hid (Calls Tryz.prog 43 #[.slice rA 1 rC, .slice A2 1 c2, .slice none 0 0] wr (RetB wr (.int .i64 (rowsV [y] [v] [])))) := Lib.hid (rrows_any rA A2 none 1 rC 1 c2 0 0 [y] [v] [] wr e4 ((H0.out.2.1.below hb).more hb.size) Reads.none_ (by decide) (fun u hu => by rw [List.mem_singleton] at hu; subst hu; exact H0.out.1.sz u (List.mem_of_getElem? e2)) (fun u hu => by rw [List.mem_singleton] at hu; subst hu; exact H0.out.2.2.1))
      have hz := rows_one0 y v
      obtain ⟨Z, hZ⟩ : ∃ Z, rowsV [y] [v] [] = Z := ⟨_, rfl⟩
      rw [hZ] at RW hz
      have hat : ((vs.take (k + 1)).any fun y => eqV y v) = eqV y v := by rw [List.take_add_one, e2, List.any_append, hany]; simp
      have HB := Lib.hid (And.intro hb (And.intro hat (And.intro hz e2)))
      clear hany hb hO hr had e2 e3 e4 hZ hat hz
      go_wp2_with fail
      refine RW.out.mono ?_
      rintro e w1 ⟨rfl, hb1⟩
      have HW := Lib.hid (bto0 HB.out.1 hb1)
      clear hb1 RW
      by_cases hq : Z = 0
      · have e9 : (Z == 0) = true := by simp [hq]
        have hRt : R = true := by
          rw [← HR.out, List.any_eq_true]
          exact ⟨y, List.mem_of_getElem? HB.out.2.2.2, by rw [← HB.out.2.2.1, e9]⟩
        have HT := Lib.hid hRt
        clear hq hRt
        go_wp2_with fail
        go_ret
        exact ⟨by rw [HT.out]; rfl, HW.out⟩
      · have e9 : (Z == 0) = false := by simp [hq]
        have hF : eqV y v = false := by rw [← HB.out.2.2.1, e9]
        have HF := Lib.hid hF
        clear hq hF
        go_wp2_with fail
        exact ⟨⟨k + 1, by go_num, by omega, by rw [HB.out.2.1]; exact HF.out, HW.out⟩, by simp [intOf]; omega⟩
    · obtain rfl : k = n := by omega
      have hRf : R = false := by
        rw [← HR.out]
        rwa [List.take_of_length_le (by rw [H0.out.1.len, H0.out.2.2.2]; exact Nat.le_refl _)] at hany
      have HF := Lib.hid (And.intro hRf hb)
      clear hany hb hRf hlt
      go_wp2_with fail
      go_ret
      exact ⟨by rw [HF.out.1]; rfl, HF.out.2⟩
def nul13 (vs : List Vl) : Nat := (vs.filter fun v => decide (v.k = 0)).length
set_option maxRecDepth 100000 in
set_option maxHeartbeats 4000000 in
theorem nulls13_any (A : Option Addr) (n c : Nat) (rws : List Rv) (vs : List Vl) (w : World) (h : Ones w A n rws vs) (hn : n ≤ 100000) :
    Calls Tryz.prog 9 #[.slice A n c, .int .i64 0] w (RetB w (.int .i64 (nul13 vs : Int))) := by
  have hl : rws.length = n := by have := h.r.1; rw [vRv_len] at this; omega
  have nI : (n : Int) ≤ 100000 := by omega
  have H0 := Lib.hid (And.intro h hl)
  clear h hl
  go_enter Tryz.func9, Tryz.ntmps9
  go_wp2_with fail
  go_loopw [5, 9] (fun u5 u9 wr => ∃ k q : Nat, u5 = .int .i64 q ∧ u9 = .int .i64 k ∧ k ≤ n ∧ q ≤ k ∧ nul13 (vs.take k) = q ∧ wr = w) (fun _ u9 _ => n - (intOf u9).toNat)
  case atStart => exact ⟨0, 0, rfl, rfl, by omega, by omega, rfl, rfl⟩
  case round =>
    obtain ⟨k, q, rfl, rfl, hk, hq, hnul, rfl⟩ := hrel
    have k0 : (0 : Int) ≤ (k : Int) := by omega
    have q0 : (0 : Int) ≤ (q : Int) := by omega
    have q1 : (q : Int) ≤ (k : Int) := by omega
    by_cases hlt : k < n
    · have k1 : (k : Int) < (n : Int) := by omega
      obtain ⟨ad, r, hA, had, hr, hc⟩ := H0.out.1.r.rv_ hlt
      obtain ⟨e1, y, e2, e3, e4⟩ := H0.out.1.e k r hr
      obtain ⟨rA, rN, rC, rL⟩ := r
      simp only at e1 e3 e4 hc
      subst e1
      subst hA
      obtain ⟨ad2, y', hA2, _, hy, p0, p1, p2⟩ := e4.val (k := 0) (by omega)
      injection hy with hy
      subst hy
      subst hA2
      simp only [Nat.zero_mul, add0_13] at p0 p1 p2
      have hnt : nul13 (vs.take (k + 1)) = q + (if y.k = 0 then 1 else 0) := by
        unfold nul13 at *
        rw [List.take_add_one, e2, List.filter_append, List.length_append, hnul]
        by_cases h : y.k = 0
        · simp [h]
        · simp [h]
      have HN := Lib.hid hnt
      clear hnul hr had e2 e3 e4 hnt
      by_cases hy0 : y.k = 0
      · have e9 : (y.k == 0) = true := by simp [hy0]
        have HY := Lib.hid hy0
        clear hy0
        go_wp2_with fail
        exact ⟨⟨k + 1, q + 1, by go_num, by go_num, by omega, by omega, by rw [HN.out, if_pos HY.out], by first | rfl | trivial⟩, by simp [intOf]; omega⟩
      · have e9 : (y.k == 0) = false := by simp [hy0]
        have HY := Lib.hid hy0
        clear hy0
        go_wp2_with fail
        exact ⟨⟨k + 1, q, rfl, by go_num, by omega, by omega, by rw [HN.out, if_neg HY.out, Nat.add_zero], by first | rfl | trivial⟩, by simp [intOf]; omega⟩
    · obtain rfl : k = n := by omega
      have hq2 : nul13 vs = q := by rwa [List.take_of_length_le (by rw [H0.out.1.len, H0.out.2]; exact Nat.le_refl _)] at hnul
      have HF := Lib.hid hq2
      clear hnul hq2 hlt
      go_wp2_with fail
      go_ret
      exact ⟨by rw [HF.out]; rfl, Below.refl _ _⟩
end
end Go.Proofs.YtgndebdoljnheaaGreatDoor
