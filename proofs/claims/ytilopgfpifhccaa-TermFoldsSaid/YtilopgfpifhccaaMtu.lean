/-
  Several texts in one: R21 R22 R23.
-/
import Derived.Test.YtilopgfpifhccaaMtn
import Derived.Test.YtilopgfpifhccaaMtt
import Derived.BigQuiet
/-
  The reference's Eval: terms with arguments.
-/
namespace Go.Proofs.Ytilopgfpifhccaa
section
set_option linter.unusedSimpArgs false
set_option linter.unusedVariables false
open Go.RowKit

theorem Try.infoR18 : (Try.prog.info? 36).map (fun i => (i.zero, i.size, i.bytes)) = some (some (.agg #[.int .u8 0, .int .i64 0, .string ⟨#[]⟩, .bool false]), 4, 40) := by kernel_rfl
theorem vRR_snoc (l : List (Option Vl)) (o : Option Vl) : vRR (l ++ [o]) = vRR l ++ rC o := by simp [vRR]
set_option maxRecDepth 100000 in
set_option maxHeartbeats 16000000 in
theorem reval_args (ev : Tm → Option Vl) (l : List Tm) (h : TmH) (A0 : Option Addr) (n0 c0 : Nat) (RA : Option Addr) (rn rc : Nat) (TA : Option Addr) (tn tc : Nat) (w : World) (h1 : h.k ≠ 1) (h2 : h.k ≠ 2) (h7 : h.k ≠ 7) (hrd : Reads w w.heap.size 11 A0 n0 (vT l)) (hn : n0 ≤ 1000) (HE : ∀ t ∈ l, ∀ W, Below w.heap.size w W → Calls Try.prog 11 #[t.agg, .slice RA rn rc, .slice TA tn tc] W (RetB W (retR (ev t)))) (hok : ∀ t ∈ l, okO (ev t)) (rows : List (List Vl)) (tot : List Vl) : Calls Try.prog 11 #[h.agg A0 n0 c0, .slice RA rn rc, .slice TA tn tc] w (RetB w (retR (evK rows tot h (l.map ev)))) := by
  have hl : l.length = n0 := by have := hrd.1; rw [vT_len] at this; omega
  obtain ⟨i0, hi0, hz0, hs0, hy0⟩ := int_info8 Try.infoR18
  obtain ⟨q, hq⟩ : ∃ q, evK rows tot h (l.map ev) = q := ⟨_, rfl⟩
  have HQ := Lib.hid hq
  rw [hq]
  obtain ⟨k0, op0, no0, ⟨vk0, vi0, vs0⟩, of0, nm0, tb0, cl0⟩ := h
  simp only at h1 h2 h7
  have e1 : (k0 == 1) = false := by simpa using h1
  have e2 : (k0 == 2) = false := by simpa using h2
  have e7 : (k0 == 7) = false := by simpa using h7
  have HEV := Lib.hid HE
  have HOK := Lib.hid hok
  have Hl := Lib.hid hl
  have nI : (n0 : Int) ≤ 1000 := by omega
  have H127 := Lib.hid (And.intro h1 (And.intro h2 h7))
  simp only [TmH.agg]
  clear hq HE hok hl h1 h2 h7
  obtain ⟨W1, hW1⟩ : ∃ W1, ((w.alloc (.cells #[.int .u8 k0, .string op0, .bool no0, .int .u8 vk0, .int .i64 vi0, .string vs0, .string of0, .string nm0, .int .i64 tb0, .int .i64 cl0, .slice A0 n0 c0] 26)).alloc (.cells #[.int .u8 0, .int .i64 0, .string ⟨#[]⟩, .bool false] 36)) = W1 := ⟨_, rfl⟩
  have hb0 : Below w.heap.size w W1 := by rw [← hW1]; exact ball (ball (Below.refl _ _) _) _
  have hT1 : Blk W1 w.heap.size 26 #[.int .u8 k0, .string op0, .bool no0, .int .u8 vk0, .int .i64 vi0, .string vs0, .string of0, .string nm0, .int .i64 tb0, .int .i64 cl0, .slice A0 n0 c0] := by rw [← hW1]; exact Blk.alloc (Blk.new _ _ _) _
  have hR1 : Blk W1 (w.heap.size + 1) 36 #[.int .u8 0, .int .i64 0, .string ⟨#[]⟩, .bool false] := by rw [← hW1]; exact Blk.newAt (by simp)
  have hz1 : W1.heap.size = w.heap.size + 1 + 1 := by rw [← hW1]; simp
  have t0 : W1.cell? ⟨w.heap.size, 0, none⟩ = some (.int .u8 k0) := hT1.cell 0
  have t10 : W1.cell? ⟨w.heap.size, 10, none⟩ = some (.slice A0 n0 c0) := hT1.cell 10
  have hy1 := hT1.lt
  have hown0 : (W1.alloc (.cells #[] 36)).ownsRow W1.heap.size 36 4 (.slice (some ⟨w.heap.size + 1 + 1, 0, none⟩) 0 0) 0 [] := own_empty W1 36 4 (g := w.heap.size + 1 + 1) hz1.symm
  go_enter Try.func11, Try.ntmps11
  go_wp2_with fail
  try rw [hW1]
  clear hW1
  go_loopw [7, 8, 35] (fun v j i wr => ∃ k : Nat, k ≤ n0 ∧ i = .int .i64 k ∧ wr.ownsRow W1.heap.size 36 4 v k (vRR ((l.take k).map ev)) ∧ Below W1.heap.size W1 wr) (fun _ _ i _ => n0 - (intOf i).toNat)
  case atStart => exact ⟨0, Nat.zero_le _, rfl, by simpa [vRR] using hown0, ball (Below.refl _ _) _⟩
  case round =>
    clear hown0
    obtain ⟨k, hk, rfl, hown, hbw⟩ := hrel
    have q0 : (0 : Int) ≤ (k : Int) := by omega
    have hTw := hT1.below hbw hT1.lt
    have hRw := hR1.below hbw hR1.lt
    have hb := bto0 hb0 hbw
    have hbz := hbw.size
    by_cases hlt : k < n0
    · have q1 : (k : Int) < (n0 : Int) := by omega
      obtain ⟨ad, t, rfl, hab, ht, hat⟩ := (hrd.below hb).tm hlt
      have HC := Lib.hid (HEV.out t (List.mem_of_getElem? ht) wr hb)
      have Hs := Lib.hid (map_take_succ ev l k t ht)
      obtain ⟨x, hx⟩ : ∃ x, ev t = x := ⟨_, rfl⟩
      rw [hx] at HC Hs
      unfold retR rV at HC
      have HX : Hid (rC x = [.int .u8 (x.getD zV).k, .int .i64 (x.getD zV).i, .string (x.getD zV).s, .bool x.isNone]) := Lib.hid rfl
      obtain ⟨y, hy⟩ : ∃ y, x.getD zV = y := ⟨_, rfl⟩
      obtain ⟨b, hb'⟩ : ∃ b, x.isNone = b := ⟨_, rfl⟩
      rw [hy, hb'] at HC HX
      obtain ⟨yk, yi, ys⟩ := y
      simp only at HC HX
      have h10 : wr.cell? ⟨w.heap.size, 10, none⟩ = some (.slice (some ad) n0 c0) := hTw.cell 10
      have H1 : ∀ u ∈ [Value.int .u8 yk, .int .i64 yi, .string ys, .bool b], u.oneCell' = true := by simp [Value.oneCell']
      have HOWN := Lib.hid hown
      clear ht hx hy hb' hTw hRw hown
      obtain ⟨⟨k1, op1, no1, ⟨vk1, vi1, vs1⟩, of1, nm1, tb1, cl1⟩, A1, n1, c1, l1⟩ := t
      obtain ⟨y0, y1, y2, y3, y4, y5, y6, y7, y8, y9, y10⟩ := hat
      simp only [Tm.agg, TmH.agg, Tm.h, Tm.A, Tm.n, Tm.c] at HC y0 y1 y2 y3 y4 y5 y6 y7 y8 y9 y10
      clear hrd
      go_wp2_with fail
      refine HC.out.mono ?_
      rintro e w2 ⟨rfl, hb2⟩
      have hown2 := own_below18 HOWN.out hb2
      have hbw2 := bto0 hbw hb2
      have hz2 := hbw2.size
      go_wp2_with (at_builtin; refine wpList_push (news := [.int .u8 yk, .int .i64 yi, .string ys, .bool b]) rfl _ _ 53 rfl W1.heap.size 36 i0 _ 4 40 Try.underlying53 hi0 hz0 hs0 hy0 rfl (by decide) u7 k _ rfl hown2 rfl rfl rfl H1 (by omega) (by omega) hz2 ?_; intro v4 w4 hown4 hbb4)
      go_roundw
      case rel => exact ⟨k + 1, by omega, by go_num, by rw [Hs.out, vRR_snoc, HX.out]; exact hown4, hbb4 _ _ (Nat.le_refl _) hbw2⟩
      case measure => simp [intOf]; omega
    · obtain rfl : k = n0 := by omega
      have e5 : l.take k = l := List.take_of_length_le (by rw [Hl.out]; exact Nat.le_refl _)
      rw [e5] at hown
      obtain ⟨A7, c7, rfl, hc7⟩ := own_form hown
      have hrn := Reads.of_own hown
      have hLl : (l.map ev).length = k := by rw [List.length_map, Hl.out]
      have hLok : ∀ o ∈ l.map ev, okO o := fun o ho => by
        obtain ⟨t, ht, rfl⟩ := List.mem_map.1 ho
        exact HOK.out t ht
      obtain ⟨L, hL⟩ : ∃ L, l.map ev = L := ⟨_, rfl⟩
      rw [hL] at HQ hrn hLl hLok
      obtain ⟨n1, n2, n7⟩ := H127.out
      clear HEV HOK Hl hrd hL e5 hown H127 t0 t10 hi0 hz0 hs0 hy0
      have hTw_0 : (wr).cell? ⟨w.heap.size, 0, none⟩ = some (.int .u8 k0) := hTw.cell 0
      have hTw_1 : (wr).cell? ⟨w.heap.size, 1, none⟩ = some (.string op0) := hTw.cell 1
      have hTw_2 : (wr).cell? ⟨w.heap.size, 2, none⟩ = some (.bool no0) := hTw.cell 2
      have hTw_3 : (wr).cell? ⟨w.heap.size, 3, none⟩ = some (.int .u8 vk0) := hTw.cell 3
      have hTw_4 : (wr).cell? ⟨w.heap.size, 4, none⟩ = some (.int .i64 vi0) := hTw.cell 4
      have hTw_5 : (wr).cell? ⟨w.heap.size, 5, none⟩ = some (.string vs0) := hTw.cell 5
      have hTw_6 : (wr).cell? ⟨w.heap.size, 6, none⟩ = some (.string of0) := hTw.cell 6
      have hTw_7 : (wr).cell? ⟨w.heap.size, 7, none⟩ = some (.string nm0) := hTw.cell 7
      have hTw_8 : (wr).cell? ⟨w.heap.size, 8, none⟩ = some (.int .i64 tb0) := hTw.cell 8
      have hTw_9 : (wr).cell? ⟨w.heap.size, 9, none⟩ = some (.int .i64 cl0) := hTw.cell 9
      have hTw_10 : (wr).cell? ⟨w.heap.size, 10, none⟩ = some (.slice A0 k c0) := hTw.cell 10
      have hx1 := hTw.lt
      have hx2 := hRw.lt
      by_cases h3 : k0 = 3
      · subst h3
        by_cases hk1 : k = 1
        · subst hk1
          match L, hLl, hrn, hLok, HQ with
          | [o], hLl, hrn, hLok, HQ =>
            obtain ⟨ad, o', rfl, hab, ho, d0, d1, d2, d3⟩ := hrn.rr (show 0 < 1 by omega)
            simp only [List.getElem?_cons_zero, Option.some.injEq] at ho
            subst ho
            have HO := Lib.hid fun W => rone_any op0 o W (hLok o (by simp))
            have hq : oneK op0.toList o = q := HQ.out
            rw [hq] at HO
            obtain ⟨y, hy⟩ : ∃ y, o.getD zV = y := ⟨_, rfl⟩
            obtain ⟨b, hb'⟩ : ∃ b, o.isNone = b := ⟨_, rfl⟩
            unfold retR at HO
            rw [hy] at d0 d1 d2 HO
            rw [hb'] at d3 HO
            obtain ⟨yk, yi, ys⟩ := y
            simp only [Nat.zero_mul, Addr.add, if_true, reduceIte] at d0 d1 d2 d3
            clear hrn hLok HQ hLl hq hy hb' hc7
            change Hid (∀ W, Calls Try.prog 23 #[.string op0, .agg #[.int .u8 yk, .int .i64 yi, .string ys, .bool b]] W (RetB W (retR q))) at HO
            cases q with
            | none =>
              simp only [retR, rV, Option.getD, Option.isNone, zV] at HO
              go_wp2_with fail
              go_region_with (go_at_call 23; (with_reducible refine (HO.out _).mono ?_); rintro e w5 ⟨rfl, hb5⟩; have hB : Blk w5 (w.heap.size + 1) 36 #[.int .u8 0, .int .i64 0, .string ⟨#[]⟩, .bool false] := blkUp hb5 (by with_reducible repeat (first | exact hRw | refine Blk.drew ?_ | refine Blk.drewN ?_ _)); have hB_0 : w5.cell? ⟨w.heap.size + 1, 0, none⟩ = some (.int .u8 0) := hB.cell 0; have hB_1 : w5.cell? ⟨w.heap.size + 1, 1, none⟩ = some (.int .i64 0) := hB.cell 1; have hB_2 : w5.cell? ⟨w.heap.size + 1, 2, none⟩ = some (.string ⟨#[]⟩) := hB.cell 2; have hB_3 : w5.cell? ⟨w.heap.size + 1, 3, none⟩ = some (.bool false) := hB.cell 3; have f0 := hB.frozen 0; have f1 := hB.frozen 1; have f2 := hB.frozen 2; have f3 := hB.frozen 3; have hbw : Below w.heap.size w w5 := bto0 (by with_reducible repeat (first | exact hb | refine Below.drew ?_ | refine bdr ?_ _)) hb5)
              all_goals
                go_wp2_with fail
                exact reval_end (R := w.heap.size + 1) (o := none) (by (with_reducible repeat (first | refine Blk.alloc ?_ _ | refine Blk.drew ?_ | refine Blk.drewN ?_ _)); exact blk4 hB) (by simp) ⟨rfl, by with_reducible repeat (first | exact Below.refl _ _ | exact hbw | refine ball ?_ _ | refine bset ?_ (by first | exact Nat.le_add_right _ _ | exact Nat.le_refl _ | (simp; omega)) _ | refine bdr ?_ _ | refine Below.drew ?_)⟩
            | some u =>
              obtain ⟨uk, ui, us⟩ := u
              simp only [retR, rV, Option.getD, Option.isNone, zV] at HO
              go_wp2_with fail
              go_region_with (go_at_call 23; (with_reducible refine (HO.out _).mono ?_); rintro e w5 ⟨rfl, hb5⟩; have hB : Blk w5 (w.heap.size + 1) 36 #[.int .u8 0, .int .i64 0, .string ⟨#[]⟩, .bool false] := blkUp hb5 (by with_reducible repeat (first | exact hRw | refine Blk.drew ?_ | refine Blk.drewN ?_ _)); have hB_0 : w5.cell? ⟨w.heap.size + 1, 0, none⟩ = some (.int .u8 0) := hB.cell 0; have hB_1 : w5.cell? ⟨w.heap.size + 1, 1, none⟩ = some (.int .i64 0) := hB.cell 1; have hB_2 : w5.cell? ⟨w.heap.size + 1, 2, none⟩ = some (.string ⟨#[]⟩) := hB.cell 2; have hB_3 : w5.cell? ⟨w.heap.size + 1, 3, none⟩ = some (.bool false) := hB.cell 3; have f0 := hB.frozen 0; have f1 := hB.frozen 1; have f2 := hB.frozen 2; have f3 := hB.frozen 3; have hbw : Below w.heap.size w w5 := bto0 (by with_reducible repeat (first | exact hb | refine Below.drew ?_ | refine bdr ?_ _)) hb5)
              all_goals
                go_wp2_with fail
                exact reval_end (R := w.heap.size + 1) (o := (some ⟨uk, ui, us⟩)) (by (with_reducible repeat (first | refine Blk.alloc ?_ _ | refine Blk.drew ?_ | refine Blk.drewN ?_ _)); exact blk4 hB) (by simp) ⟨rfl, by with_reducible repeat (first | exact Below.refl _ _ | exact hbw | refine ball ?_ _ | refine bset ?_ (by first | exact Nat.le_add_right _ _ | exact Nat.le_refl _ | (simp; omega)) _ | refine bdr ?_ _ | refine Below.drew ?_)⟩
        · have m1 : ((k : Int) == 1) = false := by simp; omega
          have hq : q = none := by
            rw [← HQ.out]
            match L, (show L.length ≠ 1 by omega) with
            | [], _ => rfl
            | [_], h => exact absurd rfl h
            | _ :: _ :: _, _ => rfl
          subst hq
          clear hrn hLok HQ hLl hc7
          have hRw_0 : (wr).cell? ⟨w.heap.size + 1, 0, none⟩ = some (.int .u8 0) := hRw.cell 0
          have hRw_1 : (wr).cell? ⟨w.heap.size + 1, 1, none⟩ = some (.int .i64 0) := hRw.cell 1
          have hRw_2 : (wr).cell? ⟨w.heap.size + 1, 2, none⟩ = some (.string ⟨#[]⟩) := hRw.cell 2
          have hRw_3 : (wr).cell? ⟨w.heap.size + 1, 3, none⟩ = some (.bool false) := hRw.cell 3
          have f0 := hRw.frozen 0
          have f1 := hRw.frozen 1
          have f2 := hRw.frozen 2
          have f3 := hRw.frozen 3
          have hbw := hb
          go_wp2_with fail
          exact reval_end (R := w.heap.size + 1) (o := none) (by (with_reducible repeat (first | refine Blk.alloc ?_ _ | refine Blk.drew ?_ | refine Blk.drewN ?_ _)); exact blk4 hRw) (by simp) ⟨rfl, by with_reducible repeat (first | exact Below.refl _ _ | exact hbw | refine ball ?_ _ | refine bset ?_ (by first | exact Nat.le_add_right _ _ | exact Nat.le_refl _ | (simp; omega)) _ | refine bdr ?_ _ | refine Below.drew ?_)⟩
      · have g3 : (k0 == 3) = false := by simpa using h3
        by_cases h4 : k0 = 4
        · subst h4
          by_cases hk1 : k = 2
          · subst hk1
            match L, hLl, hrn, hLok, HQ with
            | [o, p], hLl, hrn, hLok, HQ =>
              obtain ⟨ad, o', rfl, hab, ho, d0, d1, d2, d3⟩ := hrn.rr (show 0 < 2 by omega)
              simp only [List.getElem?_cons_zero, Option.some.injEq] at ho
              subst ho
              obtain ⟨ad', p', e', _, ho, c0', c1', c2', c3'⟩ := hrn.rr (show 1 < 2 by omega)
              injection e' with e'
              subst e'
              simp only [List.getElem?_cons_succ, List.getElem?_cons_zero, Option.some.injEq] at ho
              subst ho
              have HO := Lib.hid fun W => rtwo_any op0 o p W (hLok o (by simp)) (hLok p (by simp))
              have hq : twoK op0 o p = q := HQ.out
              rw [hq] at HO
              obtain ⟨y, hy⟩ : ∃ y, o.getD zV = y := ⟨_, rfl⟩
              obtain ⟨b, hb'⟩ : ∃ b, o.isNone = b := ⟨_, rfl⟩
              obtain ⟨z, hz'⟩ : ∃ z, p.getD zV = z := ⟨_, rfl⟩
              obtain ⟨t, ht'⟩ : ∃ t, p.isNone = t := ⟨_, rfl⟩
              unfold retR at HO
              rw [hy] at d0 d1 d2 HO
              rw [hb'] at d3 HO
              rw [hz'] at c0' c1' c2' HO
              rw [ht'] at c3' HO
              obtain ⟨yk, yi, ys⟩ := y
              obtain ⟨zk, zi, zs⟩ := z
              simp only [Nat.zero_mul, Addr.add, if_true, reduceIte] at d0 d1 d2 d3
              rw [show ad.add (1 * 4) = ⟨ad.block, ad.off + 4, none⟩ from rfl] at c0' c1' c2' c3'
              simp only at c0' c1' c2' c3'
              clear hrn hLok HQ hLl hq hy hb' hz' ht' hc7
              change Hid (∀ W, Calls Try.prog 24 #[.string op0, .agg #[.int .u8 yk, .int .i64 yi, .string ys, .bool b], .agg #[.int .u8 zk, .int .i64 zi, .string zs, .bool t]] W (RetB W (retR q))) at HO
              cases q with
              | none =>
                simp only [retR, rV, Option.getD, Option.isNone, zV] at HO
                go_wp2_with fail
                go_region_with (go_at_call 24; (with_reducible refine (HO.out _).mono ?_); rintro e w5 ⟨rfl, hb5⟩; have hB : Blk w5 (w.heap.size + 1) 36 #[.int .u8 0, .int .i64 0, .string ⟨#[]⟩, .bool false] := blkUp hb5 (by with_reducible repeat (first | exact hRw | refine Blk.drew ?_ | refine Blk.drewN ?_ _)); have hB_0 : w5.cell? ⟨w.heap.size + 1, 0, none⟩ = some (.int .u8 0) := hB.cell 0; have hB_1 : w5.cell? ⟨w.heap.size + 1, 1, none⟩ = some (.int .i64 0) := hB.cell 1; have hB_2 : w5.cell? ⟨w.heap.size + 1, 2, none⟩ = some (.string ⟨#[]⟩) := hB.cell 2; have hB_3 : w5.cell? ⟨w.heap.size + 1, 3, none⟩ = some (.bool false) := hB.cell 3; have f0 := hB.frozen 0; have f1 := hB.frozen 1; have f2 := hB.frozen 2; have f3 := hB.frozen 3; have hbw : Below w.heap.size w w5 := bto0 (by with_reducible repeat (first | exact hb | refine Below.drew ?_ | refine bdr ?_ _)) hb5)
                all_goals
                  go_wp2_with fail
                  exact reval_end (R := w.heap.size + 1) (o := none) (by (with_reducible repeat (first | refine Blk.alloc ?_ _ | refine Blk.drew ?_ | refine Blk.drewN ?_ _)); exact blk4 hB) (by simp) ⟨rfl, by with_reducible repeat (first | exact Below.refl _ _ | exact hbw | refine ball ?_ _ | refine bset ?_ (by first | exact Nat.le_add_right _ _ | exact Nat.le_refl _ | (simp; omega)) _ | refine bdr ?_ _ | refine Below.drew ?_)⟩
              | some u =>
                obtain ⟨uk, ui, us⟩ := u
                simp only [retR, rV, Option.getD, Option.isNone, zV] at HO
                go_wp2_with fail
                go_region_with (go_at_call 24; (with_reducible refine (HO.out _).mono ?_); rintro e w5 ⟨rfl, hb5⟩; have hB : Blk w5 (w.heap.size + 1) 36 #[.int .u8 0, .int .i64 0, .string ⟨#[]⟩, .bool false] := blkUp hb5 (by with_reducible repeat (first | exact hRw | refine Blk.drew ?_ | refine Blk.drewN ?_ _)); have hB_0 : w5.cell? ⟨w.heap.size + 1, 0, none⟩ = some (.int .u8 0) := hB.cell 0; have hB_1 : w5.cell? ⟨w.heap.size + 1, 1, none⟩ = some (.int .i64 0) := hB.cell 1; have hB_2 : w5.cell? ⟨w.heap.size + 1, 2, none⟩ = some (.string ⟨#[]⟩) := hB.cell 2; have hB_3 : w5.cell? ⟨w.heap.size + 1, 3, none⟩ = some (.bool false) := hB.cell 3; have f0 := hB.frozen 0; have f1 := hB.frozen 1; have f2 := hB.frozen 2; have f3 := hB.frozen 3; have hbw : Below w.heap.size w w5 := bto0 (by with_reducible repeat (first | exact hb | refine Below.drew ?_ | refine bdr ?_ _)) hb5)
                all_goals
                  go_wp2_with fail
                  exact reval_end (R := w.heap.size + 1) (o := (some ⟨uk, ui, us⟩)) (by (with_reducible repeat (first | refine Blk.alloc ?_ _ | refine Blk.drew ?_ | refine Blk.drewN ?_ _)); exact blk4 hB) (by simp) ⟨rfl, by with_reducible repeat (first | exact Below.refl _ _ | exact hbw | refine ball ?_ _ | refine bset ?_ (by first | exact Nat.le_add_right _ _ | exact Nat.le_refl _ | (simp; omega)) _ | refine bdr ?_ _ | refine Below.drew ?_)⟩
          · have m1 : ((k : Int) == 2) = false := by simp; omega
            have hq : q = none := by
              rw [← HQ.out]
              match L, (show L.length ≠ 2 by omega) with
              | [], _ => rfl
              | [_], _ => rfl
              | [_, _], h => exact absurd rfl h
              | _ :: _ :: _ :: _, _ => rfl
            subst hq
            clear hrn hLok HQ hLl hc7
            have hRw_0 : (wr).cell? ⟨w.heap.size + 1, 0, none⟩ = some (.int .u8 0) := hRw.cell 0
            have hRw_1 : (wr).cell? ⟨w.heap.size + 1, 1, none⟩ = some (.int .i64 0) := hRw.cell 1
            have hRw_2 : (wr).cell? ⟨w.heap.size + 1, 2, none⟩ = some (.string ⟨#[]⟩) := hRw.cell 2
            have hRw_3 : (wr).cell? ⟨w.heap.size + 1, 3, none⟩ = some (.bool false) := hRw.cell 3
            have f0 := hRw.frozen 0
            have f1 := hRw.frozen 1
            have f2 := hRw.frozen 2
            have f3 := hRw.frozen 3
            have hbw := hb
            go_wp2_with fail
            exact reval_end (R := w.heap.size + 1) (o := none) (by (with_reducible repeat (first | refine Blk.alloc ?_ _ | refine Blk.drew ?_ | refine Blk.drewN ?_ _)); exact blk4 hRw) (by simp) ⟨rfl, by with_reducible repeat (first | exact Below.refl _ _ | exact hbw | refine ball ?_ _ | refine bset ?_ (by first | exact Nat.le_add_right _ _ | exact Nat.le_refl _ | (simp; omega)) _ | refine bdr ?_ _ | refine Below.drew ?_)⟩
        · have g4 : (k0 == 4) = false := by simpa using h4
          by_cases h6 : k0 = 6
          · subst h6
            match L, hLl, hrn, hLok, HQ with
            | [], hLl, hrn, hLok, HQ =>
              have hk0 : k = 0 := by simpa using hLl.symm
              subst hk0
              have hq : q = none := HQ.out.symm
              subst hq
              clear hrn hLok HQ hLl hc7
              have hRw_0 : (wr).cell? ⟨w.heap.size + 1, 0, none⟩ = some (.int .u8 0) := hRw.cell 0
              have hRw_1 : (wr).cell? ⟨w.heap.size + 1, 1, none⟩ = some (.int .i64 0) := hRw.cell 1
              have hRw_2 : (wr).cell? ⟨w.heap.size + 1, 2, none⟩ = some (.string ⟨#[]⟩) := hRw.cell 2
              have hRw_3 : (wr).cell? ⟨w.heap.size + 1, 3, none⟩ = some (.bool false) := hRw.cell 3
              have f0 := hRw.frozen 0
              have f1 := hRw.frozen 1
              have f2 := hRw.frozen 2
              have f3 := hRw.frozen 3
              have hbw := hb
              go_wp2_with fail
              exact reval_end (R := w.heap.size + 1) (o := none) (by (with_reducible repeat (first | refine Blk.alloc ?_ _ | refine Blk.drew ?_ | refine Blk.drewN ?_ _)); exact blk4 hRw) (by simp) ⟨rfl, by with_reducible repeat (first | exact Below.refl _ _ | exact hbw | refine ball ?_ _ | refine bset ?_ (by first | exact Nat.le_add_right _ _ | exact Nat.le_refl _ | (simp; omega)) _ | refine bdr ?_ _ | refine Below.drew ?_)⟩
            | o :: r, hLl, hrn, hLok, HQ =>
              have kp : (0 : Int) < (k : Int) := by simp at hLl; omega
              have HI := Lib.hid fun (W : World) (hW : Below wr.heap.size wr W) => rin_any A7 k c7 o r no0 W ((hrn.below hW).more hW.size) hn (hLok o (by simp)) (fun x hx => hLok x (by simp [hx]))
              have hq : inK no0 o r = q := HQ.out
              rw [hq] at HI
              clear hrn hLok HQ hLl hc7 hq
              go_wp2_with fail
              refine (HI.out _ (Below.refl _ _)).mono ?_
              rintro e w5 ⟨rfl, hb5⟩
              have hbw := bto0 hb hb5
              have hB : Blk w5 (w.heap.size + 1) 36 #[.int .u8 0, .int .i64 0, .string ⟨#[]⟩, .bool false] := blkUp hb5 (hRw)
              have hB_0 : (w5).cell? ⟨w.heap.size + 1, 0, none⟩ = some (.int .u8 0) := hB.cell 0
              have hB_1 : (w5).cell? ⟨w.heap.size + 1, 1, none⟩ = some (.int .i64 0) := hB.cell 1
              have hB_2 : (w5).cell? ⟨w.heap.size + 1, 2, none⟩ = some (.string ⟨#[]⟩) := hB.cell 2
              have hB_3 : (w5).cell? ⟨w.heap.size + 1, 3, none⟩ = some (.bool false) := hB.cell 3
              have hz := hB.lt
              have f0 := hB.frozen 0
              have f1 := hB.frozen 1
              have f2 := hB.frozen 2
              have f3 := hB.frozen 3
              cases q with
              | none =>
                simp only [retR, rV, Option.getD, Option.isNone, zV]
                go_wp2_with fail
                exact reval_end (R := w.heap.size + 1) (o := none) (by (with_reducible repeat (first | refine Blk.alloc ?_ _ | refine Blk.drew ?_ | refine Blk.drewN ?_ _)); exact blk4 hB) (by simp) ⟨rfl, by with_reducible repeat (first | exact Below.refl _ _ | exact hbw | refine ball ?_ _ | refine bset ?_ (by first | exact Nat.le_add_right _ _ | exact Nat.le_refl _ | (simp; omega)) _ | refine bdr ?_ _ | refine Below.drew ?_)⟩
              | some u =>
                obtain ⟨uk, ui, us⟩ := u
                simp only [retR, rV, Option.getD, Option.isNone]
                go_wp2_with fail
                exact reval_end (R := w.heap.size + 1) (o := (some ⟨uk, ui, us⟩)) (by (with_reducible repeat (first | refine Blk.alloc ?_ _ | refine Blk.drew ?_ | refine Blk.drewN ?_ _)); exact blk4 hB) (by simp) ⟨rfl, by with_reducible repeat (first | exact Below.refl _ _ | exact hbw | refine ball ?_ _ | refine bset ?_ (by first | exact Nat.le_add_right _ _ | exact Nat.le_refl _ | (simp; omega)) _ | refine bdr ?_ _ | refine Below.drew ?_)⟩
          · have g6 : (k0 == 6) = false := by simpa using h6
            by_cases h5 : k0 = 5
            · subst h5
              by_cases hk1 : k = 1
              · subst hk1
                match L, hLl, hrn, hLok, HQ with
                | [o], hLl, hrn, hLok, HQ =>
                  obtain ⟨ad, o', rfl, hab, ho, d0, d1, d2, d3⟩ := hrn.rr (show 0 < 1 by omega)
                  simp only [List.getElem?_cons_zero, Option.some.injEq] at ho
                  subst ho
                  have hq0 : nullK no0 o = q := HQ.out
                  clear hrn hLok HQ hLl hc7
                  simp only [Nat.zero_mul, Addr.add, if_true, reduceIte] at d0 d1 d2 d3
                  cases o with
                  | none =>
                    have hq : q = none := hq0.symm
                    subst hq
                    simp only [Option.getD, Option.isNone, zV] at d0 d1 d2 d3
                    have hRw_0 : (wr).cell? ⟨w.heap.size + 1, 0, none⟩ = some (.int .u8 0) := hRw.cell 0
                    have hRw_1 : (wr).cell? ⟨w.heap.size + 1, 1, none⟩ = some (.int .i64 0) := hRw.cell 1
                    have hRw_2 : (wr).cell? ⟨w.heap.size + 1, 2, none⟩ = some (.string ⟨#[]⟩) := hRw.cell 2
                    have hRw_3 : (wr).cell? ⟨w.heap.size + 1, 3, none⟩ = some (.bool false) := hRw.cell 3
                    have f0 := hRw.frozen 0
                    have f1 := hRw.frozen 1
                    have f2 := hRw.frozen 2
                    have f3 := hRw.frozen 3
                    have hbw := hb
                    go_wp2_with fail
                    exact reval_end (R := w.heap.size + 1) (o := none) (by (with_reducible repeat (first | refine Blk.alloc ?_ _ | refine Blk.drew ?_ | refine Blk.drewN ?_ _)); exact blk4 hRw) (by simp) ⟨rfl, by with_reducible repeat (first | exact Below.refl _ _ | exact hbw | refine ball ?_ _ | refine bset ?_ (by first | exact Nat.le_add_right _ _ | exact Nat.le_refl _ | (simp; omega)) _ | refine bdr ?_ _ | refine Below.drew ?_)⟩
                  | some v =>
                    obtain ⟨vk, vi, vs⟩ := v
                    simp only [Option.getD, Option.isNone] at d0 d1 d2 d3
                    have hτ : ∃ τ, ((if decide (vk = 0) = no0 then τ = (0 : Int) else τ = 3)) ∧ valT τ = q := by
                      rw [← hq0]
                      by_cases hv : vk = 0
                      · cases no0
                        · exact ⟨3, by simp [hv], by simp [nullK, hv]⟩
                        · exact ⟨0, by simp [hv], by simp [nullK, hv, nt]⟩
                      · cases no0
                        · exact ⟨0, by simp [hv], by simp [nullK, hv]⟩
                        · exact ⟨3, by simp [hv], by simp [nullK, hv, nt]⟩
                    obtain ⟨τ, hτ, hq⟩ := hτ
                    have HV := Lib.hid fun W => rvalue_any τ W
                    rw [hq] at HV
                    clear hq hq0
                    have hRR := hRw
                    by_cases hv : vk = 0
                    · subst hv
                      cases no0
                      all_goals
                        simp only [decide_true, Bool.true_eq_false, reduceIte] at hτ
                        subst hτ
                        go_wp2_with fail
                        go_region
                        go_wp2_with fail
                        refine (HV.out _).mono ?_
                        rintro e w5 ⟨rfl, hb5⟩
                        have hbw : Below w.heap.size w w5 := bto0 (by with_reducible repeat (first | exact hb | refine Below.drew ?_ | refine bdr ?_ _)) hb5
                        have hB : Blk w5 (w.heap.size + 1) 36 #[.int .u8 0, .int .i64 0, .string ⟨#[]⟩, .bool false] := blkUp hb5 (by with_reducible repeat (first | exact hRw | refine Blk.drew ?_ | refine Blk.drewN ?_ _))
                        have hB_0 : (w5).cell? ⟨w.heap.size + 1, 0, none⟩ = some (.int .u8 0) := hB.cell 0
                        have hB_1 : (w5).cell? ⟨w.heap.size + 1, 1, none⟩ = some (.int .i64 0) := hB.cell 1
                        have hB_2 : (w5).cell? ⟨w.heap.size + 1, 2, none⟩ = some (.string ⟨#[]⟩) := hB.cell 2
                        have hB_3 : (w5).cell? ⟨w.heap.size + 1, 3, none⟩ = some (.bool false) := hB.cell 3
                        have hz := hB.lt
                        have f0 := hB.frozen 0
                        have f1 := hB.frozen 1
                        have f2 := hB.frozen 2
                        have f3 := hB.frozen 3
                        cases q with
                        | none =>
                          simp only [retR, rV, Option.getD, Option.isNone, zV]
                          go_wp2_with fail
                          exact reval_end (R := w.heap.size + 1) (o := none) (by (with_reducible repeat (first | refine Blk.alloc ?_ _ | refine Blk.drew ?_ | refine Blk.drewN ?_ _)); exact blk4 hB) (by simp) ⟨rfl, by with_reducible repeat (first | exact Below.refl _ _ | exact hbw | refine ball ?_ _ | refine bset ?_ (by first | exact Nat.le_add_right _ _ | exact Nat.le_refl _ | (simp; omega)) _ | refine bdr ?_ _ | refine Below.drew ?_)⟩
                        | some u =>
                          obtain ⟨uk, ui, us⟩ := u
                          simp only [retR, rV, Option.getD, Option.isNone]
                          go_wp2_with fail
                          exact reval_end (R := w.heap.size + 1) (o := (some ⟨uk, ui, us⟩)) (by (with_reducible repeat (first | refine Blk.alloc ?_ _ | refine Blk.drew ?_ | refine Blk.drewN ?_ _)); exact blk4 hB) (by simp) ⟨rfl, by with_reducible repeat (first | exact Below.refl _ _ | exact hbw | refine ball ?_ _ | refine bset ?_ (by first | exact Nat.le_add_right _ _ | exact Nat.le_refl _ | (simp; omega)) _ | refine bdr ?_ _ | refine Below.drew ?_)⟩
                    · have ev0 : (vk == 0) = false := by simpa using hv
                      have dv : decide (vk = 0) = false := decide_eq_false hv
                      rw [dv] at hτ
                      cases no0
                      all_goals
                        simp only [Bool.false_eq_true, reduceIte] at hτ
                        subst hτ
                        go_wp2_with fail
                        go_region
                        go_wp2_with fail
                        refine (HV.out _).mono ?_
                        rintro e w5 ⟨rfl, hb5⟩
                        have hbw : Below w.heap.size w w5 := bto0 (by with_reducible repeat (first | exact hb | refine Below.drew ?_ | refine bdr ?_ _)) hb5
                        have hB : Blk w5 (w.heap.size + 1) 36 #[.int .u8 0, .int .i64 0, .string ⟨#[]⟩, .bool false] := blkUp hb5 (by with_reducible repeat (first | exact hRw | refine Blk.drew ?_ | refine Blk.drewN ?_ _))
                        have hB_0 : (w5).cell? ⟨w.heap.size + 1, 0, none⟩ = some (.int .u8 0) := hB.cell 0
                        have hB_1 : (w5).cell? ⟨w.heap.size + 1, 1, none⟩ = some (.int .i64 0) := hB.cell 1
                        have hB_2 : (w5).cell? ⟨w.heap.size + 1, 2, none⟩ = some (.string ⟨#[]⟩) := hB.cell 2
                        have hB_3 : (w5).cell? ⟨w.heap.size + 1, 3, none⟩ = some (.bool false) := hB.cell 3
                        have hz := hB.lt
                        have f0 := hB.frozen 0
                        have f1 := hB.frozen 1
                        have f2 := hB.frozen 2
                        have f3 := hB.frozen 3
                        cases q with
                        | none =>
                          simp only [retR, rV, Option.getD, Option.isNone, zV]
                          go_wp2_with fail
                          exact reval_end (R := w.heap.size + 1) (o := none) (by (with_reducible repeat (first | refine Blk.alloc ?_ _ | refine Blk.drew ?_ | refine Blk.drewN ?_ _)); exact blk4 hB) (by simp) ⟨rfl, by with_reducible repeat (first | exact Below.refl _ _ | exact hbw | refine ball ?_ _ | refine bset ?_ (by first | exact Nat.le_add_right _ _ | exact Nat.le_refl _ | (simp; omega)) _ | refine bdr ?_ _ | refine Below.drew ?_)⟩
                        | some u =>
                          obtain ⟨uk, ui, us⟩ := u
                          simp only [retR, rV, Option.getD, Option.isNone]
                          go_wp2_with fail
                          exact reval_end (R := w.heap.size + 1) (o := (some ⟨uk, ui, us⟩)) (by (with_reducible repeat (first | refine Blk.alloc ?_ _ | refine Blk.drew ?_ | refine Blk.drewN ?_ _)); exact blk4 hB) (by simp) ⟨rfl, by with_reducible repeat (first | exact Below.refl _ _ | exact hbw | refine ball ?_ _ | refine bset ?_ (by first | exact Nat.le_add_right _ _ | exact Nat.le_refl _ | (simp; omega)) _ | refine bdr ?_ _ | refine Below.drew ?_)⟩
              · have m1 : ((k : Int) == 1) = false := by simp; omega
                have hq : q = none := by
                  rw [← HQ.out]
                  match L, (show L.length ≠ 1 by omega) with
                  | [], _ => rfl
                  | [_], h => exact absurd rfl h
                  | _ :: _ :: _, _ => rfl
                subst hq
                clear hrn hLok HQ hLl hc7
                have hRw_0 : (wr).cell? ⟨w.heap.size + 1, 0, none⟩ = some (.int .u8 0) := hRw.cell 0
                have hRw_1 : (wr).cell? ⟨w.heap.size + 1, 1, none⟩ = some (.int .i64 0) := hRw.cell 1
                have hRw_2 : (wr).cell? ⟨w.heap.size + 1, 2, none⟩ = some (.string ⟨#[]⟩) := hRw.cell 2
                have hRw_3 : (wr).cell? ⟨w.heap.size + 1, 3, none⟩ = some (.bool false) := hRw.cell 3
                have f0 := hRw.frozen 0
                have f1 := hRw.frozen 1
                have f2 := hRw.frozen 2
                have f3 := hRw.frozen 3
                have hbw := hb
                go_wp2_with fail
                exact reval_end (R := w.heap.size + 1) (o := none) (by (with_reducible repeat (first | refine Blk.alloc ?_ _ | refine Blk.drew ?_ | refine Blk.drewN ?_ _)); exact blk4 hRw) (by simp) ⟨rfl, by with_reducible repeat (first | exact Below.refl _ _ | exact hbw | refine ball ?_ _ | refine bset ?_ (by first | exact Nat.le_add_right _ _ | exact Nat.le_refl _ | (simp; omega)) _ | refine bdr ?_ _ | refine Below.drew ?_)⟩
            · have g5 : (k0 == 5) = false := by simpa using h5
              have hq : q = none := by
                rw [← HQ.out]
                unfold evK
                simp only
                rw [if_neg n1, if_neg n2, if_neg n7, if_neg h3, if_neg h4, if_neg h5, if_neg h6]
              subst hq
              clear hrn hLok HQ hLl hc7
              have hRw_0 : (wr).cell? ⟨w.heap.size + 1, 0, none⟩ = some (.int .u8 0) := hRw.cell 0
              have hRw_1 : (wr).cell? ⟨w.heap.size + 1, 1, none⟩ = some (.int .i64 0) := hRw.cell 1
              have hRw_2 : (wr).cell? ⟨w.heap.size + 1, 2, none⟩ = some (.string ⟨#[]⟩) := hRw.cell 2
              have hRw_3 : (wr).cell? ⟨w.heap.size + 1, 3, none⟩ = some (.bool false) := hRw.cell 3
              have f0 := hRw.frozen 0
              have f1 := hRw.frozen 1
              have f2 := hRw.frozen 2
              have f3 := hRw.frozen 3
              have hbw := hb
              go_wp2_with fail
              exact reval_end (R := w.heap.size + 1) (o := none) (by (with_reducible repeat (first | refine Blk.alloc ?_ _ | refine Blk.drew ?_ | refine Blk.drewN ?_ _)); exact blk4 hRw) (by simp) ⟨rfl, by with_reducible repeat (first | exact Below.refl _ _ | exact hbw | refine ball ?_ _ | refine bset ?_ (by first | exact Nat.le_add_right _ _ | exact Nat.le_refl _ | (simp; omega)) _ | refine bdr ?_ _ | refine Below.drew ?_)⟩
end
end Go.Proofs.Ytilopgfpifhccaa
/-
  The reference's Eval, by fuel.
-/
namespace Go.Proofs.Ytilopgfpifhccaa
section
set_option linter.unusedSimpArgs false
set_option linter.unusedVariables false
open Go.RowKit

theorem reval_any (RA : Option Addr) (rn rc : Nat) (rws : List Rv) (TA : Option Addr) (tn tc : Nat) (tot : List Vl) : ∀ (f : Nat) (t : Tm) (w : World), EnvO w RA rn rws TA tn tot → TmIn w w.heap.size t → shV f t →
    Calls Try.prog 11 #[t.agg, .slice RA rn rc, .slice TA tn tc] w (RetB w (retR (evT (rws.map Rv.l) tot f t))) := by
  intro f
  induction f with
  | zero => intro t w _ _ h; exact absurd h id
  | succ f ih =>
    intro t w hE hin hs
    have hro : ∀ r ∈ rws.map Rv.l, ∀ v ∈ r, okV v := by
      intro r hr
      obtain ⟨x, hx, rfl⟩ := List.mem_map.1 hr
      exact (hE.e x hx).2.2
    have hev : ∀ a ∈ t.args, okO (evT (rws.map Rv.l) tot f a) := by
      intro a ha
      refine evT_ok hro hE.tv f a w _ (hin.args a ha) ?_
      cases t with | mk h A n c args => exact hs.2.2 a ha
    have hv : ∀ a ∈ t.args, ∀ W, Below w.heap.size w W → Calls Try.prog 11 #[a.agg, .slice RA rn rc, .slice TA tn tc] W (RetB W (retR (evT (rws.map Rv.l) tot f a))) := by
      intro a ha W hW
      refine ih a W (hE.below0 hW) (((hin.args a ha).under hW).more hW.size) ?_
      cases t with | mk h A n c args => exact hs.2.2 a ha
    have hrd := hin.reads
    cases t with
    | mk h A n c args =>
      simp only [Tm.A, Tm.n, Tm.c, Tm.args] at hev hv hrd
      have hn17 : n ≤ 1000 := by have := hs.1; omega
      rw [evT_succ]
      show Calls _ _ #[h.agg A n c, _, _] _ _
      by_cases h1 : h.k = 1
      · have e : evK (rws.map Rv.l) tot h (args.map (evT (rws.map Rv.l) tot f)) = some h.v := if_pos h1
        rw [e]
        exact reval_1 h A n c RA rn rc TA tn tc w h1
      · by_cases h2 : h.k = 2
        · have e : evK (rws.map Rv.l) tot h (args.map (evT (rws.map Rv.l) tot f)) = atR (rws.map Rv.l) h.tb h.cl := (if_neg h1).trans (if_pos h2)
          rw [e]
          exact reval_2 h A n c RA rn rc TA tn tc w h2 _ fun W hW => by
            have hEW := hE.below0 hW
            exact rat_any h.tb h.cl W hEW.r hEW.e hEW.rn
        · by_cases h7 : h.k = 7
          · have e : evK (rws.map Rv.l) tot h (args.map (evT (rws.map Rv.l) tot f)) = atO tot h.cl := (if_neg h1).trans ((if_neg h2).trans (if_pos h7))
            rw [e]
            refine reval_7 h A n c RA rn rc TA tn tc w h7 _ fun W g hW hB => ?_
            have hEW := hE.below0 hW
            have hr : Reads W W.heap.size 1 (some ⟨g, 0, none⟩) 1 (vRv [⟨TA, tn, tc, tot⟩]) := reads_of_blk hB rfl rfl
            exact rat_any 0 h.cl W hr (fun x hx => by
              rw [List.mem_singleton] at hx
              subst hx
              exact ⟨hEW.t, hEW.tn, hEW.tv⟩) (by decide)
          · exact reval_args _ args h A n c RA rn rc TA tn tc w h1 h2 h7 hrd hn17 hv hev _ _
end
end Go.Proofs.Ytilopgfpifhccaa
/-
  The reference's Holds.
-/
namespace Go.Proofs.Ytilopgfpifhccaa
section
set_option linter.unusedSimpArgs false
set_option linter.unusedVariables false
open Go.RowKit

set_option maxRecDepth 100000 in
set_option maxHeartbeats 8000000 in
theorem rholds_any (A : Option Addr) (n c : Nat) (l : List Tm) (RA : Option Addr) (rn rc : Nat) (rws : List Rv) (f : Nat) (w : World) (he : EnvO w RA rn rws none 0 []) (hrd : Reads w w.heap.size 11 A n (vT l)) (hn : n ≤ 1000) (hin : ∀ t ∈ l, TmIn w w.heap.size t) (hs : ∀ t ∈ l, shV f t) :
    Calls Try.prog 20 #[.slice A n c, .slice RA rn rc] w (RetB w (.int .i64 (andL (l.map fun t => truO (evT (rws.map Rv.l) [] f t))))) := by
  have hl : l.length = n := by have := hrd.1; rw [vT_len] at this; omega
  obtain ⟨i0, hi0, hz0, hs0, hy0⟩ := int_info8 Try.infoI18
  have HE := Lib.hid fun (t : Tm) (ht : t ∈ l) (g : Nat) (W : World) (hW : Below w.heap.size w W) => reval_any RA rn rc rws (some ⟨g, 0, none⟩) 0 0 [] f t W ⟨(he.below0 hW).r, (he.below0 hW).e, ⟨by simp [vV], fun h => absurd h (by omega)⟩, he.rn, by decide, by simp⟩ (((hin t ht).under hW).more hW.size) (hs t ht)
  obtain ⟨ev, hev⟩ : ∃ ev : Tm → Option Vl, ev = evT (rws.map Rv.l) [] f := ⟨_, rfl⟩
  rw [← hev] at HE ⊢
  obtain ⟨g, hg⟩ : ∃ g : Tm → Int, g = fun t => truO (ev t) := ⟨_, rfl⟩
  have HG := Lib.hid (fun t => by rw [hg] : ∀ t, truO (ev t) = g t)
  rw [← hg]
  have Hl := Lib.hid hl
  have nI : (n : Int) ≤ 1000 := by omega
  clear hg hl he hin hs hev
  have hown0 : (w.alloc (.cells #[] 3)).ownsRow w.heap.size 3 1 (.slice (some ⟨w.heap.size, 0, none⟩) 0 0) 0 [] := own_empty w 3 1 (g := w.heap.size) rfl
  go_enter Try.func20, Try.ntmps20
  go_wp2_with fail
  go_loopw [5, 6, 10] (fun v j i wr => ∃ k : Nat, k ≤ n ∧ i = .int .i64 k ∧ wr.ownsRow w.heap.size 3 1 v k (vI64 ((l.take k).map g)) ∧ Below w.heap.size w wr) (fun _ _ i _ => n - (intOf i).toNat)
  case atStart => exact ⟨0, Nat.zero_le _, rfl, by simpa [vI64] using hown0, ball (Below.refl _ _) _⟩
  case round =>
    clear hown0
    obtain ⟨k, hk, rfl, hown, hbw⟩ := hrel
    have hbz := hbw.size
    have q0 : (0 : Int) ≤ (k : Int) := by omega
    by_cases hlt : k < n
    · have q1 : (k : Int) < (n : Int) := by omega
      obtain ⟨ad, t, rfl, hab, ht, hat⟩ := (hrd.below hbw).tm hlt
      have HC := Lib.hid fun (g : Nat) W (hb : Below wr.heap.size wr W) => HE.out t (List.mem_of_getElem? ht) g W (bto0 hbw hb)
      have HT := Lib.hid fun W => rtruth_any (ev t) W
      have Hs := Lib.hid (map_take_succ g l k t ht)
      rw [HG.out t] at HT
      obtain ⟨x, hx⟩ : ∃ x, g t = x := ⟨_, rfl⟩
      rw [hx] at Hs HT
      generalize ev t = o at HC HT
      have H1 : ∀ u ∈ [Value.int .i64 x], u.oneCell' = true := by simp [Value.oneCell']
      have HOWN := Lib.hid hown
      clear ht hx hown
      obtain ⟨⟨k1, op1, no1, ⟨vk1, vi1, vs1⟩, of1, nm1, tb1, cl1⟩, A1, n1, c1, l1⟩ := t
      obtain ⟨y0, y1, y2, y3, y4, y5, y6, y7, y8, y9, y10⟩ := hat
      simp only [Tm.agg, TmH.agg, Tm.h, Tm.A, Tm.n, Tm.c] at HC y0 y1 y2 y3 y4 y5 y6 y7 y8 y9 y10
      clear hrd
      go_wp2_with fail
      refine (HC.out _ _ (ball (Below.refl _ _) _)).mono ?_
      rintro e w1 ⟨rfl, hb1⟩
      go_wp2_with fail
      refine (HT.out _).mono ?_
      rintro e w2 ⟨rfl, hb2⟩
      have hbx : Below wr.heap.size wr w2 := bto0 (bto0 (ball (Below.refl _ _) _) hb1) hb2
      have hown1 := own_below18 HOWN.out hbx
      have hb3 := bto0 hbw hbx
      have hz2 := hb3.size
      go_wp2_with (at_builtin; refine wpList_push rfl _ _ 64 rfl w.heap.size 3 i0 (.int .i64 0) 1 8 Try.underlying64 hi0 hz0 hs0 hy0 rfl (by decide) u5 k _ rfl hown1 rfl rfl rfl H1 (by omega) (by omega) hz2 ?_; intro v4 w4 hown4 hbb4)
      go_roundw
      case rel => exact ⟨k + 1, by omega, by go_num, by rw [Hs.out]; simpa [vI64] using hown4, hbb4 _ _ (Nat.le_refl _) hb3⟩
      case measure => simp [intOf]; omega
    · obtain rfl : k = n := by omega
      have H : List.take k l = l := List.take_of_length_le (by rw [Hl.out]; exact Nat.le_refl _)
      obtain ⟨A1, c1, rfl, hc1⟩ := own_form hown
      rw [H] at hown
      have hnn : ∀ z ∈ l.map g, 0 ≤ z := fun z hz => by
        obtain ⟨t, _, rfl⟩ := List.mem_map.1 hz
        rw [← HG.out t]
        exact (truO_bd _).1
      have ekn : (l.map g).map kn = l.map g := by
        rw [List.map_map]
        refine List.map_congr_left fun t _ => ?_
        show kn (g t) = g t
        rw [← HG.out t]
        unfold kn
        rw [if_neg (by have := (truO_bd (ev t)).2; omega)]
      have hrn := Reads.of_own hown
      rw [← ekn] at hrn
      have HO := Lib.hid (rand_told A1 k c1 (l.map g) hnn wr wr.heap.size hrn (by omega))
      clear hown hrd hrn hnn ekn H
      go_wp2_with fail
      refine HO.out.mono ?_
      rintro e w5 ⟨rfl, rfl⟩
      go_wp2_with fail
      go_ret
      exact ⟨rfl, hbw⟩
end
end Go.Proofs.Ytilopgfpifhccaa
