
/-
  The law ExplainPlan: its walk.
-/
import Derived.Test.YtblpflobpffjnaaDoorW4
set_option linter.unusedSimpArgs false
set_option linter.unusedVariables false
namespace Go.Proofs.YtblpflobpffjnaaDoor
open Go.RowKit

/-- Some truth: where it is not so, no table has more than 3000 columns. -/
def RetGr (w : World) (l : List Tb) (e : Ending) (w' : World) : Prop := ∃ b : Bool, e = .returned (.bool b) ∧ Below w.heap.size w w' ∧ (b = false → ∀ t ∈ l, t.n ≤ 3000)
theorem wrapI {z : Int} (h0 : 0 ≤ z) (h1 : z ≤ 100000000000000000) : wrap64 z = z := by unfold wrap64; omega
set_option maxHeartbeats 1000000 in
theorem great12_any (A : Option Addr) (n c : Nat) (l : List Tb) (B : Option Addr) (m d : Nat) (r : List Ix) (w : World) (hr : Reads w w.heap.size 5 A n (vTb l)) (hl : ∀ t ∈ l, TbIn w w.heap.size t) (hx : Reads w w.heap.size 7 B m (vIx r)) (hn : n ≤ 2199023255552) (hm : m ≤ maxLen) (hix : ∀ x ∈ r, x.ok) :
    Calls Tryd.prog 6 #[.agg #[.slice A n c, .slice B m d]] w (RetGr w l) := by
  have hln : l.length = n := by have := hr.1; rw [vTb_len] at this; omega
  unfold maxLen at hm
  have nI : (n : Int) ≤ 2199023255552 := by omega
  have mI : (m : Int) ≤ 9223372036854775807 := by omega
  have HR := Lib.hid (And.intro (hr.below (ball (Below.refl _ _) (.cells #[.slice A n c, .slice B m d] 25))) (And.intro hl (And.intro (hx.below (ball (Below.refl _ _) (.cells #[.slice A n c, .slice B m d] 25))) (ball (Below.refl w.heap.size w) (.cells #[.slice A n c, .slice B m d] 25)))))
  have HIX := Lib.hid hix
  have HX := Lib.hid hx
  have HLN := Lib.hid hln
  clear hn hm hr hl hx hix hln
  go_enter Tryd.func6, Tryd.ntmps6
  go_wp2
  go_loop [3, 10] (fun u v => ∃ (x : Int) (i : Nat), u = .int .i64 x ∧ i ≤ n ∧ v = .int .i64 i ∧ 0 ≤ x ∧ x ≤ 3001 * (i : Int) + 3000 ∧ ∀ j, j < i → ∀ t, l[j]? = some t → t.n ≤ 3000) (fun _ v => n - (intOf v).toNat)
  case atStart => exact ⟨0, 0, rfl, by omega, rfl, by omega, by omega, fun j hj => by omega⟩
  case round =>
    obtain ⟨x, i, rfl, hi, rfl, hx0, hx1, hall⟩ := hrel
    have HALL := Lib.hid hall
    clear hall
    have i0 : (0 : Int) ≤ (i : Int) := by omega
    by_cases hlt : i < n
    · have i1 : (i : Int) < (n : Int) := by omega
      obtain ⟨ad, t, rfl, hab, ht, d0, d1, d2, d3, d4⟩ := HR.out.1.tb_ hlt
      have htin := (HR.out.2.1 t (List.mem_of_getElem? ht)).under HR.out.2.2.2
      obtain ⟨hz0, ⟨hz1, hz2⟩, hcr, hcs⟩ := htin
      unfold maxLen at hz0 hz2
      have tn : (t.n : Int) ≤ 9223372036854775807 := by omega
      have ts : (t.nm.size : Int) ≤ 9223372036854775807 := by omega
      obtain ⟨X, hX⟩ : ∃ X, x + (1 + min (t.nm.size : Int) 3000) = X := ⟨_, rfl⟩
      have hX1 : 1 ≤ X ∧ X ≤ x + 3001 := by omega
      have hw : wrap64 (x + (1 + min (t.nm.size : Int) 3000)) = X := by rw [wrapI (by omega) (by omega)]; exact hX
      have HC := Lib.hid (And.intro hcr (And.intro hcs (And.intro hX1 (And.intro hx1 ht))))
      have HXe := Lib.hid hX
      clear hcr hcs hz0 hz1 hz2 d2 d3 d4 ht hX hX1
      go_wp2
      go_loop [3, 31] (fun u v => ∃ (y : Int) (k : Nat), u = .int .i64 y ∧ k ≤ t.n ∧ v = .int .i64 k ∧ ((k = 0 ∧ y = X) ∨ ((k : Int) ≤ y ∧ y ≤ 3000))) (fun _ v => t.n - (intOf v).toNat)
      case atStart => exact ⟨X, 0, by first | rw [hw] | rw [HXe.out], by omega, rfl, .inl ⟨rfl, rfl⟩⟩
      case round =>
        obtain ⟨y, k, rfl, hk, rfl, hy⟩ := hrel
        have k0 : (0 : Int) ≤ (k : Int) := by omega
        clear hw
        by_cases hkt : k < t.n
        · have k1 : (k : Int) < (t.n : Int) := by omega
          obtain ⟨ad2, q, hA2, hab2, hq, f0, f1, f2, f3⟩ := HC.out.1.cl_ hkt
          rw [hA2] at d1
          have hq0 := (HC.out.2.1 q (List.mem_of_getElem? hq)).1
          unfold maxLen at hq0
          have qs : (q.nm.size : Int) ≤ 9223372036854775807 := by omega
          obtain ⟨Y, hY⟩ : ∃ Y, y + (1 + min (q.nm.size : Int) 3000) = Y := ⟨_, rfl⟩
          have hX1 := HC.out.2.2.1
          have hy1 : 0 ≤ y ∧ y ≤ 10000000000000000 := by rcases hy with ⟨_, rfl⟩ | ⟨h1, h2⟩ <;> omega
          have hY1 : (k : Int) + 1 ≤ Y := by rcases hy with ⟨h1, rfl⟩ | ⟨h1, h2⟩ <;> omega
          have hw2 : wrap64 (y + (1 + min (q.nm.size : Int) 3000)) = Y := by rw [wrapI (by omega) (by omega)]; exact hY
          have HY := Lib.hid hY1
          clear f1 f2 f3 hq hq0 hY hX1 hy1 hY1 hy
          by_cases hgt : 3000 < Y
          · go_wp2
            go_ret
            exact ⟨true, rfl, ball (Below.refl _ _) _, fun h => by cases h⟩
          · have hgt' : Y ≤ 3000 := by omega
            go_wp2
            exact ⟨⟨Y, k + 1, by rw [hw2], by omega, by go_num, .inr ⟨by have := HY.out; omega, hgt'⟩⟩, by simp [intOf]; omega⟩
        · obtain rfl : k = t.n := by omega
          go_wp2
          have hX1 := HC.out.2.2.1
          refine ⟨⟨y, i + 1, rfl, by omega, by go_num, ?_, ?_, ?_⟩, by simp [intOf]; omega⟩
          · rcases hy with ⟨_, rfl⟩ | ⟨h1, h2⟩ <;> omega
          · rcases hy with ⟨_, rfl⟩ | ⟨h1, h2⟩ <;> omega
          · intro j hj t' ht'
            by_cases hji : j < i
            · exact HALL.out j hji t' ht'
            · obtain rfl : j = i := by omega
              rw [HC.out.2.2.2.2] at ht'
              injection ht' with ht'
              subst ht'
              rcases hy with ⟨h0, _⟩ | ⟨h1, h2⟩ <;> omega
    · obtain rfl : i = n := by omega
      have HF : Hid (∀ t ∈ l, t.n ≤ 3000) := Lib.hid fun t ht => by
        obtain ⟨j, hj, he⟩ := List.mem_iff_getElem.1 ht
        exact HALL.out j (by rw [← HLN.out]; exact hj) t (by rw [List.getElem?_eq_getElem hj, he])
      go_wp2
      go_loopw [3, 56] (fun u v wr => ∃ (y : Int) (k : Nat), u = .int .i64 y ∧ k ≤ m ∧ v = .int .i64 k ∧ Below w.heap.size w wr ∧ Blk wr w.heap.size 25 #[.slice A i c, .slice B m d]) (fun _ v _ => m - (intOf v).toNat)
      case atStart => exact ⟨_, 0, rfl, by omega, rfl, ball (Below.refl _ _) _, Blk.new _ _ _⟩
      case round =>
        obtain ⟨y, k, rfl, hk, rfl, hb, hbk⟩ := hrel
        have b0 : wr.cell? ⟨w.heap.size, 0, none⟩ = some (.slice A i c) := hbk.cell 0
        have b1 : wr.cell? ⟨w.heap.size, 1, none⟩ = some (.slice B m d) := hbk.cell 1
        have k0 : (0 : Int) ≤ (k : Int) := by omega
        by_cases hkm : k < m
        · have k1 : (k : Int) < (m : Int) := by omega
          obtain ⟨ad2, q, rfl, hab2, hq, f0, f1, f2, f3, f4, f5, f6⟩ := (HX.out.below hb).ix_ hkm
          have hq0 := HIX.out q (List.mem_of_getElem? hq)
          obtain ⟨z0, ⟨z1, z2⟩, ⟨z3, z4⟩⟩ := hq0
          unfold maxLen at z0 z2 z4
          have qs : (q.nm.size : Int) ≤ 9223372036854775807 := by omega
          have qn : (q.n : Int) ≤ 9223372036854775807 := by omega
          have qm : (q.m : Int) ≤ 9223372036854775807 := by omega
          have HB := Lib.hid (And.intro hb hbk)
          clear f1 f3 f4 f5 hq z0 z1 z2 z3 z4 hb hbk
          go_wp2
          go_quiet (fail)
          go_wp2
          · go_ret
            exact ⟨true, rfl, bdr HB.out.1 _, fun h => by cases h⟩
          · exact ⟨⟨_, k + 1, rfl, by omega, by go_num, bdr HB.out.1 _, HB.out.2.drewN _⟩, by simp [intOf]; omega⟩
        · obtain rfl : k = m := by omega
          go_wp2
          go_ret
          exact ⟨_, rfl, hb, fun _ => HF.out⟩

set_option maxRecDepth 100000 in
set_option maxHeartbeats 4000000 in
theorem explainPlan_any (A : Option Addr) (n c : Nat) (tbs : List Tb) (B : Option Addr) (m d : Nat) (ixs : List Ix) (K : Option Addr) (kn kc : Nat) (ks : List Int) (v0 v2 v3 v4 v5 v6 v7 v8 v9 v10 : Value) (P : Option Addr) (pn pc : Nat) (sps : List Sp) (srt : Bool) (w : World) (hv : VT w)
    (E : EnvB w w.heap.size A n tbs B m ixs K kn ks) (hl : ∀ t ∈ tbs, TbIn w w.heap.size t) (hix : ∀ x ∈ ixs, x.ok) (hn : n ≤ 2199023255552) (hP : Reads w w.heap.size 11 P pn (vSp sps)) (hok : ∀ x ∈ sps, x.ok) (hpn : pn ≤ maxLen) :
    Calls Tryd.prog 3 #[.agg #[.slice A n c, .slice B m d], .agg #[v0, .slice K kn kc, v2, v3, v4, v5, v6, v7, v8, v9, v10], .agg #[.slice P pn pc, .bool srt]] w (RetB w (.bool true)) := by
  obtain ⟨WA, hWA⟩ : ∃ WA, ((w.alloc (.cells #[.slice A n c, .slice B m d] 25)).alloc (.cells #[v0, .slice K kn kc, v2, v3, v4, v5, v6, v7, v8, v9, v10] 32)).alloc (.cells #[.slice P pn pc, .bool srt] 35) = WA := ⟨_, rfl⟩
  have hbA : Below w.heap.size w WA := hWA ▸ ball (ball (ball (Below.refl w.heap.size w) _) _) _
  have B0 : Blk WA w.heap.size 25 #[.slice A n c, .slice B m d] := hWA ▸ ((Blk.new w _ _).alloc _).alloc _
  have B1 : Blk WA (w.heap.size + 1) 32 #[v0, .slice K kn kc, v2, v3, v4, v5, v6, v7, v8, v9, v10] := by
    have h := Blk.new (w.alloc (.cells #[.slice A n c, .slice B m d] 25)) 32 #[v0, .slice K kn kc, v2, v3, v4, v5, v6, v7, v8, v9, v10]
    rw [alloc_size] at h
    exact hWA ▸ h.alloc _
  have B2 : Blk WA (w.heap.size + 1 + 1) 35 #[.slice P pn pc, .bool srt] := by
    have h := Blk.new ((w.alloc (.cells #[.slice A n c, .slice B m d] 25)).alloc (.cells #[v0, .slice K kn kc, v2, v3, v4, v5, v6, v7, v8, v9, v10] 32)) 35 #[.slice P pn pc, .bool srt]
    rw [alloc_size, alloc_size] at h
    exact hWA ▸ h
  have hzA : w.heap.size + 1 + 1 < WA.heap.size := B2.lt
  have HGR := Lib.hid (great12_any A n c tbs B m d ixs WA ((E.t.below hbA).more hbA.size) (fun t ht => by
    obtain ⟨h1, h2, h3, h4⟩ := hl t ht
    exact ⟨h1, h2, (h3.below hbA).more hbA.size, h4⟩) ((E.x.below hbA).more hbA.size) hn E.m0 hix)
  have HF := Lib.hid fun (W : World) (hb : Below WA.heap.size WA W) => fixed30_any W (hv.below0 (bto0 hbA hb))
  have HP1 := Lib.hid fun (W : World) (hb : Below WA.heap.size WA W) (h50 : pn ≤ 50) => plan_any (E.below (bto0 hbA hb)) (bto0 hbA hb).size (hv.below0 (bto0 hbA hb)) c d kc v0 v2 v3 v4 v5 v6 v7 v8 v9 v10 P pn pc sps srt ((hP.below (bto0 hbA hb)).more (bto0 hbA hb).size) hok h50
  have HP2 := Lib.hid fun (W : World) (hb : Below WA.heap.size WA W) (h50 : pn ≤ 50) => rplan_any (E.below (bto0 hbA hb)) (bto0 hbA hb).size c d kc v0 v2 v3 v4 v5 v6 v7 v8 v9 v10 P pn pc sps srt ((hP.below (bto0 hbA hb)).more (bto0 hbA hb).size) hok h50
  have hS := Lib.hid fun (W : World) (hb : Below WA.heap.size WA W) => (show W.cell? ⟨w.heap.size, 0, none⟩ = some (.slice A n c) ∧ W.cell? ⟨w.heap.size, 1, none⟩ = some (.slice B m d) ∧ W.cell? ⟨w.heap.size + 1, 0, none⟩ = some (v0) ∧ W.cell? ⟨w.heap.size + 1, 1, none⟩ = some (.slice K kn kc) ∧ W.cell? ⟨w.heap.size + 1, 2, none⟩ = some (v2) ∧ W.cell? ⟨w.heap.size + 1, 3, none⟩ = some (v3) ∧ W.cell? ⟨w.heap.size + 1, 4, none⟩ = some (v4) ∧ W.cell? ⟨w.heap.size + 1, 5, none⟩ = some (v5) ∧ W.cell? ⟨w.heap.size + 1, 6, none⟩ = some (v6) ∧ W.cell? ⟨w.heap.size + 1, 7, none⟩ = some (v7) ∧ W.cell? ⟨w.heap.size + 1, 8, none⟩ = some (v8) ∧ W.cell? ⟨w.heap.size + 1, 9, none⟩ = some (v9) ∧ W.cell? ⟨w.heap.size + 1, 10, none⟩ = some (v10) ∧ W.cell? ⟨w.heap.size + 1 + 1, 0, none⟩ = some (.slice P pn pc) ∧ W.cell? ⟨w.heap.size + 1 + 1, 1, none⟩ = some (.bool srt) from
    ⟨(hb.cell (by simp <;> omega)).trans (B0.cell 0), (hb.cell (by simp <;> omega)).trans (B0.cell 1), (hb.cell (by simp <;> omega)).trans (B1.cell 0), (hb.cell (by simp <;> omega)).trans (B1.cell 1), (hb.cell (by simp <;> omega)).trans (B1.cell 2), (hb.cell (by simp <;> omega)).trans (B1.cell 3), (hb.cell (by simp <;> omega)).trans (B1.cell 4), (hb.cell (by simp <;> omega)).trans (B1.cell 5), (hb.cell (by simp <;> omega)).trans (B1.cell 6), (hb.cell (by simp <;> omega)).trans (B1.cell 7), (hb.cell (by simp <;> omega)).trans (B1.cell 8), (hb.cell (by simp <;> omega)).trans (B1.cell 9), (hb.cell (by simp <;> omega)).trans (B1.cell 10), (hb.cell (by simp <;> omega)).trans (B2.cell 0), (hb.cell (by simp <;> omega)).trans (B2.cell 1)⟩)
  have HBA := Lib.hid hbA
  have kI : (kn : Int) ≤ 9223372036854775807 := by have := E.k0; unfold maxLen at this; omega
  have pI : (pn : Int) ≤ 9223372036854775807 := by unfold maxLen at hpn; omega
  have nu : w.heap.size < WA.heap.size := by omega
  have nu1 : w.heap.size + 1 < WA.heap.size := by omega
  generalize planT tbs ks ixs sps srt = T at *
  have hTT : ((str T).toList == (str T).toList) = true := by simp
  clear E hv hl hix hn hP hok hpn B0 B1 B2 hbA
  obtain ⟨f0, f1, f2, f3, f4, f5, f6, f7, f8, f9, f10, f11, f12, f13, f14⟩ := hS.out WA (Below.refl _ _)
  go_enter Tryd.func3, Tryd.ntmps3
  go_wp2_with fail
  refine HGR.out.mono ?_
  rintro e w1 ⟨b, rfl, hb1, -⟩
  clear f0 f1 f2 f3 f4 f5 f6 f7 f8 f9 f10 f11 f12 f13 f14
  obtain ⟨f0, f1, f2, f3, f4, f5, f6, f7, f8, f9, f10, f11, f12, f13, f14⟩ := hS.out w1 hb1
  have hz1 := hb1.size
  cases b with
  | true =>
    go_wp2_with fail
    refine (HF.out _ hb1).mono ?_
    rintro e w2 ⟨rfl, hb2⟩
    go_wp2
    go_ret
    exact ⟨rfl, bto0 HBA.out (bto0 hb1 hb2)⟩
  | false =>
    rcases Int.lt_or_le 300 (kn : Int) with h3 | h3
    · go_wp2_with fail
      refine (HF.out _ hb1).mono ?_
      rintro e w2 ⟨rfl, hb2⟩
      go_wp2
      go_ret
      exact ⟨rfl, bto0 HBA.out (bto0 hb1 hb2)⟩
    · rcases Int.lt_or_le 50 (pn : Int) with h5 | h5
      · go_wp2_with fail
        refine (HF.out _ hb1).mono ?_
        rintro e w2 ⟨rfl, hb2⟩
        go_wp2
        go_ret
        exact ⟨rfl, bto0 HBA.out (bto0 hb1 hb2)⟩
      · have H5 := Lib.hid (show pn ≤ 50 by omega)
        have HB1 := Lib.hid hb1
        have hSS := Lib.hid fun (W : World) (hb : Below w1.heap.size w1 W) => And.intro (hS.out W (bto0 hb1 hb)) hb
        clear hb1 hz1
        go_wp2
        go_region_held3 (fun W => (W.cell? ⟨w.heap.size, 0, none⟩ = some (.slice A n c) ∧ W.cell? ⟨w.heap.size, 1, none⟩ = some (.slice B m d) ∧ W.cell? ⟨w.heap.size + 1, 0, none⟩ = some (v0) ∧ W.cell? ⟨w.heap.size + 1, 1, none⟩ = some (.slice K kn kc) ∧ W.cell? ⟨w.heap.size + 1, 2, none⟩ = some (v2) ∧ W.cell? ⟨w.heap.size + 1, 3, none⟩ = some (v3) ∧ W.cell? ⟨w.heap.size + 1, 4, none⟩ = some (v4) ∧ W.cell? ⟨w.heap.size + 1, 5, none⟩ = some (v5) ∧ W.cell? ⟨w.heap.size + 1, 6, none⟩ = some (v6) ∧ W.cell? ⟨w.heap.size + 1, 7, none⟩ = some (v7) ∧ W.cell? ⟨w.heap.size + 1, 8, none⟩ = some (v8) ∧ W.cell? ⟨w.heap.size + 1, 9, none⟩ = some (v9) ∧ W.cell? ⟨w.heap.size + 1, 10, none⟩ = some (v10) ∧ W.cell? ⟨w.heap.size + 1 + 1, 0, none⟩ = some (.slice P pn pc) ∧ W.cell? ⟨w.heap.size + 1 + 1, 1, none⟩ = some (.bool srt)) ∧ Below w1.heap.size w1 W)
          (first | exact hSS.out _ (by (with_reducible repeat (first | exact Below.refl _ _ | exact hb4 | exact hb3 | exact hb2 | refine bto0 ?_ hb4 | refine bto0 ?_ hb3 | refine bto0 ?_ hb2 | refine bdr ?_ _ | refine Below.drew ?_ | refine ball ?_ _))) | assumption)
          (first
            | (go_at_call 7; (with_reducible refine (HF.out _ (bto0 HB1.out (by (with_reducible repeat (first | exact Below.refl _ _ | exact hb4 | exact hb3 | exact hb2 | refine bto0 ?_ hb4 | refine bto0 ?_ hb3 | refine bto0 ?_ hb2 | refine bdr ?_ _ | refine Below.drew ?_ | refine ball ?_ _))))).mono ?_); rintro e w2 ⟨rfl, hb2⟩)
            | (go_at_call 8; (with_reducible refine (HP1.out _ (bto0 HB1.out (by (with_reducible repeat (first | exact Below.refl _ _ | exact hb4 | exact hb3 | exact hb2 | refine bto0 ?_ hb4 | refine bto0 ?_ hb3 | refine bto0 ?_ hb2 | refine bdr ?_ _ | refine Below.drew ?_ | refine ball ?_ _)))) H5.out).mono ?_); rintro e w3 ⟨rfl, hb3⟩)
            | (go_at_call 9; (with_reducible refine (HP2.out _ (bto0 HB1.out (by (with_reducible repeat (first | exact Below.refl _ _ | exact hb4 | exact hb3 | exact hb2 | refine bto0 ?_ hb4 | refine bto0 ?_ hb3 | refine bto0 ?_ hb2 | refine bdr ?_ _ | refine Below.drew ?_ | refine ball ?_ _)))) H5.out).mono ?_); rintro e w4 ⟨rfl, hb4⟩))
        go_wp2
        go_ret
        exact ⟨ret_bool (by simp), bto0 HBA.out (bto0 HB1.out (by (with_reducible repeat (first | exact Below.refl _ _ | exact hb4 | exact hb3 | exact hb2 | refine bto0 ?_ hb4 | refine bto0 ?_ hb3 | refine bto0 ?_ hb2 | refine bdr ?_ _ | refine Below.drew ?_ | refine ball ?_ _))))⟩
end Go.Proofs.YtblpflobpffjnaaDoor
