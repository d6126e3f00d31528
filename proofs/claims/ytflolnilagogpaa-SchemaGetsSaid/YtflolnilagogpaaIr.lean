/-
  The program's May.
-/
import Derived.Test.YtflolnilagogpaaIq
import Derived.Test.YtflolnilagogpaaIj
set_option linter.unusedSimpArgs false
set_option linter.unusedVariables false
namespace Go.Proofs.Ytflolnilagogpaa
open Go.RowKit

theorem mayB_iff {b : PB} {ns xs : List ByteArray} (hns : ns.map (fun s => s.data.toList) = b.ts.map PT.nm) (hxs : xs.map (fun s => s.data.toList) = b.xs.map PX.nm) :
    MayB b ↔ (b.ts.length ≤ 16 ∧ b.xs.length ≤ 16) ∧ (∀ i, i < b.ts.length → ∀ t, b.ts[i]? = some t → MayT t) ∧ Apart ns ns.length ∧ (∀ i, i < b.xs.length → ∀ x, b.xs[i]? = some x → MayX b.ts x) ∧ Apart xs xs.length := by
  constructor
  · rintro ⟨h1, h2, h3, h4⟩
    exact ⟨⟨h1, h2⟩, fun i hi t ht => (h3 i hi t ht).1, apart_of hns h3, fun i hi x hx => (h4 i hi x hx).1, apart_of hxs h4⟩
  · rintro ⟨⟨h1, h2⟩, h3, h4, h5, h6⟩
    exact ⟨h1, h2, good_of hns h3 h4, good_of hxs h5 h6⟩
set_option maxRecDepth 100000 in
set_option maxHeartbeats 8000000 in
theorem may_any (A : Option Addr) (n c : Nat) (l : List Tb) (B : Option Addr) (m d : Nat) (r : List Ix) (w : World) (hk : BkIn w A n c l B m d r) :
    Calls Try.prog 11 #[.agg #[.slice A n c, .slice B m d]] w (RetM w (MayB (pbk l r))) := by
  have hlp : (l.map Tb.pt).length = n := by rw [List.length_map]; exact hk.ln
  have hrp : (r.map Ix.px).length = m := by rw [List.length_map]; exact hk.rn
  have hln : (l.map Tb.nm).length = n := by rw [List.length_map]; exact hk.ln
  have hrn : (r.map Ix.nm).length = m := by rw [List.length_map]; exact hk.rn
  have nI : (n : Int) ≤ 9223372036854775807 := by have := hk.hn.1; have := hk.hn.2; unfold maxLen at this; omega
  have mI : (m : Int) ≤ 9223372036854775807 := by have := hk.hm.1; have := hk.hm.2; unfold maxLen at this; omega
  have IFF : Hid (MayB (pbk l r) ↔ (n ≤ 16 ∧ m ≤ 16) ∧ (∀ i, i < n → ∀ t, (l.map Tb.pt)[i]? = some t → MayT t) ∧ Apart (l.map Tb.nm) n ∧ (∀ i, i < m → ∀ x, (r.map Ix.px)[i]? = some x → MayX (l.map Tb.pt) x) ∧ Apart (r.map Ix.nm) m) := Lib.hid (by
    have h := mayB_iff (b := pbk l r) (ns := l.map Tb.nm) (xs := r.map Ix.nm) (by show _ = (l.map Tb.pt).map PT.nm; rw [List.map_map, List.map_map]; rfl) (by show _ = (r.map Ix.px).map PX.nm; rw [List.map_map, List.map_map]; rfl)
    rw [h, hln, hrn]
    show (((l.map Tb.pt).length ≤ 16 ∧ (r.map Ix.px).length ≤ 16) ∧ (∀ i, i < (l.map Tb.pt).length → _) ∧ _ ∧ (∀ i, i < (r.map Ix.px).length → _) ∧ _) ↔ _
    rw [hlp, hrp]
    exact Iff.rfl)
  have HC := Lib.hid (And.intro hk (And.intro hln hrn))
  clear hk hlp hrp hln hrn
  have HB0 : Hid (Below w.heap.size w (w.alloc (.cells #[.slice A n c, .slice B m d] 25)) ∧ Blk (w.alloc (.cells #[.slice A n c, .slice B m d] 25)) w.heap.size 25 #[.slice A n c, .slice B m d]) := Lib.hid ⟨ball (Below.refl _ _) _, Blk.new _ _ _⟩
  by_cases c16 : n ≤ 16
  · by_cases d16 : m ≤ 16
    · have c16I : (n : Int) ≤ 16 := by omega
      have d16I : (m : Int) ≤ 16 := by omega
      have e16 : decide (16 < (n : Int)) = false := decide_eq_false (by omega)
      have f16 : decide (16 < (m : Int)) = false := decide_eq_false (by omega)
      go_enter Try.func11, Try.ntmps11
      go_wp2
      go_loopw [3, 21] (fun u v wr => ∃ i : Nat, i ≤ n ∧ v = .int .i64 i ∧ OwnS wr w.heap.size u ((l.map Tb.nm).take i) ∧ Below w.heap.size w wr ∧ Blk wr w.heap.size 25 #[.slice A n c, .slice B m d] ∧ ∀ j, j < i → ∀ t, (l.map Tb.pt)[j]? = some t → MayT t) (fun _ v _ => n - (intOf v).toNat)
      case atStart => exact ⟨0, by omega, rfl, OwnS.nil _ _, HB0.out.1, HB0.out.2, fun j hj => by omega⟩
      case round =>
        obtain ⟨wo, rfl⟩ : ∃ wo : World, wo = wr := ⟨_, rfl⟩
        obtain ⟨i, hi, rfl, own, hb, hbk, hg⟩ := hrel
        have q0 : (0 : Int) ≤ (i : Int) := by omega
        have blt := hbk.lt
        have b0 : wo.cell? ⟨w.heap.size, 0, none⟩ = some (.slice A n c) := hbk.cell 0
        have b1 : wo.cell? ⟨w.heap.size, 1, none⟩ = some (.slice B m d) := hbk.cell 1
        by_cases hlt : i < n
        · have q1 : (i : Int) < (n : Int) := by omega
          obtain ⟨ad, q, hA, hab, hq, d0, d1, d2, d3, d4⟩ := (HC.out.1.hr.below hb).tb_ hlt
          have hpq : (l.map Tb.pt)[i]? = some q.pt := by rw [List.getElem?_map, hq]; rfl
          have htk : (l.map Tb.nm).take (i + 1) = (l.map Tb.nm).take i ++ [q.nm] := by rw [List.take_add_one, List.getElem?_map, hq]; rfl
          have hlk : ((l.map Tb.nm).take i).length = i := by rw [List.length_take]; have := HC.out.2.1; omega
          subst hA
          have TC := Lib.hid (fun (W : World) (hW : Below wo.heap.size wo W) => (mayTable_any q W (TbOk.mv (HC.out.1.hl q (List.mem_of_getElem? hq)) (bto0 hb hW)) : Calls Try.prog 20 #[q.agg] W (RetM W (MayT q.pt))))
          have HQ := Lib.hid (And.intro hpq (And.intro htk (And.intro hlk (And.intro own (And.intro hb (And.intro hbk hg))))))
          clear hpq htk hlk own hb hbk hg hq
          go_wp2_with (first
            | (go_at_call 20; (with_reducible refine (TC.out _ (by with_reducible repeat (first | exact Below.refl _ _ | refine Below.drew ?_ | refine bdr ?_ _ | refine ball ?_ _))).mono ?_); rintro e w1 ⟨b, rfl, hbb, hb1⟩; have bo1 := (bto0 (ball (Below.refl wo.heap.size wo) (.cells #[.string q.nm, .slice q.A q.n q.c, .int .u32 q.f, .int .i64 q.r, .int .i64 q.p] 44)) hb1); have hX := ((Blk.new wo 44 #[.string q.nm, .slice q.A q.n q.c, .int .u32 q.f, .int .i64 q.r, .int .i64 q.p]).below hb1 (by simp)); have x0 : w1.cell? ⟨wo.heap.size, 0, none⟩ = some (.string q.nm) := hX.cell 0; have hxlt := hX.lt; have HM := Lib.hid (And.intro hbb (And.intro (bto0 HQ.out.2.2.2.2.1 bo1) (And.intro (HQ.out.2.2.2.2.2.1.below bo1 blt) (HQ.out.2.2.2.1.below bo1)))); have hz1 := (bto0 HQ.out.2.2.2.2.1 bo1).size; clear hbb hb1 bo1 hX)
            | (at_builtin; refine wpList_pushN rfl _ _ rfl w.heap.size _ ((l.map Tb.nm).take i) q.nm (by first | rfl | (simp; done) | (simp [go_sem]; done)) HM.out.2.2.2 _ (by first | rfl | (simp; done) | (simp [go_sem]; done)) (by simp) (by rw [HQ.out.2.2.1]; omega) (by omega) ?_; intro v2 w2 own2 kp2))
          all_goals first
            | (have hbf : b = false := by simpa using ‹(!b) = true›
               subst hbf
               go_ret
               exact ⟨false, rfl, ⟨fun h => (by cases h), fun h => absurd (HM.out.1.2 ((IFF.out.1 h).2.1 i hlt _ HQ.out.1)) (by decide)⟩, HM.out.2.1⟩)
            | (have hbf : b = true := by simpa using ‹(!b) = false›
               subst hbf
               have hd := HM.out.1.1 (by first | rfl | trivial)
               exact ⟨⟨i + 1, by omega, by go_num, by rw [HQ.out.2.1]; exact own2, kp2.below _ _ (Nat.le_refl _) HM.out.2.1, kp2.blk _ _ _ (by decide) HM.out.2.2.1, fun j hj t ht => by
                 by_cases hji : j < i
                 · exact HQ.out.2.2.2.2.2.2 j hji t ht
                 · obtain rfl : j = i := by omega
                   rw [HQ.out.1] at ht
                   cases ht
                   exact hd⟩, by simp [intOf]; omega⟩)
        · obtain rfl : n = i := by omega
          obtain ⟨A2, c2, rfl, hc2⟩ := own.form
          have hln2 := HC.out.2.1
          have hnt : (l.map Tb.nm).take n = (l.map Tb.nm) := List.take_of_length_le (by omega)
          rw [hnt] at own hc2 ⊢
          rw [hln2] at own hc2 ⊢
          have D := Lib.hid (differS_any A2 n c2 (l.map Tb.nm) _ (own.reads.1) (by unfold maxLen; omega) hc2)
          have HB1 := Lib.hid (And.intro hb (And.intro hbk hg))
          clear own hc2 hnt hln2 hg hb hbk b0 b1
          go_wp2_with fail
          refine D.out.mono ?_
          rintro e w1 ⟨b, rfl, hbb, hb1⟩
          have hk1 := HB1.out.2.1.below hb1 blt
          have x1 : w1.cell? ⟨w.heap.size, 1, none⟩ = some (.slice B m d) := hk1.cell 1
          have HD := Lib.hid (And.intro hbb (And.intro (bto0 HB1.out.1 hb1) hk1))
          clear hbb hb1 hk1 blt
          cases b with
          | false =>
            go_wp2
            go_ret
            exact ⟨false, rfl, ⟨fun h => (by cases h), fun h => absurd (HD.out.1.2 (IFF.out.1 h).2.2.1) (by decide)⟩, HD.out.2.1⟩
          | true =>
            obtain ⟨w9, rfl⟩ : ∃ w9 : World, w9 = wo := ⟨_, rfl⟩
            clear hi q0
            go_wp2
            go_loopw [3, 40] (fun u v wr => ∃ i : Nat, i ≤ m ∧ v = .int .i64 i ∧ OwnS wr w.heap.size u ((r.map Ix.nm).take i) ∧ Below w.heap.size w wr ∧ Blk wr w.heap.size 25 #[.slice A n c, .slice B m d] ∧ ∀ j, j < i → ∀ t, (r.map Ix.px)[j]? = some t → MayX (l.map Tb.pt) t) (fun _ v _ => m - (intOf v).toNat)
            case atStart => exact ⟨0, by omega, rfl, OwnS.nil _ _, HD.out.2.1, HD.out.2.2, fun j hj => by omega⟩
            case round =>
              obtain ⟨wo, rfl⟩ : ∃ wo : World, wo = wr := ⟨_, rfl⟩
              obtain ⟨i, hi, rfl, own, hb, hbk, hg⟩ := hrel
              have q0 : (0 : Int) ≤ (i : Int) := by omega
              have blt := hbk.lt
              have b0 : wo.cell? ⟨w.heap.size, 0, none⟩ = some (.slice A n c) := hbk.cell 0
              have b1 : wo.cell? ⟨w.heap.size, 1, none⟩ = some (.slice B m d) := hbk.cell 1
              by_cases hlt : i < m
              · have q1 : (i : Int) < (m : Int) := by omega
                obtain ⟨ad, q, hA, hab, hq, d0, d1, d2, d3, d4, d5, d6⟩ := (HC.out.1.hx.below hb).ix_ hlt
                have hpq : (r.map Ix.px)[i]? = some q.px := by rw [List.getElem?_map, hq]; rfl
                have htk : (r.map Ix.nm).take (i + 1) = (r.map Ix.nm).take i ++ [q.nm] := by rw [List.take_add_one, List.getElem?_map, hq]; rfl
                have hlk : ((r.map Ix.nm).take i).length = i := by rw [List.length_take]; have := HC.out.2.2; omega
                subst hA
                have TC := Lib.hid (fun (W : World) (hW : Below wo.heap.size wo W) => (mayIndex_any A n c l (some ad) m d q W (HC.out.1.below (bto0 hb hW)).hr (HC.out.1.below (bto0 hb hW)).hl (Nat.le_trans HC.out.1.hn.1 HC.out.1.hn.2) ((HC.out.1.below (bto0 hb hW)).hix q (List.mem_of_getElem? hq)) : Calls Try.prog 22 #[.agg #[.slice A n c, .slice (some ad) m d], q.agg] W (RetM W (MayX (l.map Tb.pt) q.px))))
                have HQ := Lib.hid (And.intro hpq (And.intro htk (And.intro hlk (And.intro own (And.intro hb (And.intro hbk hg))))))
                clear hpq htk hlk own hb hbk hg hq
                go_wp2_with (first
                  | (go_at_call 22; (with_reducible refine (TC.out _ (by with_reducible repeat (first | exact Below.refl _ _ | refine Below.drew ?_ | refine bdr ?_ _ | refine ball ?_ _))).mono ?_); rintro e w1 ⟨b, rfl, hbb, hb1⟩; have bo1 := (bto0 (ball (Below.refl wo.heap.size wo) (.cells #[.string q.nm, .int .i64 q.tb, .slice q.A q.n q.c, .int .u32 q.root, .int .i64 q.lv, .int .i64 q.hi, .slice q.B q.m q.e] 49)) hb1); have hX := ((Blk.new wo 49 #[.string q.nm, .int .i64 q.tb, .slice q.A q.n q.c, .int .u32 q.root, .int .i64 q.lv, .int .i64 q.hi, .slice q.B q.m q.e]).below hb1 (by simp)); have x0 : w1.cell? ⟨wo.heap.size, 0, none⟩ = some (.string q.nm) := hX.cell 0; have hxlt := hX.lt; have HM := Lib.hid (And.intro hbb (And.intro (bto0 HQ.out.2.2.2.2.1 bo1) (And.intro (HQ.out.2.2.2.2.2.1.below bo1 blt) (HQ.out.2.2.2.1.below bo1)))); have hz1 := (bto0 HQ.out.2.2.2.2.1 bo1).size; clear hbb hb1 bo1 hX)
                  | (at_builtin; refine wpList_pushN rfl _ _ rfl w.heap.size _ ((r.map Ix.nm).take i) q.nm (by first | rfl | (simp; done) | (simp [go_sem]; done)) HM.out.2.2.2 _ (by first | rfl | (simp; done) | (simp [go_sem]; done)) (by simp) (by rw [HQ.out.2.2.1]; omega) (by omega) ?_; intro v2 w2 own2 kp2))
                all_goals first
                  | (have hbf : b = false := by simpa using ‹(!b) = true›
                     subst hbf
                     go_ret
                     exact ⟨false, rfl, ⟨fun h => (by cases h), fun h => absurd (HM.out.1.2 ((IFF.out.1 h).2.2.2.1 i hlt _ HQ.out.1)) (by decide)⟩, HM.out.2.1⟩)
                  | (have hbf : b = true := by simpa using ‹(!b) = false›
                     subst hbf
                     have hd := HM.out.1.1 (by first | rfl | trivial)
                     exact ⟨⟨i + 1, by omega, by go_num, by rw [HQ.out.2.1]; exact own2, kp2.below _ _ (Nat.le_refl _) HM.out.2.1, kp2.blk _ _ _ (by decide) HM.out.2.2.1, fun j hj t ht => by
                       by_cases hji : j < i
                       · exact HQ.out.2.2.2.2.2.2 j hji t ht
                       · obtain rfl : j = i := by omega
                         rw [HQ.out.1] at ht
                         cases ht
                         exact hd⟩, by simp [intOf]; omega⟩)
              · obtain rfl : m = i := by omega
                obtain ⟨A2, c2, rfl, hc2⟩ := own.form
                have hln2 := HC.out.2.2
                have hnt : (r.map Ix.nm).take m = (r.map Ix.nm) := List.take_of_length_le (by omega)
                rw [hnt] at own hc2 ⊢
                rw [hln2] at own hc2 ⊢
                have D := Lib.hid (differS_any A2 m c2 (r.map Ix.nm) _ (own.reads.1) (by unfold maxLen; omega) hc2)
                have HB2 := Lib.hid (And.intro hb (And.intro hbk hg))
                clear own hc2 hnt hln2 hg hb hbk b0 b1
                go_wp2_with fail
                refine D.out.mono ?_
                rintro e w1 ⟨b, rfl, hbb, hb1⟩
                have HE := Lib.hid (And.intro hbb (bto0 HB2.out.1 hb1))
                clear hbb hb1
                go_wp2
                go_ret
                exact ⟨b, rfl, ⟨fun h => IFF.out.2 ⟨⟨c16, d16⟩, HB1.out.2.2, HD.out.1.1 (by first | rfl | trivial), HB2.out.2.2, HE.out.1.1 h⟩, fun h => HE.out.1.2 (IFF.out.1 h).2.2.2.2⟩, HE.out.2⟩
    · skip
      have f16 : (16 : Int) < (m : Int) := by omega
      have e16 : decide (16 < (n : Int)) = false := decide_eq_false (by omega)
      have HX := Lib.hid (fun (h : MayB (pbk l r)) => d16 (IFF.out.1 h).1.2)
      clear d16
      go_enter Try.func11, Try.ntmps11
      go_wp2
      go_ret
      exact ⟨false, rfl, ⟨fun h => (by cases h), fun h => (HX.out h).elim⟩, HB0.out.1⟩
  · skip
    have e16 : (16 : Int) < (n : Int) := by omega
    have HX := Lib.hid (fun (h : MayB (pbk l r)) => c16 (IFF.out.1 h).1.1)
    clear c16
    go_enter Try.func11, Try.ntmps11
    go_wp2
    go_ret
    exact ⟨false, rfl, ⟨fun h => (by cases h), fun h => (HX.out h).elim⟩, HB0.out.1⟩
end Go.Proofs.Ytflolnilagogpaa
