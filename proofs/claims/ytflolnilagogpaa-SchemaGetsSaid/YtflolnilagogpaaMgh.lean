/-
  Several texts in one: If Ig.
-/
import Derived.Test.YtflolnilagogpaaMgg
import Derived.Deep.RegionHeld3
import Derived.Deep.DrawnRows
/-
  The reference's May.
-/
namespace Go.Proofs.Ytflolnilagogpaa
section
set_option linter.unusedSimpArgs false
set_option linter.unusedVariables false
open Go.RowKit

/-- A book, where it lies. -/
structure BkIn (w : World) (A : Option Addr) (n c : Nat) (l : List Tb) (B : Option Addr) (m d : Nat) (r : List Ix) : Prop where
  hr : Reads w w.heap.size 5 A n (vTb l)
  hl : ∀ t ∈ l, TbOk w w.heap.size t
  hx : Reads w w.heap.size 7 B m (vIx r)
  hix : ∀ x ∈ r, IxIn w w.heap.size x
  hn : n ≤ c ∧ c ≤ maxLen
  hm : m ≤ d ∧ d ≤ maxLen
theorem BkIn.below {w w' : World} {A B : Option Addr} {n c m d : Nat} {l : List Tb} {r : List Ix} (h : BkIn w A n c l B m d r) (hb : Below w.heap.size w w') : BkIn w' A n c l B m d r :=
  ⟨(h.hr.below hb).more hb.size, fun t ht => by
    obtain ⟨h1, h2⟩ := h.hl t ht
    have h3 := h1.under hb
    exact ⟨⟨h3.1, h3.2.1, h3.2.2.1.more hb.size, h3.2.2.2⟩, h2⟩, (h.hx.below hb).more hb.size, fun x hx => by
    have h3 := (h.hix x hx).under hb
    exact ⟨h3.1, h3.2.1.more hb.size, h3.2.2.1.more hb.size, h3.2.2.2⟩, h.hn, h.hm⟩
theorem BkIn.ln {w : World} {A B : Option Addr} {n c m d : Nat} {l : List Tb} {r : List Ix} (h : BkIn w A n c l B m d r) : l.length = n := by have := h.hr.1; rw [vTb_len] at this; omega
theorem BkIn.rn {w : World} {A B : Option Addr} {n c m d : Nat} {l : List Tb} {r : List Ix} (h : BkIn w A n c l B m d r) : r.length = m := by have := h.hx.1; rw [vIx_len] at this; omega
set_option maxRecDepth 100000 in
set_option maxHeartbeats 4000000 in
theorem rmay_any (A : Option Addr) (n c : Nat) (l : List Tb) (B : Option Addr) (m d : Nat) (r : List Ix) (w : World) (hk : BkIn w A n c l B m d r) :
    Calls Try.prog 12 #[.agg #[.slice A n c, .slice B m d]] w (RetM w (MayB (pbk l r))) := by
  have hlp : (l.map Tb.pt).length = n := by rw [List.length_map]; exact hk.ln
  have hrp : (r.map Ix.px).length = m := by rw [List.length_map]; exact hk.rn
  have nI : (n : Int) ≤ 9223372036854775807 := by have := hk.hn.1; have := hk.hn.2; unfold maxLen at this; omega
  have mI : (m : Int) ≤ 9223372036854775807 := by have := hk.hm.1; have := hk.hm.2; unfold maxLen at this; omega
  have HC := Lib.hid (And.intro hk (And.intro hlp hrp))
  clear hk hlp hrp
  by_cases c16 : n ≤ 16
  · by_cases d16 : m ≤ 16
    · have c16I : (n : Int) ≤ 16 := by omega
      have d16I : (m : Int) ≤ 16 := by omega
      have e16 : decide (16 < (n : Int)) = false := decide_eq_false (by omega)
      have f16 : decide (16 < (m : Int)) = false := decide_eq_false (by omega)
      have MY := Lib.hid (fun (g : Good MayT PT.nm (l.map Tb.pt) n) (g2 : Good (MayX (l.map Tb.pt)) PX.nm (r.map Ix.px) m) => (show MayB (pbk l r) from ⟨by show (l.map Tb.pt).length ≤ 16; rw [HC.out.2.1]; exact c16, by show (r.map Ix.px).length ≤ 16; rw [HC.out.2.2]; exact d16, by show Good MayT PT.nm (l.map Tb.pt) (l.map Tb.pt).length; rw [HC.out.2.1]; exact g, by show Good (MayX (l.map Tb.pt)) PX.nm (r.map Ix.px) (r.map Ix.px).length; rw [HC.out.2.2]; exact g2⟩))
      have MN := Lib.hid (fun (h : MayB (pbk l r)) => And.intro (fun (k : Nat) (hk : k < n) => h.2.2.1 k (by show k < (l.map Tb.pt).length; rw [HC.out.2.1]; exact hk)) (fun (k : Nat) (hk : k < m) => h.2.2.2 k (by show k < (r.map Ix.px).length; rw [HC.out.2.2]; exact hk)))
      clear c16 d16
      go_enter Try.func12, Try.ntmps12
      go_wp2
      go_loopw [20] (fun v wr => ∃ i : Nat, i ≤ n ∧ v = .int .i64 i ∧ Below w.heap.size w wr ∧ Blk wr w.heap.size 25 #[.slice A n c, .slice B m d] ∧ Good MayT PT.nm (l.map Tb.pt) i) (fun v _ => n - (intOf v).toNat)
      case atStart => exact ⟨0, by omega, rfl, ball (Below.refl _ _) _, Blk.new _ _ _, Good.zero⟩
      case round =>
        obtain ⟨wo, rfl⟩ : ∃ wo : World, wo = wr := ⟨_, rfl⟩
        obtain ⟨i, hi, rfl, hb, hbk, hg⟩ := hrel
        have q0 : (0 : Int) ≤ (i : Int) := by omega
        have b0 : wo.cell? ⟨w.heap.size, 0, none⟩ = some (.slice A n c) := hbk.cell 0
        have b1 : wo.cell? ⟨w.heap.size, 1, none⟩ = some (.slice B m d) := hbk.cell 1
        have blt := hbk.lt
        by_cases hlt : i < n
        · have q1 : (i : Int) < (n : Int) := by omega
          obtain ⟨ad, q, hA, hab, hq, d0, d1, d2, d3, d4⟩ := (HC.out.1.hr.below hb).tb_ hlt
          subst hA
          have hpq : (l.map Tb.pt)[i]? = some q.pt := by rw [List.getElem?_map, hq]; rfl
          have TC := Lib.hid (fun (W : World) (hW : Below wo.heap.size wo W) => (rtable_any q W (((HC.out.1.below (bto0 hb hW)).hl q (List.mem_of_getElem? hq))) : Calls Try.prog 23 #[q.agg] W (RetM W (MayT q.pt))))
          have HQ := Lib.hid (And.intro hpq (And.intro hb (And.intro hbk hg)))
          clear hpq hb hbk hg hq
          go_wp2_with fail
          refine (TC.out _ (by with_reducible repeat (first | exact Below.refl _ _ | refine Below.drew ?_ | refine bdr ?_ _ | refine ball ?_ _))).mono ?_
          rintro e w1 ⟨b, rfl, hbm, hb1⟩
          have hbw1 := bto0 HQ.out.2.1 (bto0 (by with_reducible repeat (first | exact Below.refl _ _ | refine Below.drew ?_ | refine bdr ?_ _ | refine ball ?_ _)) hb1)
          have hbk1 := HQ.out.2.2.1.below (bto0 (by with_reducible repeat (first | exact Below.refl _ _ | refine Below.drew ?_ | refine bdr ?_ _ | refine ball ?_ _)) hb1) blt
          have g0 : w1.cell? ⟨w.heap.size, 0, none⟩ = some (.slice (some ad) n c) := hbk1.cell 0
          have blt1 := hbk1.lt
          have HM := Lib.hid (And.intro hbm (And.intro hbw1 hbk1))
          clear hbm hbw1 hbk1 hb1 b0 b1 d0 d1 d2 d3 d4
          cases b with
          | false =>
            go_wp2
            go_ret
            exact ⟨false, rfl, ⟨fun h => (by cases h), fun h => (HM.out.1.2 ((MN.out h).1 i hlt _ HQ.out.1).1)⟩, HM.out.2.1⟩
          | true =>
            go_wp2
            go_loopw [4] (fun v wr => ∃ k : Nat, k ≤ i ∧ v = .int .i64 k ∧ Below w.heap.size w wr ∧ Blk wr w.heap.size 25 #[.slice (some ad) n c, .slice B m d] ∧ ∀ j, j < k → ∀ c', (l.map Tb.pt)[j]? = some c' → c'.nm ≠ q.nm.data.toList) (fun v _ => i - (intOf v).toNat)
            case atStart => exact ⟨0, by omega, rfl, HM.out.2.1, HM.out.2.2, fun j hj => by omega⟩
            case round =>
              obtain ⟨k, hk, rfl, hb, hbk, hdf⟩ := hrel
              have r0 : (0 : Int) ≤ (k : Int) := by omega
              have b0 : wr.cell? ⟨w.heap.size, 0, none⟩ = some (.slice (some ad) n c) := hbk.cell 0
              by_cases hki : k < i
              · have r1 : (k : Int) < (i : Int) := by omega
                have r2 : (k : Int) < (n : Int) := by omega
                obtain ⟨ad2, q2, hA2, hab2, hq2, f0, f1, f2, f3, f4⟩ := (HC.out.1.hr.below hb).tb_ (show k < n by omega)
                cases hA2
                obtain ⟨ad3, q3, hA3, hab3, hq3, h0, h1, h2, h3, h4⟩ := (HC.out.1.hr.below hb).tb_ hlt
                cases hA3
                have hpq2 : (l.map Tb.pt)[k]? = some q2.pt := by rw [List.getElem?_map, hq2]; rfl
                have hq3' : q3.pt = q.pt := by
                  have h1 : (l.map Tb.pt)[i]? = some q3.pt := by rw [List.getElem?_map, hq3]; rfl
                  rw [HQ.out.1] at h1
                  exact (Option.some.inj h1).symm
                have hq3n : q3.nm = q.nm := nm_bytes _ _ (by
                  rw [ByteArray.toList_eq, ByteArray.toList_eq]
                  exact congrArg PT.nm hq3')
                rw [hq3n] at h0
                have HK := Lib.hid (And.intro hpq2 (And.intro hb (And.intro hbk hdf)))
                clear hpq2 hb hbk hdf hq2 hq3 hq3' hq3n g0 f1 f2 f3 f4 h1 h2 h3 h4
                rcases nm_cases2 q2.nm q.nm with ⟨h1, h2⟩ | ⟨h1, h2⟩
                · have HN := Lib.hid h1
                  clear h1
                  go_wp2
                  go_quiet (fail)
                  go_wp2
                  go_ret
                  exact ⟨false, rfl, ⟨fun h => (by cases h), fun h => absurd HN.out (((MN.out h).1 i hlt _ HQ.out.1).2 k hki _ HK.out.1)⟩, bdr HK.out.2.1 _⟩
                · have HN := Lib.hid h1
                  clear h1
                  go_wp2
                  go_quiet (fail)
                  go_wp2
                  exact ⟨⟨k + 1, by omega, by go_num, bdr HK.out.2.1 _, HK.out.2.2.1.drewN _, fun j hj c' hc' => by
                    by_cases hjk : j < k
                    · exact HK.out.2.2.2 j hjk c' hc'
                    · obtain rfl : j = k := by omega
                      rw [HK.out.1] at hc'
                      cases hc'
                      exact HN.out⟩, by simp [intOf]; omega⟩
              · obtain rfl : k = i := by omega
                have HG := Lib.hid (HQ.out.2.2.2.succ HQ.out.1 (HM.out.1.1 (by first | rfl | trivial)) hdf)
                clear hdf
                go_wp2
                exact ⟨⟨k + 1, by omega, by go_num, hb, hbk, HG.out⟩, by simp [intOf]; omega⟩
        · obtain rfl : n = i := by omega
          have HB := Lib.hid (And.intro hb hbk)
          have HG1 := Lib.hid hg
          clear hg
          go_wp2
          obtain ⟨w9, rfl⟩ : ∃ w9 : World, w9 = wo := ⟨_, rfl⟩
          clear b0 b1 hb hbk
          go_loopw [52] (fun v wr => ∃ i : Nat, i ≤ m ∧ v = .int .i64 i ∧ Below w.heap.size w wr ∧ Blk wr w.heap.size 25 #[.slice A n c, .slice B m d] ∧ Good (MayX (l.map Tb.pt)) PX.nm (r.map Ix.px) i) (fun v _ => m - (intOf v).toNat)
          case atStart => exact ⟨0, by omega, rfl, HB.out.1, HB.out.2, Good.zero⟩
          case round =>
            obtain ⟨wo, rfl⟩ : ∃ wo : World, wo = wr := ⟨_, rfl⟩
            obtain ⟨i, hi, rfl, hb, hbk, hg⟩ := hrel
            have q0 : (0 : Int) ≤ (i : Int) := by omega
            have b0 : wo.cell? ⟨w.heap.size, 0, none⟩ = some (.slice A n c) := hbk.cell 0
            have b1 : wo.cell? ⟨w.heap.size, 1, none⟩ = some (.slice B m d) := hbk.cell 1
            have blt := hbk.lt
            by_cases hlt : i < m
            · have q1 : (i : Int) < (m : Int) := by omega
              obtain ⟨ad, q, hA, hab, hq, d0, d1, d2, d3, d4, d5, d6⟩ := (HC.out.1.hx.below hb).ix_ hlt
              subst hA
              have hpq : (r.map Ix.px)[i]? = some q.px := by rw [List.getElem?_map, hq]; rfl
              have TC := Lib.hid (fun (W : World) (hW : Below wo.heap.size wo W) => (rindex_any A n c l (some ad) m d q W (HC.out.1.below (bto0 hb hW)).hr (fun t ht => ((HC.out.1.below (bto0 hb hW)).hl t ht).1) (Nat.le_trans HC.out.1.hn.1 HC.out.1.hn.2) ((HC.out.1.below (bto0 hb hW)).hix q (List.mem_of_getElem? hq)) : Calls Try.prog 24 #[.agg #[.slice A n c, .slice (some ad) m d], q.agg] W (RetM W (MayX (l.map Tb.pt) q.px))))
              have HQ := Lib.hid (And.intro hpq (And.intro hb (And.intro hbk hg)))
              clear hpq hb hbk hg hq
              have hS : Hid (∀ W, Below wo.heap.size wo W → W.cell? ⟨w.heap.size, 0, none⟩ = some (.slice A n c) ∧ W.cell? ⟨w.heap.size, 1, none⟩ = some (.slice (some ad) m d) ∧ W.cell? (ad.add (i * 7)) = some (.string q.nm) ∧ W.cell? ⟨(ad.add (i * 7)).block, (ad.add (i * 7)).off + 1, none⟩ = some (.int .i64 q.tb) ∧ W.cell? ⟨(ad.add (i * 7)).block, (ad.add (i * 7)).off + 2, none⟩ = some (.slice q.A q.n q.c) ∧ W.cell? ⟨(ad.add (i * 7)).block, (ad.add (i * 7)).off + 3, none⟩ = some (.int .u32 q.root) ∧ W.cell? ⟨(ad.add (i * 7)).block, (ad.add (i * 7)).off + 4, none⟩ = some (.int .i64 q.lv) ∧ W.cell? ⟨(ad.add (i * 7)).block, (ad.add (i * 7)).off + 5, none⟩ = some (.int .i64 q.hi) ∧ W.cell? ⟨(ad.add (i * 7)).block, (ad.add (i * 7)).off + 6, none⟩ = some (.slice q.B q.m q.e) ∧ Below wo.heap.size wo W) := by
                have hz9 := HQ.out.2.1.size
                refine Lib.hid fun W hW => ⟨(hW.cell ?_).trans b0, (hW.cell ?_).trans b1, (hW.cell ?_).trans d0, (hW.cell ?_).trans d1, (hW.cell ?_).trans d2, (hW.cell ?_).trans d3, (hW.cell ?_).trans d4, (hW.cell ?_).trans d5, (hW.cell ?_).trans d6, hW⟩
                all_goals (simp only [block_of_add]; omega)
              go_wp2_with fail
              go_region_held3 (fun W => W.cell? ⟨w.heap.size, 0, none⟩ = some (.slice A n c) ∧ W.cell? ⟨w.heap.size, 1, none⟩ = some (.slice (some ad) m d) ∧ W.cell? (ad.add (i * 7)) = some (.string q.nm) ∧ W.cell? ⟨(ad.add (i * 7)).block, (ad.add (i * 7)).off + 1, none⟩ = some (.int .i64 q.tb) ∧ W.cell? ⟨(ad.add (i * 7)).block, (ad.add (i * 7)).off + 2, none⟩ = some (.slice q.A q.n q.c) ∧ W.cell? ⟨(ad.add (i * 7)).block, (ad.add (i * 7)).off + 3, none⟩ = some (.int .u32 q.root) ∧ W.cell? ⟨(ad.add (i * 7)).block, (ad.add (i * 7)).off + 4, none⟩ = some (.int .i64 q.lv) ∧ W.cell? ⟨(ad.add (i * 7)).block, (ad.add (i * 7)).off + 5, none⟩ = some (.int .i64 q.hi) ∧ W.cell? ⟨(ad.add (i * 7)).block, (ad.add (i * 7)).off + 6, none⟩ = some (.slice q.B q.m q.e) ∧ Below wo.heap.size wo W)
                (first | exact hS.out _ (by with_reducible repeat (first | exact Below.refl _ _ | exact hb1 | refine bto0 ?_ hb1 | refine Below.drew ?_ | refine bdr ?_ _ | refine ball ?_ _)) | assumption)
                (first | (go_at_call 24; (with_reducible refine (TC.out _ (by with_reducible repeat (first | exact Below.refl _ _ | refine Below.drew ?_ | refine bdr ?_ _ | refine ball ?_ _))).mono ?_); rintro e w1 ⟨b, rfl, hbm, hb1⟩))
              have hbw1 := bto0 HQ.out.2.1 (bto0 (by with_reducible repeat (first | exact Below.refl _ _ | refine Below.drew ?_ | refine bdr ?_ _ | refine ball ?_ _)) hb1)
              have hbk1 := HQ.out.2.2.1.below (bto0 (by with_reducible repeat (first | exact Below.refl _ _ | refine Below.drew ?_ | refine bdr ?_ _ | refine ball ?_ _)) hb1) blt
              have g0 : w1.cell? ⟨w.heap.size, 1, none⟩ = some (.slice (some ad) m d) := hbk1.cell 1
              have blt1 := hbk1.lt
              have HM := Lib.hid (And.intro hbm (And.intro hbw1 hbk1))
              clear hbm hbw1 hbk1 hb1 b0 b1 d0 d1 d2 d3 d4 d5 d6
              cases b with
              | false =>
                go_wp2
                go_ret
                exact ⟨false, rfl, ⟨fun h => (by cases h), fun h => (HM.out.1.2 ((MN.out h).2 i hlt _ HQ.out.1).1)⟩, HM.out.2.1⟩
              | true =>
                go_wp2
                go_loopw [6] (fun v wr => ∃ k : Nat, k ≤ i ∧ v = .int .i64 k ∧ Below w.heap.size w wr ∧ Blk wr w.heap.size 25 #[.slice A n c, .slice (some ad) m d] ∧ ∀ j, j < k → ∀ c', (r.map Ix.px)[j]? = some c' → c'.nm ≠ q.nm.data.toList) (fun v _ => i - (intOf v).toNat)
                case atStart => exact ⟨0, by omega, rfl, HM.out.2.1, HM.out.2.2, fun j hj => by omega⟩
                case round =>
                  obtain ⟨k, hk, rfl, hb, hbk, hdf⟩ := hrel
                  have r0 : (0 : Int) ≤ (k : Int) := by omega
                  have b0 : wr.cell? ⟨w.heap.size, 1, none⟩ = some (.slice (some ad) m d) := hbk.cell 1
                  by_cases hki : k < i
                  · have r1 : (k : Int) < (i : Int) := by omega
                    have r2 : (k : Int) < (m : Int) := by omega
                    obtain ⟨ad2, q2, hA2, hab2, hq2, f0, f1, f2, f3, f4, f5, f6⟩ := (HC.out.1.hx.below hb).ix_ (show k < m by omega)
                    cases hA2
                    obtain ⟨ad3, q3, hA3, hab3, hq3, h0, h1, h2, h3, h4, h5, h6⟩ := (HC.out.1.hx.below hb).ix_ hlt
                    cases hA3
                    have hpq2 : (r.map Ix.px)[k]? = some q2.px := by rw [List.getElem?_map, hq2]; rfl
                    have hq3' : q3.px = q.px := by
                      have h1 : (r.map Ix.px)[i]? = some q3.px := by rw [List.getElem?_map, hq3]; rfl
                      rw [HQ.out.1] at h1
                      exact (Option.some.inj h1).symm
                    have hq3n : q3.nm = q.nm := nm_bytes _ _ (by
                      rw [ByteArray.toList_eq, ByteArray.toList_eq]
                      exact congrArg PX.nm hq3')
                    rw [hq3n] at h0
                    have HK := Lib.hid (And.intro hpq2 (And.intro hb (And.intro hbk hdf)))
                    clear hpq2 hb hbk hdf hq2 hq3 hq3' hq3n g0 f1 f2 f3 f4 f5 f6 h1 h2 h3 h4 h5 h6
                    rcases nm_cases2 q2.nm q.nm with ⟨h1, h2⟩ | ⟨h1, h2⟩
                    · have HN := Lib.hid h1
                      clear h1
                      go_wp2
                      go_quiet (fail)
                      go_wp2
                      go_ret
                      exact ⟨false, rfl, ⟨fun h => (by cases h), fun h => absurd HN.out (((MN.out h).2 i hlt _ HQ.out.1).2 k hki _ HK.out.1)⟩, bdr HK.out.2.1 _⟩
                    · have HN := Lib.hid h1
                      clear h1
                      go_wp2
                      go_quiet (fail)
                      go_wp2
                      exact ⟨⟨k + 1, by omega, by go_num, bdr HK.out.2.1 _, HK.out.2.2.1.drewN _, fun j hj c' hc' => by
                        by_cases hjk : j < k
                        · exact HK.out.2.2.2 j hjk c' hc'
                        · obtain rfl : j = k := by omega
                          rw [HK.out.1] at hc'
                          cases hc'
                          exact HN.out⟩, by simp [intOf]; omega⟩
                  · obtain rfl : k = i := by omega
                    have HG := Lib.hid (HQ.out.2.2.2.succ HQ.out.1 (HM.out.1.1 (by first | rfl | trivial)) hdf)
                    clear hdf
                    go_wp2
                    exact ⟨⟨k + 1, by omega, by go_num, hb, hbk, HG.out⟩, by simp [intOf]; omega⟩
            · obtain rfl : i = m := by omega
              have HF := Lib.hid (MY.out HG1.out hg)
              clear hg
              go_wp2
              go_ret
              exact ⟨true, rfl, ⟨fun _ => HF.out, fun _ => rfl⟩, hb⟩
    · skip
      have f16 : (16 : Int) < (m : Int) := by omega
      have e16 : decide (16 < (n : Int)) = false := decide_eq_false (by omega)
      have HX := Lib.hid (fun (h : MayB (pbk l r)) => d16 (by have := h.2.1; rw [← HC.out.2.2]; exact this))
      clear d16
      go_enter Try.func12, Try.ntmps12
      go_wp2
      go_ret
      exact ⟨false, rfl, ⟨fun h => (by cases h), fun h => (HX.out h).elim⟩, ball (Below.refl _ _) _⟩
  · skip
    have e16 : (16 : Int) < (n : Int) := by omega
    have HX := Lib.hid (fun (h : MayB (pbk l r)) => c16 (by have := h.1; rw [← HC.out.2.1]; exact this))
    clear c16
    go_enter Try.func12, Try.ntmps12
    go_wp2
    go_ret
    exact ⟨false, rfl, ⟨fun h => (by cases h), fun h => (HX.out h).elim⟩, ball (Below.refl _ _) _⟩
end
end Go.Proofs.Ytflolnilagogpaa
/-
  The reference's Number; one, four, text of a book.
-/
namespace Go.Proofs.Ytflolnilagogpaa
section
set_option linter.unusedSimpArgs false
set_option linter.unusedVariables false
open Go.RowKit

theorem str_append (a b : List UInt8) : str a ++ str b = str (a ++ b) := by
  apply ByteArray.ext
  apply Array.toList_inj.1
  simp [str, ByteArray.data_append]
theorem conv_one (W : World) (b : UInt8) (u : Int) (hu : u = (b.toNat : Int)) : (convert 28 9 (.slice (some ⟨W.heap.size, 0, none⟩) 1 1)).run Try.prog (W.alloc (.cells #[.int .u8 u] 5)) = .ok (.string (str [b])) (W.alloc (.cells #[.int .u8 u] 5)) := by
  subst hu
  exact conv_blk (l := [b]) (Blk.new W 5 _) _ 5 _ Try.underlying28 Try.underlying5 Try.underlying9 1 1 rfl

set_option maxHeartbeats 1000000 in
set_option maxRecDepth 100000 in
theorem dnum_any (N sz : Nat) (hN : N < 18446744073709551616) (hs : sz ≤ 100) (w : World) : Calls Try.prog 49 #[.int .u64 N, .int .i64 sz] w (RetB w (.string (str (be sz N)))) := by
  have HN := Lib.hid hN; clear hN
  have hsI : (sz : Int) ≤ 100 := by omega
  go_enter Try.func49, Try.ntmps49
  go_wp2
  go_loopw [0, 5, 6] (fun nv sv iv wr => ∃ j : Nat, j ≤ sz ∧ iv = .int .i64 j ∧ nv = .int .u64 ((N / 256 ^ j : Nat) : Int) ∧ sv = .string (str (be j N)) ∧ Below w.heap.size w wr) (fun _ _ iv _ => sz - (intOf iv).toNat)
  case atStart => exact ⟨0, by omega, rfl, by simp, rfl, Below.refl _ _⟩
  case round =>
    obtain ⟨j, hj, rfl, rfl, rfl, hb⟩ := hrel
    have q0 : (0 : Int) ≤ (j : Int) := by omega
    by_cases hlt : j < sz
    · have q1 : (j : Int) < (sz : Int) := by omega
      have hst : Hid (str [UInt8.ofNat (N / 256 ^ j)] ++ str (be j N) = str (be (j + 1) N)) := by
        show _ = _
        rw [str_append, be_cons]; rfl
      have hq : Hid (IntKind.u64.wrap (((N / 256 ^ j : Nat) : Int) / 256) = ((N / 256 ^ (j + 1) : Nat) : Int)) := by
        show _ = _
        have h1 : N / 256 ^ j ≤ N := Nat.div_le_self _ _
        have h2 := HN.out
        rw [IntKind.wrap_u64, Nat.pow_succ, ← Nat.div_div_eq_div_mul]
        generalize N / 256 ^ j = V at h1 ⊢
        omega
      have hz : ¬ 9223372036854775807 < (str [UInt8.ofNat (N / 256 ^ j)]).size + (str (be j N)).size := by
        rw [str_size, str_size, be_len]; simp; omega
      obtain ⟨s, hs'⟩ : ∃ s, str (be j N) = s := ⟨_, rfl⟩
      have cv := conv_one wr (UInt8.ofNat (N / 256 ^ j)) (((N / 256 ^ j : Nat) : Int) % 256) (by rw [u8_nat])
      have hV : N / 256 ^ j ≤ N := Nat.div_le_self _ _
      obtain ⟨V, hVe⟩ : ∃ V, N / 256 ^ j = V := ⟨_, rfl⟩
      rw [hVe] at hst hq cv hV hz ⊢
      rw [hs'] at hst hz ⊢
      have HV := Lib.hid hV
      obtain ⟨s1, hs1⟩ : ∃ s1, str [UInt8.ofNat V] = s1 := ⟨_, rfl⟩
      rw [hs1] at hst cv hz
      clear hs' hVe hs1 hV
      have g0 : (0 : Int) ≤ (V : Int) := by omega
      go_wp2
      go_roundw
      case rel => exact ⟨j + 1, by omega, by go_num, val_int hq.out, by rw [hst.out], ball hb _⟩
      case measure => simp [intOf]; omega
    · obtain rfl : j = sz := by omega
      go_wp2
      go_ret
      exact ⟨rfl, hb⟩

theorem wrap_id {z : Int} (h0 : 0 ≤ z) (h1 : z < 2147483648) : IntKind.u64.wrap z = z := by rw [IntKind.wrap_u64]; omega
theorem one_any (z : Int) (h0 : 0 ≤ z) (h1 : z < 2147483648) (w : World) : Calls Try.prog 28 #[.int .i64 z] w (RetB w (.string (str (oneB z)))) := by
  have D : Hid (∀ W : World, Calls Try.prog 49 #[.int .u64 (IntKind.u64.wrap z), .int .i64 1] W (RetB W (.string (str (oneB z))))) := Lib.hid fun W => by
    rw [wrap_id h0 h1]
    obtain ⟨N, rfl⟩ : ∃ N : Nat, z = N := ⟨z.toNat, by omega⟩
    exact dnum_any N 1 (by omega) (by omega) W
  clear h0 h1
  go_enter Try.func28, Try.ntmps28
  go_wp2_with fail
  refine (D.out _).mono ?_
  rintro e w1 ⟨rfl, hb1⟩
  go_wp2
  go_ret
  exact ⟨rfl, hb1⟩
theorem four_any (z : Int) (h : num31 z = true) (w : World) : Calls Try.prog 30 #[.int .i64 z] w (RetB w (.string (str (fourB z)))) := by
  obtain ⟨h0, h1⟩ := num31_iff.1 h
  have D : Hid (∀ W : World, Calls Try.prog 49 #[.int .u64 (IntKind.u64.wrap z), .int .i64 4] W (RetB W (.string (str (fourB z))))) := Lib.hid fun W => by
    rw [wrap_id h0 h1]
    obtain ⟨N, rfl⟩ : ∃ N : Nat, z = N := ⟨z.toNat, by omega⟩
    exact dnum_any N 4 (by omega) (by omega) W
  clear h0 h1 h
  go_enter Try.func30, Try.ntmps30
  go_wp2_with fail
  refine (D.out _).mono ?_
  rintro e w1 ⟨rfl, hb1⟩
  go_wp2
  go_ret
  exact ⟨rfl, hb1⟩
theorem text_any (s : ByteArray) (hs : s.size ≤ 24) (w : World) : Calls Try.prog 29 #[.string s] w (RetB w (.string (str (txtB s.data.toList)))) := by
  have D : Hid (∀ W : World, Calls Try.prog 49 #[.int .u64 (s.size : Int), .int .i64 1] W (RetB W (.string (str (oneB (s.size : Int)))))) := Lib.hid fun W => by
    exact dnum_any s.size 1 (by omega) (by omega) W
  have hz : ¬ 9223372036854775807 < (str (oneB (s.size : Int))).size + s.size := by rw [str_size]; simp [oneB]; omega
  have hv : Hid (str (oneB (s.size : Int)) ++ s = str (txtB s.data.toList)) := Lib.hid (by
    have h1 : str s.data.toList = s := by obtain ⟨⟨l⟩⟩ := s; rfl
    have h2 : txtB s.data.toList = oneB (s.size : Int) ++ s.data.toList := rfl
    rw [h2, ← str_append, h1])
  obtain ⟨s1, hs1⟩ : ∃ s1, str (oneB (s.size : Int)) = s1 := ⟨_, rfl⟩
  rw [hs1] at D hz hv
  clear hs1 hs
  go_enter Try.func29, Try.ntmps29
  go_wp2_with fail
  refine (D.out _).mono ?_
  rintro e w1 ⟨rfl, hb1⟩
  go_wp2
  go_ret
  exact ⟨by first | rfl | (rw [hv.out]; rfl) | rw [hv.out], hb1⟩
/-- How long what is written is. -/
theorem flat_le {α : Type} (f : α → List UInt8) (K : Nat) : ∀ l : List α, (∀ a ∈ l, (f a).length ≤ K) → (l.flatMap f).length ≤ K * l.length := by
  intro l
  induction l with
  | nil => intro _; simp
  | cons a r ih =>
    intro h
    have h1 := h a (by simp)
    have h2 := ih fun b hb => h b (by simp [hb])
    rw [List.flatMap_cons, List.length_append, List.length_cons, Nat.mul_add]
    omega
theorem four_len (z : Int) : (fourB z).length = 4 := by unfold fourB; exact be_len 4 _
theorem one_len (z : Int) : (oneB z).length = 1 := rfl
theorem txt_len (l : List UInt8) : (txtB l).length = l.length + 1 := rfl
theorem col_len {c : PC} (h : OkC c) : (colB c).length ≤ 34 := by
  have := nb_facts h.1
  unfold colB
  rw [List.length_append, List.length_append, List.length_append, txt_len, one_len, four_len, four_len]
  omega
theorem tab_len {t : PT} (h : MayT t) : (tabB t).length ≤ 400 := by
  have h1 := nb_facts h.1
  have h2 := flat_le colB 34 t.cols (fun c hc => by
    obtain ⟨i, hi, he⟩ := List.mem_iff_getElem.1 hc
    exact col_len (h.2.2.2.2.2.2 i hi c (by rw [List.getElem?_eq_getElem hi, he])).1)
  have h3 := h.2.2.1
  unfold tabB
  simp only [List.length_append, txt_len, one_len, four_len]
  omega
theorem idx_len {ts : List PT} {x : PX} (h : MayX ts x) : (idxB x).length ≤ 100 := by
  have h1 := nb_facts h.1
  have h2 := flat_le oneB 1 x.cs (fun c hc => Nat.le_refl _)
  have h4 := flat_le fourB 4 x.ds (fun c hc => by rw [four_len]; omega)
  have h3 := h.2.2.2.2.1
  have h5 := h.2.2.2.2.2.1
  unfold idxB
  simp only [List.length_append, txt_len, one_len, four_len]
  omega
end
end Go.Proofs.Ytflolnilagogpaa
