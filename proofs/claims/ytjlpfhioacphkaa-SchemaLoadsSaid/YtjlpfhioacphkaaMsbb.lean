/-
  Several texts in one: If Ig Ih Io Ip Iq Ii Ij Ir It Iu Iv Ik.
-/
import Derived.Test.YtjlpfhioacphkaaMsaw
import Derived.Test.YtjlpfhioacphkaaMsal
import Derived.Test.YtjlpfhioacphkaaMsat
import Derived.Deep.RegionHeld3
import Derived.Deep.DrawnRows
/-
  The reference's May.
-/
namespace Go.Proofs.Ytjlpfhioacphkaa
section
set_option linter.unusedSimpArgs false
set_option linter.unusedVariables false
open Go.RowKit

/-- A book, where it lies. -/
structure BkIn (w : World) (A : Option Addr) (n c : Nat) (l : List Tb) (B : Option Addr) (m d : Nat) (r : List Ix) : Prop where
  hr : Reads w w.heap.size 5 A n (vTb l)
  hl : ∀ t ∈ l, TbOk w w.heap.size t
  hx : Reads w w.heap.size 7 B m (vIx r)
  hix : ∀ x ∈ r, IxIn w w.heap.size x
  hn : n ≤ c ∧ c ≤ maxLen
  hm : m ≤ d ∧ d ≤ maxLen
theorem BkIn.below {w w' : World} {A B : Option Addr} {n c m d : Nat} {l : List Tb} {r : List Ix} (h : BkIn w A n c l B m d r) (hb : Below w.heap.size w w') : BkIn w' A n c l B m d r :=
  ⟨(h.hr.below hb).more hb.size, fun t ht => by
    obtain ⟨h1, h2⟩ := h.hl t ht
    have h3 := h1.under hb
    exact ⟨⟨h3.1, h3.2.1, h3.2.2.1.more hb.size, h3.2.2.2⟩, h2⟩, (h.hx.below hb).more hb.size, fun x hx => by
    have h3 := (h.hix x hx).under hb
    exact ⟨h3.1, h3.2.1.more hb.size, h3.2.2.1.more hb.size, h3.2.2.2⟩, h.hn, h.hm⟩
theorem BkIn.ln {w : World} {A B : Option Addr} {n c m d : Nat} {l : List Tb} {r : List Ix} (h : BkIn w A n c l B m d r) : l.length = n := by have := h.hr.1; rw [vTb_len] at this; omega
theorem BkIn.rn {w : World} {A B : Option Addr} {n c m d : Nat} {l : List Tb} {r : List Ix} (h : BkIn w A n c l B m d r) : r.length = m := by have := h.hx.1; rw [vIx_len] at this; omega
set_option maxRecDepth 100000 in
set_option maxHeartbeats 4000000 in
theorem rmay_any (A : Option Addr) (n c : Nat) (l : List Tb) (B : Option Addr) (m d : Nat) (r : List Ix) (w : World) (hk : BkIn w A n c l B m d r) :
    Calls Try.prog 16 #[.agg #[.slice A n c, .slice B m d]] w (RetM w (MayB (pbk l r))) := by
  have hlp : (l.map Tb.pt).length = n := by rw [List.length_map]; exact hk.ln
  have hrp : (r.map Ix.px).length = m := by rw [List.length_map]; exact hk.rn
  have nI : (n : Int) ≤ 9223372036854775807 := by have := hk.hn.1; have := hk.hn.2; unfold maxLen at this; omega
  have mI : (m : Int) ≤ 9223372036854775807 := by have := hk.hm.1; have := hk.hm.2; unfold maxLen at this; omega
  have HC := Lib.hid (And.intro hk (And.intro hlp hrp))
  clear hk hlp hrp
  by_cases c16 : n ≤ 16
  · by_cases d16 : m ≤ 16
    · have c16I : (n : Int) ≤ 16 := by omega
      have d16I : (m : Int) ≤ 16 := by omega
      have e16 : decide (16 < (n : Int)) = false := decide_eq_false (by omega)
      have f16 : decide (16 < (m : Int)) = false := decide_eq_false (by omega)
      have MY := Lib.hid (fun (g : Good MayT PT.nm (l.map Tb.pt) n) (g2 : Good (MayX (l.map Tb.pt)) PX.nm (r.map Ix.px) m) => (show MayB (pbk l r) from ⟨by show (l.map Tb.pt).length ≤ 16; rw [HC.out.2.1]; exact c16, by show (r.map Ix.px).length ≤ 16; rw [HC.out.2.2]; exact d16, by show Good MayT PT.nm (l.map Tb.pt) (l.map Tb.pt).length; rw [HC.out.2.1]; exact g, by show Good (MayX (l.map Tb.pt)) PX.nm (r.map Ix.px) (r.map Ix.px).length; rw [HC.out.2.2]; exact g2⟩))
      have MN := Lib.hid (fun (h : MayB (pbk l r)) => And.intro (fun (k : Nat) (hk : k < n) => h.2.2.1 k (by show k < (l.map Tb.pt).length; rw [HC.out.2.1]; exact hk)) (fun (k : Nat) (hk : k < m) => h.2.2.2 k (by show k < (r.map Ix.px).length; rw [HC.out.2.2]; exact hk)))
      clear c16 d16
      go_enter Try.func16, Try.ntmps16
      go_wp2
      go_loopw [20] (fun v wr => ∃ i : Nat, i ≤ n ∧ v = .int .i64 i ∧ Below w.heap.size w wr ∧ Blk wr w.heap.size 25 #[.slice A n c, .slice B m d] ∧ Good MayT PT.nm (l.map Tb.pt) i) (fun v _ => n - (intOf v).toNat)
      case atStart => exact ⟨0, by omega, rfl, ball (Below.refl _ _) _, Blk.new _ _ _, Good.zero⟩
      case round =>
        obtain ⟨wo, rfl⟩ : ∃ wo : World, wo = wr := ⟨_, rfl⟩
        obtain ⟨i, hi, rfl, hb, hbk, hg⟩ := hrel
        have q0 : (0 : Int) ≤ (i : Int) := by omega
        have b0 : wo.cell? ⟨w.heap.size, 0, none⟩ = some (.slice A n c) := hbk.cell 0
        have b1 : wo.cell? ⟨w.heap.size, 1, none⟩ = some (.slice B m d) := hbk.cell 1
        have blt := hbk.lt
        by_cases hlt : i < n
        · have q1 : (i : Int) < (n : Int) := by omega
          obtain ⟨ad, q, hA, hab, hq, d0, d1, d2, d3, d4⟩ := (HC.out.1.hr.below hb).tb_ hlt
          subst hA
          have hpq : (l.map Tb.pt)[i]? = some q.pt := by rw [List.getElem?_map, hq]; rfl
          have TC := Lib.hid (fun (W : World) (hW : Below wo.heap.size wo W) => (rtable_any q W (((HC.out.1.below (bto0 hb hW)).hl q (List.mem_of_getElem? hq))) : Calls Try.prog 32 #[q.agg] W (RetM W (MayT q.pt))))
          have HQ := Lib.hid (And.intro hpq (And.intro hb (And.intro hbk hg)))
          clear hpq hb hbk hg hq
          go_wp2_with fail
          refine (TC.out _ (by with_reducible repeat (first | exact Below.refl _ _ | refine Below.drew ?_ | refine bdr ?_ _ | refine ball ?_ _))).mono ?_
          rintro e w1 ⟨b, rfl, hbm, hb1⟩
          have hbw1 := bto0 HQ.out.2.1 (bto0 (by with_reducible repeat (first | exact Below.refl _ _ | refine Below.drew ?_ | refine bdr ?_ _ | refine ball ?_ _)) hb1)
          have hbk1 := HQ.out.2.2.1.below (bto0 (by with_reducible repeat (first | exact Below.refl _ _ | refine Below.drew ?_ | refine bdr ?_ _ | refine ball ?_ _)) hb1) blt
          have g0 : w1.cell? ⟨w.heap.size, 0, none⟩ = some (.slice (some ad) n c) := hbk1.cell 0
          have blt1 := hbk1.lt
          have HM := Lib.hid (And.intro hbm (And.intro hbw1 hbk1))
          clear hbm hbw1 hbk1 hb1 b0 b1 d0 d1 d2 d3 d4
          cases b with
          | false =>
            go_wp2
            go_ret
            exact ⟨false, rfl, ⟨fun h => (by cases h), fun h => (HM.out.1.2 ((MN.out h).1 i hlt _ HQ.out.1).1)⟩, HM.out.2.1⟩
          | true =>
            go_wp2
            go_loopw [4] (fun v wr => ∃ k : Nat, k ≤ i ∧ v = .int .i64 k ∧ Below w.heap.size w wr ∧ Blk wr w.heap.size 25 #[.slice (some ad) n c, .slice B m d] ∧ ∀ j, j < k → ∀ c', (l.map Tb.pt)[j]? = some c' → c'.nm ≠ q.nm.data.toList) (fun v _ => i - (intOf v).toNat)
            case atStart => exact ⟨0, by omega, rfl, HM.out.2.1, HM.out.2.2, fun j hj => by omega⟩
            case round =>
              obtain ⟨k, hk, rfl, hb, hbk, hdf⟩ := hrel
              have r0 : (0 : Int) ≤ (k : Int) := by omega
              have b0 : wr.cell? ⟨w.heap.size, 0, none⟩ = some (.slice (some ad) n c) := hbk.cell 0
              by_cases hki : k < i
              · have r1 : (k : Int) < (i : Int) := by omega
                have r2 : (k : Int) < (n : Int) := by omega
                obtain ⟨ad2, q2, hA2, hab2, hq2, f0, f1, f2, f3, f4⟩ := (HC.out.1.hr.below hb).tb_ (show k < n by omega)
                cases hA2
                obtain ⟨ad3, q3, hA3, hab3, hq3, h0, h1, h2, h3, h4⟩ := (HC.out.1.hr.below hb).tb_ hlt
                cases hA3
                have hpq2 : (l.map Tb.pt)[k]? = some q2.pt := by rw [List.getElem?_map, hq2]; rfl
                have hq3' : q3.pt = q.pt := by
                  have h1 : (l.map Tb.pt)[i]? = some q3.pt := by rw [List.getElem?_map, hq3]; rfl
                  rw [HQ.out.1] at h1
                  exact (Option.some.inj h1).symm
                have hq3n : q3.nm = q.nm := nm_bytes _ _ (by
                  rw [ByteArray.toList_eq, ByteArray.toList_eq]
                  exact congrArg PT.nm hq3')
                rw [hq3n] at h0
                have HK := Lib.hid (And.intro hpq2 (And.intro hb (And.intro hbk hdf)))
                clear hpq2 hb hbk hdf hq2 hq3 hq3' hq3n g0 f1 f2 f3 f4 h1 h2 h3 h4
                rcases nm_cases2 q2.nm q.nm with ⟨h1, h2⟩ | ⟨h1, h2⟩
                · have HN := Lib.hid h1
                  clear h1
                  go_wp2
                  go_quiet (fail)
                  go_wp2
                  go_ret
                  exact ⟨false, rfl, ⟨fun h => (by cases h), fun h => absurd HN.out (((MN.out h).1 i hlt _ HQ.out.1).2 k hki _ HK.out.1)⟩, bdr HK.out.2.1 _⟩
                · have HN := Lib.hid h1
                  clear h1
                  go_wp2
                  go_quiet (fail)
                  go_wp2
                  exact ⟨⟨k + 1, by omega, by go_num, bdr HK.out.2.1 _, HK.out.2.2.1.drewN _, fun j hj c' hc' => by
                    by_cases hjk : j < k
                    · exact HK.out.2.2.2 j hjk c' hc'
                    · obtain rfl : j = k := by omega
                      rw [HK.out.1] at hc'
                      cases hc'
                      exact HN.out⟩, by simp [intOf]; omega⟩
              · obtain rfl : k = i := by omega
                have HG := Lib.hid (HQ.out.2.2.2.succ HQ.out.1 (HM.out.1.1 (by first | rfl | trivial)) hdf)
                clear hdf
                go_wp2
                exact ⟨⟨k + 1, by omega, by go_num, hb, hbk, HG.out⟩, by simp [intOf]; omega⟩
        · obtain rfl : n = i := by omega
          have HB := Lib.hid (And.intro hb hbk)
          have HG1 := Lib.hid hg
          clear hg
          go_wp2
          obtain ⟨w9, rfl⟩ : ∃ w9 : World, w9 = wo := ⟨_, rfl⟩
          clear b0 b1 hb hbk
          go_loopw [52] (fun v wr => ∃ i : Nat, i ≤ m ∧ v = .int .i64 i ∧ Below w.heap.size w wr ∧ Blk wr w.heap.size 25 #[.slice A n c, .slice B m d] ∧ Good (MayX (l.map Tb.pt)) PX.nm (r.map Ix.px) i) (fun v _ => m - (intOf v).toNat)
          case atStart => exact ⟨0, by omega, rfl, HB.out.1, HB.out.2, Good.zero⟩
          case round =>
            obtain ⟨wo, rfl⟩ : ∃ wo : World, wo = wr := ⟨_, rfl⟩
            obtain ⟨i, hi, rfl, hb, hbk, hg⟩ := hrel
            have q0 : (0 : Int) ≤ (i : Int) := by omega
            have b0 : wo.cell? ⟨w.heap.size, 0, none⟩ = some (.slice A n c) := hbk.cell 0
            have b1 : wo.cell? ⟨w.heap.size, 1, none⟩ = some (.slice B m d) := hbk.cell 1
            have blt := hbk.lt
            by_cases hlt : i < m
            · have q1 : (i : Int) < (m : Int) := by omega
              obtain ⟨ad, q, hA, hab, hq, d0, d1, d2, d3, d4, d5, d6⟩ := (HC.out.1.hx.below hb).ix_ hlt
              subst hA
              have hpq : (r.map Ix.px)[i]? = some q.px := by rw [List.getElem?_map, hq]; rfl
              have TC := Lib.hid (fun (W : World) (hW : Below wo.heap.size wo W) => (rindex_any A n c l (some ad) m d q W (HC.out.1.below (bto0 hb hW)).hr (fun t ht => ((HC.out.1.below (bto0 hb hW)).hl t ht).1) (Nat.le_trans HC.out.1.hn.1 HC.out.1.hn.2) ((HC.out.1.below (bto0 hb hW)).hix q (List.mem_of_getElem? hq)) : Calls Try.prog 33 #[.agg #[.slice A n c, .slice (some ad) m d], q.agg] W (RetM W (MayX (l.map Tb.pt) q.px))))
              have HQ := Lib.hid (And.intro hpq (And.intro hb (And.intro hbk hg)))
              clear hpq hb hbk hg hq
              have hS : Hid (∀ W, Below wo.heap.size wo W → W.cell? ⟨w.heap.size, 0, none⟩ = some (.slice A n c) ∧ W.cell? ⟨w.heap.size, 1, none⟩ = some (.slice (some ad) m d) ∧ W.cell? (ad.add (i * 7)) = some (.string q.nm) ∧ W.cell? ⟨(ad.add (i * 7)).block, (ad.add (i * 7)).off + 1, none⟩ = some (.int .i64 q.tb) ∧ W.cell? ⟨(ad.add (i * 7)).block, (ad.add (i * 7)).off + 2, none⟩ = some (.slice q.A q.n q.c) ∧ W.cell? ⟨(ad.add (i * 7)).block, (ad.add (i * 7)).off + 3, none⟩ = some (.int .u32 q.root) ∧ W.cell? ⟨(ad.add (i * 7)).block, (ad.add (i * 7)).off + 4, none⟩ = some (.int .i64 q.lv) ∧ W.cell? ⟨(ad.add (i * 7)).block, (ad.add (i * 7)).off + 5, none⟩ = some (.int .i64 q.hi) ∧ W.cell? ⟨(ad.add (i * 7)).block, (ad.add (i * 7)).off + 6, none⟩ = some (.slice q.B q.m q.e) ∧ Below wo.heap.size wo W) := by
                have hz9 := HQ.out.2.1.size
                refine Lib.hid fun W hW => ⟨(hW.cell ?_).trans b0, (hW.cell ?_).trans b1, (hW.cell ?_).trans d0, (hW.cell ?_).trans d1, (hW.cell ?_).trans d2, (hW.cell ?_).trans d3, (hW.cell ?_).trans d4, (hW.cell ?_).trans d5, (hW.cell ?_).trans d6, hW⟩
                all_goals (simp only [block_of_add]; omega)
              go_wp2_with fail
              go_region_held3 (fun W => W.cell? ⟨w.heap.size, 0, none⟩ = some (.slice A n c) ∧ W.cell? ⟨w.heap.size, 1, none⟩ = some (.slice (some ad) m d) ∧ W.cell? (ad.add (i * 7)) = some (.string q.nm) ∧ W.cell? ⟨(ad.add (i * 7)).block, (ad.add (i * 7)).off + 1, none⟩ = some (.int .i64 q.tb) ∧ W.cell? ⟨(ad.add (i * 7)).block, (ad.add (i * 7)).off + 2, none⟩ = some (.slice q.A q.n q.c) ∧ W.cell? ⟨(ad.add (i * 7)).block, (ad.add (i * 7)).off + 3, none⟩ = some (.int .u32 q.root) ∧ W.cell? ⟨(ad.add (i * 7)).block, (ad.add (i * 7)).off + 4, none⟩ = some (.int .i64 q.lv) ∧ W.cell? ⟨(ad.add (i * 7)).block, (ad.add (i * 7)).off + 5, none⟩ = some (.int .i64 q.hi) ∧ W.cell? ⟨(ad.add (i * 7)).block, (ad.add (i * 7)).off + 6, none⟩ = some (.slice q.B q.m q.e) ∧ Below wo.heap.size wo W)
                (first | exact hS.out _ (by with_reducible repeat (first | exact Below.refl _ _ | exact hb1 | refine bto0 ?_ hb1 | refine Below.drew ?_ | refine bdr ?_ _ | refine ball ?_ _)) | assumption)
                (first | (go_at_call 33; (with_reducible refine (TC.out _ (by with_reducible repeat (first | exact Below.refl _ _ | refine Below.drew ?_ | refine bdr ?_ _ | refine ball ?_ _))).mono ?_); rintro e w1 ⟨b, rfl, hbm, hb1⟩))
              have hbw1 := bto0 HQ.out.2.1 (bto0 (by with_reducible repeat (first | exact Below.refl _ _ | refine Below.drew ?_ | refine bdr ?_ _ | refine ball ?_ _)) hb1)
              have hbk1 := HQ.out.2.2.1.below (bto0 (by with_reducible repeat (first | exact Below.refl _ _ | refine Below.drew ?_ | refine bdr ?_ _ | refine ball ?_ _)) hb1) blt
              have g0 : w1.cell? ⟨w.heap.size, 1, none⟩ = some (.slice (some ad) m d) := hbk1.cell 1
              have blt1 := hbk1.lt
              have HM := Lib.hid (And.intro hbm (And.intro hbw1 hbk1))
              clear hbm hbw1 hbk1 hb1 b0 b1 d0 d1 d2 d3 d4 d5 d6
              cases b with
              | false =>
                go_wp2
                go_ret
                exact ⟨false, rfl, ⟨fun h => (by cases h), fun h => (HM.out.1.2 ((MN.out h).2 i hlt _ HQ.out.1).1)⟩, HM.out.2.1⟩
              | true =>
                go_wp2
                go_loopw [6] (fun v wr => ∃ k : Nat, k ≤ i ∧ v = .int .i64 k ∧ Below w.heap.size w wr ∧ Blk wr w.heap.size 25 #[.slice A n c, .slice (some ad) m d] ∧ ∀ j, j < k → ∀ c', (r.map Ix.px)[j]? = some c' → c'.nm ≠ q.nm.data.toList) (fun v _ => i - (intOf v).toNat)
                case atStart => exact ⟨0, by omega, rfl, HM.out.2.1, HM.out.2.2, fun j hj => by omega⟩
                case round =>
                  obtain ⟨k, hk, rfl, hb, hbk, hdf⟩ := hrel
                  have r0 : (0 : Int) ≤ (k : Int) := by omega
                  have b0 : wr.cell? ⟨w.heap.size, 1, none⟩ = some (.slice (some ad) m d) := hbk.cell 1
                  by_cases hki : k < i
                  · have r1 : (k : Int) < (i : Int) := by omega
                    have r2 : (k : Int) < (m : Int) := by omega
                    obtain ⟨ad2, q2, hA2, hab2, hq2, f0, f1, f2, f3, f4, f5, f6⟩ := (HC.out.1.hx.below hb).ix_ (show k < m by omega)
                    cases hA2
                    obtain ⟨ad3, q3, hA3, hab3, hq3, h0, h1, h2, h3, h4, h5, h6⟩ := (HC.out.1.hx.below hb).ix_ hlt
                    cases hA3
                    have hpq2 : (r.map Ix.px)[k]? = some q2.px := by rw [List.getElem?_map, hq2]; rfl
                    have hq3' : q3.px = q.px := by
                      have h1 : (r.map Ix.px)[i]? = some q3.px := by rw [List.getElem?_map, hq3]; rfl
                      rw [HQ.out.1] at h1
                      exact (Option.some.inj h1).symm
                    have hq3n : q3.nm = q.nm := nm_bytes _ _ (by
                      rw [ByteArray.toList_eq, ByteArray.toList_eq]
                      exact congrArg PX.nm hq3')
                    rw [hq3n] at h0
                    have HK := Lib.hid (And.intro hpq2 (And.intro hb (And.intro hbk hdf)))
                    clear hpq2 hb hbk hdf hq2 hq3 hq3' hq3n g0 f1 f2 f3 f4 f5 f6 h1 h2 h3 h4 h5 h6
                    rcases nm_cases2 q2.nm q.nm with ⟨h1, h2⟩ | ⟨h1, h2⟩
                    · have HN := Lib.hid h1
                      clear h1
                      go_wp2
                      go_quiet (fail)
                      go_wp2
                      go_ret
                      exact ⟨false, rfl, ⟨fun h => (by cases h), fun h => absurd HN.out (((MN.out h).2 i hlt _ HQ.out.1).2 k hki _ HK.out.1)⟩, bdr HK.out.2.1 _⟩
                    · have HN := Lib.hid h1
                      clear h1
                      go_wp2
                      go_quiet (fail)
                      go_wp2
                      exact ⟨⟨k + 1, by omega, by go_num, bdr HK.out.2.1 _, HK.out.2.2.1.drewN _, fun j hj c' hc' => by
                        by_cases hjk : j < k
                        · exact HK.out.2.2.2 j hjk c' hc'
                        · obtain rfl : j = k := by omega
                          rw [HK.out.1] at hc'
                          cases hc'
                          exact HN.out⟩, by simp [intOf]; omega⟩
                  · obtain rfl : k = i := by omega
                    have HG := Lib.hid (HQ.out.2.2.2.succ HQ.out.1 (HM.out.1.1 (by first | rfl | trivial)) hdf)
                    clear hdf
                    go_wp2
                    exact ⟨⟨k + 1, by omega, by go_num, hb, hbk, HG.out⟩, by simp [intOf]; omega⟩
            · obtain rfl : i = m := by omega
              have HF := Lib.hid (MY.out HG1.out hg)
              clear hg
              go_wp2
              go_ret
              exact ⟨true, rfl, ⟨fun _ => HF.out, fun _ => rfl⟩, hb⟩
    · skip
      have f16 : (16 : Int) < (m : Int) := by omega
      have e16 : decide (16 < (n : Int)) = false := decide_eq_false (by omega)
      have HX := Lib.hid (fun (h : MayB (pbk l r)) => d16 (by have := h.2.1; rw [← HC.out.2.2]; exact this))
      clear d16
      go_enter Try.func16, Try.ntmps16
      go_wp2
      go_ret
      exact ⟨false, rfl, ⟨fun h => (by cases h), fun h => (HX.out h).elim⟩, ball (Below.refl _ _) _⟩
  · skip
    have e16 : (16 : Int) < (n : Int) := by omega
    have HX := Lib.hid (fun (h : MayB (pbk l r)) => c16 (by have := h.1; rw [← HC.out.2.1]; exact this))
    clear c16
    go_enter Try.func16, Try.ntmps16
    go_wp2
    go_ret
    exact ⟨false, rfl, ⟨fun h => (by cases h), fun h => (HX.out h).elim⟩, ball (Below.refl _ _) _⟩
end
end Go.Proofs.Ytjlpfhioacphkaa
/-
  The reference's Number; one, four, text of a book.
-/
namespace Go.Proofs.Ytjlpfhioacphkaa
section
set_option linter.unusedSimpArgs false
set_option linter.unusedVariables false
open Go.RowKit

theorem str_append12 (a b : List UInt8) : str a ++ str b = str (a ++ b) := by
  apply ByteArray.ext
  apply Array.toList_inj.1
  simp [str, ByteArray.data_append]
theorem conv_one12 (W : World) (b : UInt8) (u : Int) (hu : u = (b.toNat : Int)) : (convert 27 9 (.slice (some ⟨W.heap.size, 0, none⟩) 1 1)).run Try.prog (W.alloc (.cells #[.int .u8 u] 5)) = .ok (.string (str [b])) (W.alloc (.cells #[.int .u8 u] 5)) := by
  subst hu
  exact conv_blk (l := [b]) (Blk.new W 5 _) _ 5 _ Try.underlying27 Try.underlying5 Try.underlying9 1 1 rfl

set_option maxHeartbeats 1000000 in
set_option maxRecDepth 100000 in
theorem dnum_any12 (N sz : Nat) (hN : N < 18446744073709551616) (hs : sz ≤ 100) (w : World) : Calls Try.prog 58 #[.int .u64 N, .int .i64 sz] w (RetB w (.string (str (be sz N)))) := by
  have HN := Lib.hid hN; clear hN
  have hsI : (sz : Int) ≤ 100 := by omega
  go_enter Try.func58, Try.ntmps58
  go_wp2
  go_loopw [0, 5, 6] (fun nv sv iv wr => ∃ j : Nat, j ≤ sz ∧ iv = .int .i64 j ∧ nv = .int .u64 ((N / 256 ^ j : Nat) : Int) ∧ sv = .string (str (be j N)) ∧ Below w.heap.size w wr) (fun _ _ iv _ => sz - (intOf iv).toNat)
  case atStart => exact ⟨0, by omega, rfl, by simp, rfl, Below.refl _ _⟩
  case round =>
    obtain ⟨j, hj, rfl, rfl, rfl, hb⟩ := hrel
    have q0 : (0 : Int) ≤ (j : Int) := by omega
    by_cases hlt : j < sz
    · have q1 : (j : Int) < (sz : Int) := by omega
      have hst : Hid (str [UInt8.ofNat (N / 256 ^ j)] ++ str (be j N) = str (be (j + 1) N)) := by
        show _ = _
        rw [str_append12, be_cons]; rfl
      have hq : Hid (IntKind.u64.wrap (((N / 256 ^ j : Nat) : Int) / 256) = ((N / 256 ^ (j + 1) : Nat) : Int)) := by
        show _ = _
        have h1 : N / 256 ^ j ≤ N := Nat.div_le_self _ _
        have h2 := HN.out
        rw [IntKind.wrap_u64, Nat.pow_succ, ← Nat.div_div_eq_div_mul]
        generalize N / 256 ^ j = V at h1 ⊢
        omega
      have hz : ¬ 9223372036854775807 < (str [UInt8.ofNat (N / 256 ^ j)]).size + (str (be j N)).size := by
        rw [str_size, str_size, be_len]; simp; omega
      obtain ⟨s, hs'⟩ : ∃ s, str (be j N) = s := ⟨_, rfl⟩
      have cv := conv_one12 wr (UInt8.ofNat (N / 256 ^ j)) (((N / 256 ^ j : Nat) : Int) % 256) (by rw [u8_nat])
      have hV : N / 256 ^ j ≤ N := Nat.div_le_self _ _
      obtain ⟨V, hVe⟩ : ∃ V, N / 256 ^ j = V := ⟨_, rfl⟩
      rw [hVe] at hst hq cv hV hz ⊢
      rw [hs'] at hst hz ⊢
      have HV := Lib.hid hV
      obtain ⟨s1, hs1⟩ : ∃ s1, str [UInt8.ofNat V] = s1 := ⟨_, rfl⟩
      rw [hs1] at hst cv hz
      clear hs' hVe hs1 hV
      have g0 : (0 : Int) ≤ (V : Int) := by omega
      go_wp2
      go_roundw
      case rel => exact ⟨j + 1, by omega, by go_num, val_int hq.out, by rw [hst.out], ball hb _⟩
      case measure => simp [intOf]; omega
    · obtain rfl : j = sz := by omega
      go_wp2
      go_ret
      exact ⟨rfl, hb⟩

theorem wrap_id {z : Int} (h0 : 0 ≤ z) (h1 : z < 2147483648) : IntKind.u64.wrap z = z := by rw [IntKind.wrap_u64]; omega
theorem one_any (z : Int) (h0 : 0 ≤ z) (h1 : z < 2147483648) (w : World) : Calls Try.prog 34 #[.int .i64 z] w (RetB w (.string (str (oneB z)))) := by
  have D : Hid (∀ W : World, Calls Try.prog 58 #[.int .u64 (IntKind.u64.wrap z), .int .i64 1] W (RetB W (.string (str (oneB z))))) := Lib.hid fun W => by
    rw [wrap_id h0 h1]
    obtain ⟨N, rfl⟩ : ∃ N : Nat, z = N := ⟨z.toNat, by omega⟩
    exact dnum_any12 N 1 (by omega) (by omega) W
  clear h0 h1
  go_enter Try.func34, Try.ntmps34
  go_wp2_with fail
  refine (D.out _).mono ?_
  rintro e w1 ⟨rfl, hb1⟩
  go_wp2
  go_ret
  exact ⟨rfl, hb1⟩
theorem four_any (z : Int) (h : num31 z = true) (w : World) : Calls Try.prog 36 #[.int .i64 z] w (RetB w (.string (str (fourB z)))) := by
  obtain ⟨h0, h1⟩ := num31_iff.1 h
  have D : Hid (∀ W : World, Calls Try.prog 58 #[.int .u64 (IntKind.u64.wrap z), .int .i64 4] W (RetB W (.string (str (fourB z))))) := Lib.hid fun W => by
    rw [wrap_id h0 h1]
    obtain ⟨N, rfl⟩ : ∃ N : Nat, z = N := ⟨z.toNat, by omega⟩
    exact dnum_any12 N 4 (by omega) (by omega) W
  clear h0 h1 h
  go_enter Try.func36, Try.ntmps36
  go_wp2_with fail
  refine (D.out _).mono ?_
  rintro e w1 ⟨rfl, hb1⟩
  go_wp2
  go_ret
  exact ⟨rfl, hb1⟩
theorem text_any (s : ByteArray) (hs : s.size ≤ 24) (w : World) : Calls Try.prog 35 #[.string s] w (RetB w (.string (str (txtB s.data.toList)))) := by
  have D : Hid (∀ W : World, Calls Try.prog 58 #[.int .u64 (s.size : Int), .int .i64 1] W (RetB W (.string (str (oneB (s.size : Int)))))) := Lib.hid fun W => by
    exact dnum_any12 s.size 1 (by omega) (by omega) W
  have hz : ¬ 9223372036854775807 < (str (oneB (s.size : Int))).size + s.size := by rw [str_size]; simp [oneB]; omega
  have hv : Hid (str (oneB (s.size : Int)) ++ s = str (txtB s.data.toList)) := Lib.hid (by
    have h1 : str s.data.toList = s := by obtain ⟨⟨l⟩⟩ := s; rfl
    have h2 : txtB s.data.toList = oneB (s.size : Int) ++ s.data.toList := rfl
    rw [h2, ← str_append12, h1])
  obtain ⟨s1, hs1⟩ : ∃ s1, str (oneB (s.size : Int)) = s1 := ⟨_, rfl⟩
  rw [hs1] at D hz hv
  clear hs1 hs
  go_enter Try.func35, Try.ntmps35
  go_wp2_with fail
  refine (D.out _).mono ?_
  rintro e w1 ⟨rfl, hb1⟩
  go_wp2
  go_ret
  exact ⟨by first | rfl | (rw [hv.out]; rfl) | rw [hv.out], hb1⟩
/-- How long what is written is. -/
theorem flat_le {α : Type} (f : α → List UInt8) (K : Nat) : ∀ l : List α, (∀ a ∈ l, (f a).length ≤ K) → (l.flatMap f).length ≤ K * l.length := by
  intro l
  induction l with
  | nil => intro _; simp
  | cons a r ih =>
    intro h
    have h1 := h a (by simp)
    have h2 := ih fun b hb => h b (by simp [hb])
    rw [List.flatMap_cons, List.length_append, List.length_cons, Nat.mul_add]
    omega
theorem four_len (z : Int) : (fourB z).length = 4 := by unfold fourB; exact be_len 4 _
theorem one_len (z : Int) : (oneB z).length = 1 := rfl
theorem txt_len (l : List UInt8) : (txtB l).length = l.length + 1 := rfl
theorem col_len {c : PC} (h : OkC c) : (colB c).length ≤ 34 := by
  have := nb_facts h.1
  unfold colB
  rw [List.length_append, List.length_append, List.length_append, txt_len, one_len, four_len, four_len]
  omega
theorem tab_len {t : PT} (h : MayT t) : (tabB t).length ≤ 400 := by
  have h1 := nb_facts h.1
  have h2 := flat_le colB 34 t.cols (fun c hc => by
    obtain ⟨i, hi, he⟩ := List.mem_iff_getElem.1 hc
    exact col_len (h.2.2.2.2.2.2 i hi c (by rw [List.getElem?_eq_getElem hi, he])).1)
  have h3 := h.2.2.1
  unfold tabB
  simp only [List.length_append, txt_len, one_len, four_len]
  omega
theorem idx_len {ts : List PT} {x : PX} (h : MayX ts x) : (idxB x).length ≤ 100 := by
  have h1 := nb_facts h.1
  have h2 := flat_le oneB 1 x.cs (fun c hc => Nat.le_refl _)
  have h4 := flat_le fourB 4 x.ds (fun c hc => by rw [four_len]; omega)
  have h3 := h.2.2.2.2.1
  have h5 := h.2.2.2.2.2.1
  unfold idxB
  simp only [List.length_append, txt_len, one_len, four_len]
  omega
end
end Go.Proofs.Ytjlpfhioacphkaa
/-
  The reference's Put.
-/
namespace Go.Proofs.Ytjlpfhioacphkaa
section
set_option linter.unusedSimpArgs false
set_option linter.unusedVariables false
open Go.RowKit

def putL (ts : List PT) (i : Nat) : List UInt8 := oneB ts.length ++ (ts.take i).flatMap tabB
def headL12 (t : PT) (k : Nat) : List UInt8 := txtB t.nm ++ oneB t.cols.length ++ (t.cols.take k).flatMap colB
def putX (ts : List PT) (xs : List PX) (i : Nat) : List UInt8 := putL ts ts.length ++ oneB xs.length ++ (xs.take i).flatMap idxB
def hdX (x : PX) (k : Nat) : List UInt8 := txtB x.nm ++ oneB x.tb ++ oneB x.cs.length ++ (x.cs.take k).flatMap oneB
def hdZ (x : PX) (k : Nat) : List UInt8 := hdX x x.cs.length ++ fourB x.root ++ fourB x.lv ++ fourB x.hi ++ (x.ds.take k).flatMap fourB
theorem headL_len {t : PT} (h : MayT t) (k : Nat) (hk : k ≤ 16) : (headL12 t k).length ≤ 600 := by
  have h1 := nb_facts h.1
  have h2 := flat_le colB 34 (t.cols.take k) (fun c hc => by
    obtain ⟨i, hi, he⟩ := List.mem_iff_getElem.1 (List.mem_of_mem_take hc)
    exact col_len (h.2.2.2.2.2.2 i hi c (by rw [List.getElem?_eq_getElem hi, he])).1)
  have h3 : (t.cols.take k).length ≤ 16 := by rw [List.length_take]; omega
  unfold headL12
  simp only [List.length_append, txt_len, one_len]
  omega
theorem hdX_len {ts : List PT} {x : PX} (h : MayX ts x) (k : Nat) : (hdX x k).length ≤ 50 := by
  have h1 := nb_facts h.1
  have h2 := flat_le oneB 1 (x.cs.take k) (fun c hc => Nat.le_refl _)
  have h3 := h.2.2.2.2.1
  have h4 : (x.cs.take k).length ≤ 2 := by rw [List.length_take]; omega
  unfold hdX
  simp only [List.length_append, txt_len, one_len]
  omega
theorem hdZ_len {ts : List PT} {x : PX} (h : MayX ts x) (k : Nat) : (hdZ x k).length ≤ 100 := by
  have h1 := hdX_len h x.cs.length
  have h2 := flat_le fourB 4 (x.ds.take k) (fun c hc => by rw [four_len]; omega)
  have h3 := h.2.2.2.2.1
  have h5 := h.2.2.2.2.2.1
  have h4 : (x.ds.take k).length ≤ 2 := by rw [List.length_take]; omega
  unfold hdZ
  simp only [List.length_append, four_len]
  omega
theorem flat_take12 {α : Type} (f : α → List UInt8) {l : List α} {i : Nat} {a : α} (h : l[i]? = some a) : (l.take (i + 1)).flatMap f = (l.take i).flatMap f ++ f a := by
  rw [List.take_add_one, h]
  simp
theorem take_le {α : Type} (f : α → List UInt8) (K : Nat) (l : List α) (i : Nat) (h : ∀ a ∈ l, (f a).length ≤ K) (hi : i ≤ 16) : ((l.take i).flatMap f).length ≤ K * 16 := by
  have h1 := flat_le f K (l.take i) fun a ha => h a (List.mem_of_mem_take ha)
  have h2 : (l.take i).length ≤ 16 := by rw [List.length_take]; omega
  exact Nat.le_trans h1 (Nat.mul_le_mul_left K h2)
theorem str_le {l : List UInt8} {n : Nat} (h : l.length ≤ n) : (str l).size ≤ n := by rw [str_size]; exact h
/-- Three strings put together. -/
theorem sum3 {a b c : ByteArray} (ha : a.size ≤ 20000) (hb : b.size ≤ 20000) (hc : c.size ≤ 20000) : ¬ 9223372036854775807 < a.size + b.size ∧ ¬ 9223372036854775807 < a.size + b.size + c.size := by omega
theorem sum4 {a b c d : ByteArray} (ha : a.size ≤ 20000) (hb : b.size ≤ 20000) (hc : c.size ≤ 20000) (hd : d.size ≤ 20000) : ¬ 9223372036854775807 < a.size + b.size ∧ ¬ 9223372036854775807 < a.size + b.size + c.size ∧ ¬ 9223372036854775807 < a.size + b.size + c.size + d.size := by omega
theorem sum5 {a b c d e : ByteArray} (ha : a.size ≤ 20000) (hb : b.size ≤ 20000) (hc : c.size ≤ 20000) (hd : d.size ≤ 20000) (he : e.size ≤ 20000) : ¬ 9223372036854775807 < a.size + b.size ∧ ¬ 9223372036854775807 < a.size + b.size + c.size ∧ ¬ 9223372036854775807 < a.size + b.size + c.size + d.size ∧ ¬ 9223372036854775807 < a.size + b.size + c.size + d.size + e.size := by omega
theorem str_app12 (a b : List UInt8) : str a ++ str b = str (a ++ b) := str_append12 a b
set_option maxRecDepth 100000 in
set_option maxHeartbeats 8000000 in
theorem rput_any (A : Option Addr) (n c : Nat) (l : List Tb) (B : Option Addr) (m d : Nat) (r : List Ix) (w : World) (hk : BkIn w A n c l B m d r) (hmay : MayB (pbk l r)) :
    Calls Try.prog 17 #[.agg #[.slice A n c, .slice B m d]] w (RetB w (.string (str (bookB (pbk l r))))) := by
  have hlp : (l.map Tb.pt).length = n := by rw [List.length_map]; exact hk.ln
  have hrp : (r.map Ix.px).length = m := by rw [List.length_map]; exact hk.rn
  have n16 : n ≤ 16 := by have := hmay.1; change (l.map Tb.pt).length ≤ 16 at this; omega
  have m16 : m ≤ 16 := by have := hmay.2.1; change (r.map Ix.px).length ≤ 16 at this; omega
  have nI : (n : Int) ≤ 16 := by omega
  have mI : (m : Int) ≤ 16 := by omega
  have MT : ∀ i t, (l.map Tb.pt)[i]? = some t → MayT t := fun i t h => (hmay.2.2.1 i (List.getElem?_eq_some_iff.1 h).1 t h).1
  have MX : ∀ i x, (r.map Ix.px)[i]? = some x → MayX (l.map Tb.pt) x := fun i x h => (hmay.2.2.2 i (List.getElem?_eq_some_iff.1 h).1 x h).1
  have LT : ∀ i, i ≤ 16 → (str (putL (l.map Tb.pt) i)).size ≤ 6500 := fun i hi => str_le (by
    unfold putL
    have := take_le tabB 400 (l.map Tb.pt) i (fun t ht => by
      obtain ⟨j, hj, he⟩ := List.mem_iff_getElem.1 ht
      exact tab_len (MT j t (by rw [List.getElem?_eq_getElem hj, he]))) hi
    rw [List.length_append, one_len]; omega)
  have LX : ∀ i, i ≤ 16 → (str (putX (l.map Tb.pt) (r.map Ix.px) i)).size ≤ 8200 := fun i hi => str_le (by
    unfold putX
    have h0 := LT (l.map Tb.pt).length (by omega)
    rw [str_size] at h0
    have := take_le idxB 100 (r.map Ix.px) i (fun x hx => by
      obtain ⟨j, hj, he⟩ := List.mem_iff_getElem.1 hx
      exact idx_len (MX j x (by rw [List.getElem?_eq_getElem hj, he]))) hi
    simp only [List.length_append, one_len]; omega)
  have HC := Lib.hid (And.intro hk (And.intro hlp (And.intro hrp (And.intro MT (And.intro MX (And.intro LT LX))))))
  have ON : Hid (∀ W : World, Calls Try.prog 34 #[.int .i64 (n : Int)] W (RetB W (.string (str (putL (l.map Tb.pt) 0))))) := Lib.hid fun W => by
    have h := one_any (n : Int) (by omega) (by omega) W
    rwa [show oneB (n : Int) = putL (l.map Tb.pt) 0 from by unfold putL; rw [hlp]; simp] at h
  clear hk hlp hrp MT MX LT LX hmay
  go_enter Try.func17, Try.ntmps17
  go_wp2_with fail
  refine (ON.out _).mono ?_
  rintro e w1 ⟨rfl, hb1⟩
  have hbk1 : Blk w1 w.heap.size 25 #[.slice A n c, .slice B m d] := (Blk.new _ _ _).below hb1 (by simp)
  have hbw1 := bto0 (ball (Below.refl w.heap.size w) (.cells #[.slice A n c, .slice B m d] 25)) hb1
  have a0 : w1.cell? ⟨w.heap.size, 0, none⟩ = some (.slice A n c) := hbk1.cell 0
  have a1 : w1.cell? ⟨w.heap.size, 1, none⟩ = some (.slice B m d) := hbk1.cell 1
  have HB1 := Lib.hid (And.intro hbw1 hbk1)
  clear hb1 hbk1 hbw1 ON
  go_wp2
  go_loopw [3, 19] (fun u v wr => ∃ i : Nat, i ≤ n ∧ u = .string (str (putL (l.map Tb.pt) i)) ∧ v = .int .i64 i ∧ Below w.heap.size w wr ∧ Blk wr w.heap.size 25 #[.slice A n c, .slice B m d]) (fun _ v _ => n - (intOf v).toNat)
  case atStart => exact ⟨0, by omega, rfl, rfl, HB1.out.1, HB1.out.2⟩
  case round =>
    obtain ⟨wo, rfl⟩ : ∃ wo : World, wo = wr := ⟨_, rfl⟩
    obtain ⟨i, hi, rfl, rfl, hb, hbk⟩ := hrel
    have q0 : (0 : Int) ≤ (i : Int) := by omega
    have b0 : wo.cell? ⟨w.heap.size, 0, none⟩ = some (.slice A n c) := hbk.cell 0
    have b1 : wo.cell? ⟨w.heap.size, 1, none⟩ = some (.slice B m d) := hbk.cell 1
    have blt := hbk.lt
    clear a0 a1
    by_cases hlt : i < n
    · have q1 : (i : Int) < (n : Int) := by omega
      obtain ⟨ad, q, hA, hab, hq, d0, d1, d2, d3, d4⟩ := (HC.out.1.below hb).hr.tb_ hlt
      subst hA
      have hpq : (l.map Tb.pt)[i]? = some q.pt := by rw [List.getElem?_map, hq]; rfl
      have hmt := HC.out.2.2.2.1 i _ hpq
      have hq0 := (HC.out.1.hl q (List.mem_of_getElem? hq)).1
      have hqn : q.cols.length = q.n := by have := hq0.2.2.1.1; rw [vC_len] at this; omega
      have qn8 : q.n ≤ 8 := by have := hmt.2.2.1; change (q.cols.map Cl.pc).length ≤ 8 at this; rw [List.length_map] at this; omega
      have qnI : (q.n : Int) ≤ 8 := by omega
      have nms : q.nm.size ≤ 24 := (nb_facts hmt.1).2
      have hpl : (q.pt.cols.length : Int) = q.n := by show ((q.cols.map Cl.pc).length : Int) = _; rw [List.length_map, hqn]
      have TN : Hid (∀ W : World, Calls Try.prog 35 #[.string q.nm] W (RetB W (.string (str (txtB q.nm.data.toList))))) := Lib.hid fun W => text_any q.nm nms W
      have OC : Hid (∀ W : World, Calls Try.prog 34 #[.int .i64 (q.n : Int)] W (RetB W (.string (str (oneB (q.n : Int)))))) := Lib.hid fun W => one_any (q.n : Int) (by omega) (by omega) W
      have FF : Hid (∀ W : World, Calls Try.prog 36 #[.int .i64 q.f] W (RetB W (.string (str (fourB q.f))))) := Lib.hid fun W => four_any q.f hmt.2.2.2.1 W
      have FR : Hid (∀ W : World, Calls Try.prog 36 #[.int .i64 q.r] W (RetB W (.string (str (fourB q.r))))) := Lib.hid fun W => four_any q.r hmt.2.2.2.2.1 W
      have FP : Hid (∀ W : World, Calls Try.prog 36 #[.int .i64 q.p] W (RetB W (.string (str (fourB q.p))))) := Lib.hid fun W => four_any q.p hmt.2.2.2.2.2.1 W
      have HQ := Lib.hid (And.intro hpq (And.intro hb (And.intro hbk (And.intro hmt (And.intro hq0 (And.intro hqn hpl))))))
      have LI := HC.out.2.2.2.2.2.1 i (by omega)
      obtain ⟨s0, hs0⟩ : ∃ s0, str (putL (l.map Tb.pt) i) = s0 := ⟨_, rfl⟩
      obtain ⟨s1, hs1⟩ : ∃ s1, str (txtB q.nm.data.toList) = s1 := ⟨_, rfl⟩
      obtain ⟨s2, hs2⟩ : ∃ s2, str (oneB (q.n : Int)) = s2 := ⟨_, rfl⟩
      rw [hs0] at LI ⊢
      rw [hs1] at TN
      rw [hs2] at OC
      have z1 : s1.size ≤ 20000 := by rw [← hs1]; exact str_le (by rw [txt_len]; have : q.nm.data.toList.length = q.nm.size := rfl; omega)
      have z2 : s2.size ≤ 20000 := by rw [← hs2]; exact str_le (by rw [one_len]; omega)
      obtain ⟨y1, y2⟩ := sum3 (show s0.size ≤ 20000 by omega) z1 z2
      have hH0 : s0 ++ s1 ++ s2 = str (putL (l.map Tb.pt) i ++ headL12 q.pt 0) := by
        rw [← hs0, ← hs1, ← hs2, str_append12, str_append12]
        unfold headL12
        rw [hpl]
        simp [Tb.pt]
      have HH0 := Lib.hid hH0
      have HS0 := Lib.hid (And.intro hs0 LI)
      clear hpq hb hbk hmt hq0 hqn hq hs0 hs1 hs2 hH0 z1 z2 LI nms hpl
      have hB : Blk (wo.alloc (.cells #[.string q.nm, .slice q.A q.n q.c, .int .u32 q.f, .int .i64 q.r, .int .i64 q.p] 62)) wo.heap.size 62 #[.string q.nm, .slice q.A q.n q.c, .int .u32 q.f, .int .i64 q.r, .int .i64 q.p] := Blk.new _ _ _
      have hS : Hid (∀ W, Below (wo.alloc (.cells #[.string q.nm, .slice q.A q.n q.c, .int .u32 q.f, .int .i64 q.r, .int .i64 q.p] 62)).heap.size (wo.alloc (.cells #[.string q.nm, .slice q.A q.n q.c, .int .u32 q.f, .int .i64 q.r, .int .i64 q.p] 62)) W → W.cell? ⟨wo.heap.size, 0, none⟩ = some (.string q.nm) ∧ W.cell? ⟨wo.heap.size, 1, none⟩ = some (.slice q.A q.n q.c) ∧ W.cell? ⟨wo.heap.size, 2, none⟩ = some (.int .u32 q.f) ∧ W.cell? ⟨wo.heap.size, 3, none⟩ = some (.int .i64 q.r) ∧ W.cell? ⟨wo.heap.size, 4, none⟩ = some (.int .i64 q.p) ∧ Below (wo.alloc (.cells #[.string q.nm, .slice q.A q.n q.c, .int .u32 q.f, .int .i64 q.r, .int .i64 q.p] 62)).heap.size (wo.alloc (.cells #[.string q.nm, .slice q.A q.n q.c, .int .u32 q.f, .int .i64 q.r, .int .i64 q.p] 62)) W) := Lib.hid fun W hW => by
        have b := hB.below hW (by (try simp) <;> omega)
        exact ⟨b.cell 0, b.cell 1, b.cell 2, b.cell 3, b.cell 4, hW⟩
      have HBq := Lib.hid hB
      clear hB
      go_wp2_with fail
      go_region_held3 (fun W => W.cell? ⟨wo.heap.size, 0, none⟩ = some (.string q.nm) ∧ W.cell? ⟨wo.heap.size, 1, none⟩ = some (.slice q.A q.n q.c) ∧ W.cell? ⟨wo.heap.size, 2, none⟩ = some (.int .u32 q.f) ∧ W.cell? ⟨wo.heap.size, 3, none⟩ = some (.int .i64 q.r) ∧ W.cell? ⟨wo.heap.size, 4, none⟩ = some (.int .i64 q.p) ∧ Below (wo.alloc (.cells #[.string q.nm, .slice q.A q.n q.c, .int .u32 q.f, .int .i64 q.r, .int .i64 q.p] 62)).heap.size (wo.alloc (.cells #[.string q.nm, .slice q.A q.n q.c, .int .u32 q.f, .int .i64 q.r, .int .i64 q.p] 62)) W)
        (first | exact hS.out _ (by with_reducible repeat (first | exact Below.refl _ _ | exact hb3 | exact hb2 | refine bto0 ?_ hb3 | refine bto0 ?_ hb2 | refine Below.drew ?_ | refine bdr ?_ _ | refine ball ?_ _)) | assumption)
        (first
          | (go_at_call 35; (with_reducible refine (TN.out _).mono ?_); rintro e w2 ⟨rfl, hb2⟩)
          | (go_at_call 34; (with_reducible refine (OC.out _).mono ?_); rintro e w3 ⟨rfl, hb3⟩))
      have bX : Below (wo.alloc (.cells #[.string q.nm, .slice q.A q.n q.c, .int .u32 q.f, .int .i64 q.r, .int .i64 q.p] 62)).heap.size (wo.alloc (.cells #[.string q.nm, .slice q.A q.n q.c, .int .u32 q.f, .int .i64 q.r, .int .i64 q.p] 62)) w3 := (by with_reducible repeat (first | exact Below.refl _ _ | exact hb3 | exact hb2 | refine bto0 ?_ hb3 | refine bto0 ?_ hb2 | refine Below.drew ?_ | refine bdr ?_ _ | refine ball ?_ _))
      have bo3 : Below wo.heap.size wo w3 := bto0 (ball (Below.refl _ _) _) bX
      have bk3 := HQ.out.2.2.1.below bo3 blt
      have bq3 := HBq.out.below bX (by simp)
      have t1 : w3.cell? ⟨wo.heap.size, 1, none⟩ = some (.slice q.A q.n q.c) := bq3.cell 1
      have H3 := Lib.hid (And.intro bo3 (And.intro bk3 bq3))
      have blt3 : w.heap.size < w3.heap.size := bk3.lt
      have wlt3 : wo.heap.size < w3.heap.size := bq3.lt
      clear bX bo3 bk3 bq3 hb2 hb3 hS TN OC b0 b1 d0 d1 d2 d3 d4 y1 y2
      go_wp2
      go_loopw [3, 40] (fun u v wr => ∃ k : Nat, k ≤ q.n ∧ u = .string (str (putL (l.map Tb.pt) i ++ headL12 q.pt k)) ∧ v = .int .i64 k ∧ Below w3.heap.size w3 wr) (fun _ v _ => q.n - (intOf v).toNat)
      case atStart => exact ⟨0, by omega, by rw [HH0.out], rfl, Below.refl _ _⟩
      case round =>
        obtain ⟨wi, rfl⟩ : ∃ wo : World, wo = wr := ⟨_, rfl⟩
        obtain ⟨k, hk, rfl, rfl, hb⟩ := hrel
        have r0 : (0 : Int) ≤ (k : Int) := by omega
        have bwi : Below w.heap.size w wi := bto0 (bto0 HQ.out.2.1 H3.out.1) hb
        have bqi := H3.out.2.2.below hb wlt3
        have t1 : wi.cell? ⟨wo.heap.size, 1, none⟩ = some (.slice q.A q.n q.c) := bqi.cell 1
        have LK : (str (putL (l.map Tb.pt) i ++ headL12 q.pt k)).size ≤ 7200 := by
          have h1 := HS0.out.2
          rw [← HS0.out.1, str_size] at h1
          have h2 := headL_len HQ.out.2.2.2.1 k (by omega)
          rw [str_size, List.length_append]; omega
        obtain ⟨v0, hv0⟩ : ∃ s, str (putL (l.map Tb.pt) i ++ headL12 q.pt k) = s := ⟨_, rfl⟩
        rw [hv0] at LK ⊢
        by_cases hkn : k < q.n
        · have r1 : (k : Int) < (q.n : Int) := by omega
          obtain ⟨ad2, p, hA2, hab2, hp, f0, f1, f2, f3⟩ := (HQ.out.2.2.2.2.1.2.2.1.below bwi).cl_ hkn
          have hpp : (q.cols.map Cl.pc)[k]? = some p.pc := by rw [List.getElem?_map, hp]; rfl
          have hok := (HQ.out.2.2.2.1.2.2.2.2.2.2 k (by show k < (q.cols.map Cl.pc).length; exact (List.getElem?_eq_some_iff.1 hpp).1) _ hpp).1
          rw [hA2] at t1
          clear hA2
          have pk1 : (1 : Int) ≤ p.k := hok.2.1.1
          have pk3 : p.k ≤ 3 := hok.2.1.2
          have CN : Hid (∀ W : World, Calls Try.prog 35 #[.string p.nm] W (RetB W (.string (str (txtB p.nm.data.toList))))) := Lib.hid fun W => text_any p.nm (nb_facts hok.1).2 W
          have wpk : IntKind.i64.wrap p.k = p.k := Go.IntWalk.i64_in _ ⟨by omega, by omega⟩
          have CK : Hid (∀ W : World, Calls Try.prog 34 #[.int .i64 p.k] W (RetB W (.string (str (oneB p.k))))) := Lib.hid fun W => one_any p.k (by omega) (by omega) W
          have CD : Hid (∀ W : World, Calls Try.prog 36 #[.int .i64 p.d] W (RetB W (.string (str (fourB p.d))))) := Lib.hid fun W => four_any p.d hok.2.2.1 W
          have CU : Hid (∀ W : World, Calls Try.prog 36 #[.int .i64 p.u] W (RetB W (.string (str (fourB p.u))))) := Lib.hid fun W => four_any p.u hok.2.2.2 W
          have nms : p.nm.size ≤ 24 := (nb_facts hok.1).2
          have x1 : (str (txtB p.nm.data.toList)).size ≤ 20000 := str_le (by rw [txt_len]; have : p.nm.data.toList.length = p.nm.size := rfl; omega)
          have x2 : (str (oneB p.k)).size ≤ 20000 := str_le (by rw [one_len]; omega)
          have x3 : (str (fourB p.d)).size ≤ 20000 := str_le (by rw [four_len]; omega)
          have x4 : (str (fourB p.u)).size ≤ 20000 := str_le (by rw [four_len]; omega)
          have hE : v0 ++ str (txtB p.nm.data.toList) ++ str (oneB p.k) ++ str (fourB p.d) ++ str (fourB p.u) = str (putL (l.map Tb.pt) i ++ headL12 q.pt (k + 1)) := by
            have h1 : headL12 q.pt (k + 1) = headL12 q.pt k ++ colB p.pc := by
              unfold headL12
              rw [flat_take12 colB (show q.pt.cols[k]? = some p.pc from hpp)]
              simp only [List.append_assoc]
            rw [← hv0, str_append12, str_append12, str_append12, str_append12, h1]
            unfold colB Cl.pc
            simp only [List.append_assoc]
          obtain ⟨v1, hv1⟩ : ∃ s, str (txtB p.nm.data.toList) = s := ⟨_, rfl⟩
          rw [hv1] at CN
          rw [hv1] at x1
          rw [hv1] at hE
          obtain ⟨v2, hv2⟩ : ∃ s, str (oneB p.k) = s := ⟨_, rfl⟩
          rw [hv2] at CK
          rw [hv2] at x2
          rw [hv2] at hE
          obtain ⟨v3, hv3⟩ : ∃ s, str (fourB p.d) = s := ⟨_, rfl⟩
          rw [hv3] at CD
          rw [hv3] at x3
          rw [hv3] at hE
          obtain ⟨v4, hv4⟩ : ∃ s, str (fourB p.u) = s := ⟨_, rfl⟩
          rw [hv4] at CU
          rw [hv4] at x4
          rw [hv4] at hE
          obtain ⟨y1, y2, y3, y4⟩ := sum5 (show v0.size ≤ 20000 by omega) x1 x2 x3 x4
          have HE := Lib.hid hE
          have HI := Lib.hid hb
          clear hE hv0 hv1 hv2 hv3 hv4 x1 x2 x3 x4 LK hok hpp hp hb bqi nms
          have hBc : Blk (wi.alloc (.cells #[.string p.nm, .int .u8 p.k, .int .i64 p.d, .int .i64 p.u] 64)) wi.heap.size 64 #[.string p.nm, .int .u8 p.k, .int .i64 p.d, .int .i64 p.u] := Blk.new _ _ _
          have hSc : Hid (∀ W, Below (wi.alloc (.cells #[.string p.nm, .int .u8 p.k, .int .i64 p.d, .int .i64 p.u] 64)).heap.size (wi.alloc (.cells #[.string p.nm, .int .u8 p.k, .int .i64 p.d, .int .i64 p.u] 64)) W → W.cell? ⟨wi.heap.size, 0, none⟩ = some (.string p.nm) ∧ W.cell? ⟨wi.heap.size, 1, none⟩ = some (.int .u8 p.k) ∧ W.cell? ⟨wi.heap.size, 2, none⟩ = some (.int .i64 p.d) ∧ W.cell? ⟨wi.heap.size, 3, none⟩ = some (.int .i64 p.u) ∧ Below (wi.alloc (.cells #[.string p.nm, .int .u8 p.k, .int .i64 p.d, .int .i64 p.u] 64)).heap.size (wi.alloc (.cells #[.string p.nm, .int .u8 p.k, .int .i64 p.d, .int .i64 p.u] 64)) W) := Lib.hid fun W hW => by
            have b := hBc.below hW (by (try simp) <;> omega)
            exact ⟨b.cell 0, b.cell 1, b.cell 2, b.cell 3, hW⟩
          clear hBc
          go_wp2_with fail
          go_region_held3 (fun W => W.cell? ⟨wi.heap.size, 0, none⟩ = some (.string p.nm) ∧ W.cell? ⟨wi.heap.size, 1, none⟩ = some (.int .u8 p.k) ∧ W.cell? ⟨wi.heap.size, 2, none⟩ = some (.int .i64 p.d) ∧ W.cell? ⟨wi.heap.size, 3, none⟩ = some (.int .i64 p.u) ∧ Below (wi.alloc (.cells #[.string p.nm, .int .u8 p.k, .int .i64 p.d, .int .i64 p.u] 64)).heap.size (wi.alloc (.cells #[.string p.nm, .int .u8 p.k, .int .i64 p.d, .int .i64 p.u] 64)) W)
            (first | exact hSc.out _ (by with_reducible repeat (first | exact Below.refl _ _ | exact hb7 | exact hb6 | exact hb5 | exact hb4 | refine bto0 ?_ hb7 | refine bto0 ?_ hb6 | refine bto0 ?_ hb5 | refine bto0 ?_ hb4 | refine Below.drew ?_ | refine bdr ?_ _ | refine ball ?_ _)) | assumption)
            (first
              | (go_at_call 35; (with_reducible refine (CN.out _).mono ?_); rintro e w4 ⟨rfl, hb4⟩)
              | (go_at_call 34; (with_reducible refine (CK.out _).mono ?_); rintro e w5 ⟨rfl, hb5⟩)
              | (go_at_call 36; (with_reducible refine (CD.out _).mono ?_); rintro e w6 ⟨rfl, hb6⟩)
              | (go_at_call 36; (with_reducible refine (CU.out _).mono ?_); rintro e w7 ⟨rfl, hb7⟩))
          have bX : Below wi.heap.size wi w7 := bto0 (ball (Below.refl _ _) _) (by with_reducible repeat (first | exact Below.refl _ _ | exact hb7 | exact hb6 | exact hb5 | exact hb4 | refine bto0 ?_ hb7 | refine bto0 ?_ hb6 | refine bto0 ?_ hb5 | refine bto0 ?_ hb4 | refine Below.drew ?_ | refine bdr ?_ _ | refine ball ?_ _))
          go_wp2
          exact ⟨⟨k + 1, by omega, by rw [HE.out], by go_num, bto0 HI.out bX⟩, by simp [intOf]; omega⟩
        · obtain rfl : k = q.n := by omega
          have x1 : (str (fourB q.f)).size ≤ 20000 := str_le (by rw [four_len]; omega)
          have x2 : (str (fourB q.r)).size ≤ 20000 := str_le (by rw [four_len]; omega)
          have x3 : (str (fourB q.p)).size ≤ 20000 := str_le (by rw [four_len]; omega)
          have wqf : IntKind.i64.wrap q.f = q.f := Go.IntWalk.i64_in _ (by have := num31_iff.1 HQ.out.2.2.2.1.2.2.2.1; change 0 ≤ q.f ∧ q.f < 2147483648 at this; omega)
          have hE : v0 ++ str (fourB q.f) ++ str (fourB q.r) ++ str (fourB q.p) = str (putL (l.map Tb.pt) (i + 1)) := by
            have h1 : putL (l.map Tb.pt) (i + 1) = putL (l.map Tb.pt) i ++ tabB q.pt := by
              unfold putL
              rw [flat_take12 tabB HQ.out.1]
              simp only [List.append_assoc]
            have h2 : headL12 q.pt q.n = txtB q.pt.nm ++ oneB q.pt.cols.length ++ q.pt.cols.flatMap colB := by
              unfold headL12
              rw [List.take_of_length_le (by show (q.cols.map Cl.pc).length ≤ q.n; rw [List.length_map, HQ.out.2.2.2.2.2.1]; exact Nat.le_refl _)]
            rw [← hv0, str_append12, str_append12, str_append12, h1, h2]
            unfold tabB Tb.pt
            simp only [List.append_assoc]
          obtain ⟨v1, hv1⟩ : ∃ s, str (fourB q.f) = s := ⟨_, rfl⟩
          rw [hv1] at FF
          rw [hv1] at x1
          rw [hv1] at hE
          obtain ⟨v2, hv2⟩ : ∃ s, str (fourB q.r) = s := ⟨_, rfl⟩
          rw [hv2] at FR
          rw [hv2] at x2
          rw [hv2] at hE
          obtain ⟨v3, hv3⟩ : ∃ s, str (fourB q.p) = s := ⟨_, rfl⟩
          rw [hv3] at FP
          rw [hv3] at x3
          rw [hv3] at hE
          obtain ⟨y1, y2, y3⟩ := sum4 (show v0.size ≤ 20000 by omega) x1 x2 x3
          have HE := Lib.hid hE
          have HI := Lib.hid hb
          have hBt := bqi
          have wltt : wo.heap.size < wi.heap.size := bqi.lt
          clear hE hv0 hv1 hv2 hv3 x1 x2 x3 LK hb bqi
          have hSt : Hid (∀ W, Below wi.heap.size wi W → W.cell? ⟨wo.heap.size, 0, none⟩ = some (.string q.nm) ∧ W.cell? ⟨wo.heap.size, 1, none⟩ = some (.slice q.A q.n q.c) ∧ W.cell? ⟨wo.heap.size, 2, none⟩ = some (.int .u32 q.f) ∧ W.cell? ⟨wo.heap.size, 3, none⟩ = some (.int .i64 q.r) ∧ W.cell? ⟨wo.heap.size, 4, none⟩ = some (.int .i64 q.p) ∧ Below wi.heap.size wi W) := Lib.hid fun W hW => by
            have b := hBt.below hW (by (try simp) <;> omega)
            exact ⟨b.cell 0, b.cell 1, b.cell 2, b.cell 3, b.cell 4, hW⟩
          clear hBt
          go_wp2_with fail
          go_region_held3 (fun W => W.cell? ⟨wo.heap.size, 0, none⟩ = some (.string q.nm) ∧ W.cell? ⟨wo.heap.size, 1, none⟩ = some (.slice q.A q.n q.c) ∧ W.cell? ⟨wo.heap.size, 2, none⟩ = some (.int .u32 q.f) ∧ W.cell? ⟨wo.heap.size, 3, none⟩ = some (.int .i64 q.r) ∧ W.cell? ⟨wo.heap.size, 4, none⟩ = some (.int .i64 q.p) ∧ Below wi.heap.size wi W)
            (first | exact hSt.out _ (by with_reducible repeat (first | exact Below.refl _ _ | exact hb6 | exact hb5 | exact hb4 | refine bto0 ?_ hb6 | refine bto0 ?_ hb5 | refine bto0 ?_ hb4 | refine Below.drew ?_ | refine bdr ?_ _ | refine ball ?_ _)) | assumption)
            (first
              | (go_at_call 36; (with_reducible refine (FF.out _).mono ?_); rintro e w4 ⟨rfl, hb4⟩)
              | (go_at_call 36; (with_reducible refine (FR.out _).mono ?_); rintro e w5 ⟨rfl, hb5⟩)
              | (go_at_call 36; (with_reducible refine (FP.out _).mono ?_); rintro e w6 ⟨rfl, hb6⟩))
          have bX : Below wi.heap.size wi w6 := (by with_reducible repeat (first | exact Below.refl _ _ | exact hb6 | exact hb5 | exact hb4 | refine bto0 ?_ hb6 | refine bto0 ?_ hb5 | refine bto0 ?_ hb4 | refine Below.drew ?_ | refine bdr ?_ _ | refine ball ?_ _))
          have bo6 := bto0 (bto0 H3.out.1 HI.out) bX
          go_wp2
          exact ⟨⟨i + 1, by omega, by rw [HE.out], by go_num, bto0 HQ.out.2.1 bo6, HQ.out.2.2.1.below bo6 blt⟩, by simp [intOf]; omega⟩
    · obtain rfl : n = i := by omega
      have HB := Lib.hid (And.intro hb hbk)
      have ON : Hid (∀ W : World, Calls Try.prog 34 #[.int .i64 (m : Int)] W (RetB W (.string (str (oneB (m : Int)))))) := Lib.hid fun W => one_any (m : Int) (by omega) (by omega) W
      have LI := HC.out.2.2.2.2.2.1 n (by omega)
      have x1 : (str (oneB (m : Int))).size ≤ 20000 := str_le (by rw [one_len]; omega)
      have hE : str (putL (l.map Tb.pt) n) ++ str (oneB (m : Int)) = str (putX (l.map Tb.pt) (r.map Ix.px) 0) := by
        rw [str_append12]
        unfold putX
        rw [HC.out.2.1, HC.out.2.2.1]
        simp
      obtain ⟨v0, hv0⟩ : ∃ s, str (putL (l.map Tb.pt) n) = s := ⟨_, rfl⟩
      obtain ⟨v1, hv1⟩ : ∃ s, str (oneB (m : Int)) = s := ⟨_, rfl⟩
      rw [hv0] at LI hE ⊢
      rw [hv1] at ON x1 hE
      have y1 : ¬ 9223372036854775807 < v0.size + v1.size := by omega
      have HE := Lib.hid hE
      clear hE hv0 hv1 LI x1 hb
      go_wp2_with fail
      refine (ON.out _).mono ?_
      rintro e w2 ⟨rfl, hb2⟩
      have hbk2 := hbk.below hb2 blt
      have a0 : w2.cell? ⟨w.heap.size, 0, none⟩ = some (.slice A n c) := hbk2.cell 0
      have a1 : w2.cell? ⟨w.heap.size, 1, none⟩ = some (.slice B m d) := hbk2.cell 1
      have HB2 := Lib.hid (And.intro (bto0 HB.out.1 hb2) hbk2)
      clear b0 b1 hbk hbk2 hb2 ON blt
      go_wp2
      go_loopw [3, 91] (fun u v wr => ∃ i : Nat, i ≤ m ∧ u = .string (str (putX (l.map Tb.pt) (r.map Ix.px) i)) ∧ v = .int .i64 i ∧ Below w.heap.size w wr ∧ Blk wr w.heap.size 25 #[.slice A n c, .slice B m d]) (fun _ v _ => m - (intOf v).toNat)
      case atStart => exact ⟨0, by omega, by first | rw [HE.out] | rfl, rfl, HB2.out.1, HB2.out.2⟩
      case round =>
        clear q0
        obtain ⟨wo, rfl⟩ : ∃ wo : World, wo = wr := ⟨_, rfl⟩
        obtain ⟨i, hi, rfl, rfl, hb, hbk⟩ := hrel
        have q0 : (0 : Int) ≤ (i : Int) := by omega
        have b0 : wo.cell? ⟨w.heap.size, 0, none⟩ = some (.slice A n c) := hbk.cell 0
        have b1 : wo.cell? ⟨w.heap.size, 1, none⟩ = some (.slice B m d) := hbk.cell 1
        have blt := hbk.lt
        clear a0 a1
        by_cases hlt : i < m
        · have q1 : (i : Int) < (m : Int) := by omega
          obtain ⟨ad, q, hA, hab, hq, d0, d1, d2, d3, d4, d5, d6⟩ := (HC.out.1.below hb).hx.ix_ hlt
          subst hA
          have hpq : (r.map Ix.px)[i]? = some q.px := by rw [List.getElem?_map, hq]; rfl
          have hmt := HC.out.2.2.2.2.1 i _ hpq
          have hq0 := HC.out.1.hix q (List.mem_of_getElem? hq)
          have hqn : q.cs.length = q.n := by have := hq0.2.1.1; rw [vI64_len] at this; omega
          have hqm : q.ds.length = q.m := by have := hq0.2.2.1.1; rw [vI64_len] at this; omega
          have qn2 : q.n ≤ 2 := by have := hmt.2.2.2.2.1; change q.cs.length ≤ 2 at this; omega
          have qm2 : q.m ≤ 2 := by have := hmt.2.2.2.2.2.1; change q.ds.length = q.cs.length at this; omega
          have qnI : (q.n : Int) ≤ 2 := by omega
          have qmI : (q.m : Int) ≤ 2 := by omega
          have tb0 : 0 ≤ q.tb := hmt.2.1
          have tb1 : q.tb < 16 := by have := hmt.2.2.1; change q.tb < ((l.map Tb.pt).length : Int) at this; rw [HC.out.2.1] at this; omega
          have nms : q.nm.size ≤ 24 := (nb_facts hmt.1).2
          have TN : Hid (∀ W : World, Calls Try.prog 35 #[.string q.nm] W (RetB W (.string (str (txtB q.nm.data.toList))))) := Lib.hid fun W => text_any q.nm nms W
          have OT : Hid (∀ W : World, Calls Try.prog 34 #[.int .i64 q.tb] W (RetB W (.string (str (oneB q.tb))))) := Lib.hid fun W => one_any q.tb (by omega) (by omega) W
          have OC : Hid (∀ W : World, Calls Try.prog 34 #[.int .i64 (q.n : Int)] W (RetB W (.string (str (oneB (q.n : Int)))))) := Lib.hid fun W => one_any (q.n : Int) (by omega) (by omega) W
          have FF : Hid (∀ W : World, Calls Try.prog 36 #[.int .i64 q.root] W (RetB W (.string (str (fourB q.root))))) := Lib.hid fun W => four_any q.root hmt.2.2.2.2.2.2.2.2.1 W
          have FR : Hid (∀ W : World, Calls Try.prog 36 #[.int .i64 q.lv] W (RetB W (.string (str (fourB q.lv))))) := Lib.hid fun W => four_any q.lv hmt.2.2.2.2.2.2.2.2.2.1 W
          have FP : Hid (∀ W : World, Calls Try.prog 36 #[.int .i64 q.hi] W (RetB W (.string (str (fourB q.hi))))) := Lib.hid fun W => four_any q.hi hmt.2.2.2.2.2.2.2.2.2.2 W
          have HQ := Lib.hid (And.intro hpq (And.intro hb (And.intro hbk (And.intro hmt (And.intro hq0 (And.intro hqn hqm))))))
          have LI := HC.out.2.2.2.2.2.2 i (by omega)
          obtain ⟨s0, hs0⟩ : ∃ s0, str (putX (l.map Tb.pt) (r.map Ix.px) i) = s0 := ⟨_, rfl⟩
          obtain ⟨s1, hs1⟩ : ∃ s1, str (txtB q.nm.data.toList) = s1 := ⟨_, rfl⟩
          obtain ⟨s2, hs2⟩ : ∃ s2, str (oneB q.tb) = s2 := ⟨_, rfl⟩
          obtain ⟨s3, hs3⟩ : ∃ s3, str (oneB (q.n : Int)) = s3 := ⟨_, rfl⟩
          rw [hs0] at LI ⊢
          rw [hs1] at TN
          rw [hs2] at OT
          rw [hs3] at OC
          have z1 : s1.size ≤ 20000 := by rw [← hs1]; exact str_le (by rw [txt_len]; have : q.nm.data.toList.length = q.nm.size := rfl; omega)
          have z2 : s2.size ≤ 20000 := by rw [← hs2]; exact str_le (by rw [one_len]; omega)
          have z3 : s3.size ≤ 20000 := by rw [← hs3]; exact str_le (by rw [one_len]; omega)
          obtain ⟨y1, y2, y3⟩ := sum4 (show s0.size ≤ 20000 by omega) z1 z2 z3
          have hH0 : s0 ++ s1 ++ s2 ++ s3 = str (putX (l.map Tb.pt) (r.map Ix.px) i ++ hdX q.px 0) := by
            rw [← hs0, ← hs1, ← hs2, ← hs3, str_append12, str_append12, str_append12]
            unfold hdX
            rw [show (q.px.cs.length : Int) = q.n from by show (q.cs.length : Int) = _; rw [hqn]]
            simp [Ix.px]
          have HH0 := Lib.hid hH0
          have HS0 := Lib.hid (And.intro hs0 LI)
          clear hpq hb hbk hmt hq0 hqn hqm hq hs0 hs1 hs2 hs3 hH0 z1 z2 z3 LI nms
          have hB : Blk (wo.alloc (.cells #[.string q.nm, .int .i64 q.tb, .slice q.A q.n q.c, .int .u32 q.root, .int .i64 q.lv, .int .i64 q.hi, .slice q.B q.m q.e] 67)) wo.heap.size 67 #[.string q.nm, .int .i64 q.tb, .slice q.A q.n q.c, .int .u32 q.root, .int .i64 q.lv, .int .i64 q.hi, .slice q.B q.m q.e] := Blk.new _ _ _
          have hS : Hid (∀ W, Below (wo.alloc (.cells #[.string q.nm, .int .i64 q.tb, .slice q.A q.n q.c, .int .u32 q.root, .int .i64 q.lv, .int .i64 q.hi, .slice q.B q.m q.e] 67)).heap.size (wo.alloc (.cells #[.string q.nm, .int .i64 q.tb, .slice q.A q.n q.c, .int .u32 q.root, .int .i64 q.lv, .int .i64 q.hi, .slice q.B q.m q.e] 67)) W → W.cell? ⟨wo.heap.size, 0, none⟩ = some (.string q.nm) ∧ W.cell? ⟨wo.heap.size, 1, none⟩ = some (.int .i64 q.tb) ∧ W.cell? ⟨wo.heap.size, 2, none⟩ = some (.slice q.A q.n q.c) ∧ W.cell? ⟨wo.heap.size, 3, none⟩ = some (.int .u32 q.root) ∧ W.cell? ⟨wo.heap.size, 4, none⟩ = some (.int .i64 q.lv) ∧ W.cell? ⟨wo.heap.size, 5, none⟩ = some (.int .i64 q.hi) ∧ W.cell? ⟨wo.heap.size, 6, none⟩ = some (.slice q.B q.m q.e) ∧ Below (wo.alloc (.cells #[.string q.nm, .int .i64 q.tb, .slice q.A q.n q.c, .int .u32 q.root, .int .i64 q.lv, .int .i64 q.hi, .slice q.B q.m q.e] 67)).heap.size (wo.alloc (.cells #[.string q.nm, .int .i64 q.tb, .slice q.A q.n q.c, .int .u32 q.root, .int .i64 q.lv, .int .i64 q.hi, .slice q.B q.m q.e] 67)) W) := Lib.hid fun W hW => by
            have b := hB.below hW (by (try simp) <;> omega)
            exact ⟨b.cell 0, b.cell 1, b.cell 2, b.cell 3, b.cell 4, b.cell 5, b.cell 6, hW⟩
          have HBq := Lib.hid hB
          clear hB
          go_wp2_with fail
          go_region_held3 (fun W => W.cell? ⟨wo.heap.size, 0, none⟩ = some (.string q.nm) ∧ W.cell? ⟨wo.heap.size, 1, none⟩ = some (.int .i64 q.tb) ∧ W.cell? ⟨wo.heap.size, 2, none⟩ = some (.slice q.A q.n q.c) ∧ W.cell? ⟨wo.heap.size, 3, none⟩ = some (.int .u32 q.root) ∧ W.cell? ⟨wo.heap.size, 4, none⟩ = some (.int .i64 q.lv) ∧ W.cell? ⟨wo.heap.size, 5, none⟩ = some (.int .i64 q.hi) ∧ W.cell? ⟨wo.heap.size, 6, none⟩ = some (.slice q.B q.m q.e) ∧ Below (wo.alloc (.cells #[.string q.nm, .int .i64 q.tb, .slice q.A q.n q.c, .int .u32 q.root, .int .i64 q.lv, .int .i64 q.hi, .slice q.B q.m q.e] 67)).heap.size (wo.alloc (.cells #[.string q.nm, .int .i64 q.tb, .slice q.A q.n q.c, .int .u32 q.root, .int .i64 q.lv, .int .i64 q.hi, .slice q.B q.m q.e] 67)) W)
            (first | exact hS.out _ (by with_reducible repeat (first | exact Below.refl _ _ | exact hb5 | exact hb4 | exact hb3 | refine bto0 ?_ hb5 | refine bto0 ?_ hb4 | refine bto0 ?_ hb3 | refine Below.drew ?_ | refine bdr ?_ _ | refine ball ?_ _)) | assumption)
            (first
              | (go_at_call 35; (with_reducible refine (TN.out _).mono ?_); rintro e w3 ⟨rfl, hb3⟩)
              | (go_at_call 34; (with_reducible refine (OT.out _).mono ?_); rintro e w4 ⟨rfl, hb4⟩)
              | (go_at_call 34; (with_reducible refine (OC.out _).mono ?_); rintro e w5 ⟨rfl, hb5⟩))
          have bX : Below (wo.alloc (.cells #[.string q.nm, .int .i64 q.tb, .slice q.A q.n q.c, .int .u32 q.root, .int .i64 q.lv, .int .i64 q.hi, .slice q.B q.m q.e] 67)).heap.size (wo.alloc (.cells #[.string q.nm, .int .i64 q.tb, .slice q.A q.n q.c, .int .u32 q.root, .int .i64 q.lv, .int .i64 q.hi, .slice q.B q.m q.e] 67)) w5 := (by with_reducible repeat (first | exact Below.refl _ _ | exact hb5 | exact hb4 | exact hb3 | refine bto0 ?_ hb5 | refine bto0 ?_ hb4 | refine bto0 ?_ hb3 | refine Below.drew ?_ | refine bdr ?_ _ | refine ball ?_ _))
          have bo3 : Below wo.heap.size wo w5 := bto0 (ball (Below.refl _ _) _) bX
          have bk3 := HQ.out.2.2.1.below bo3 blt
          have bq3 := HBq.out.below bX (by simp)
          have t2 : w5.cell? ⟨wo.heap.size, 2, none⟩ = some (.slice q.A q.n q.c) := bq3.cell 2
          have H3 := Lib.hid (And.intro bo3 (And.intro bk3 bq3))
          have blt3 : w.heap.size < w5.heap.size := bk3.lt
          have wlt3 : wo.heap.size < w5.heap.size := bq3.lt
          clear bX bo3 bk3 bq3 hb3 hb4 hb5 hS TN OC OT b0 b1 d0 d1 d2 d3 d4 d5 d6 y1 y2 y3
          go_wp2
          go_loopw [3, 116] (fun u v wr => ∃ k : Nat, k ≤ q.n ∧ u = .string (str (putX (l.map Tb.pt) (r.map Ix.px) i ++ hdX q.px k)) ∧ v = .int .i64 k ∧ Below w5.heap.size w5 wr) (fun _ v _ => q.n - (intOf v).toNat)
          case atStart => exact ⟨0, by omega, by rw [HH0.out], rfl, Below.refl _ _⟩
          case round =>
            obtain ⟨wi, rfl⟩ : ∃ wo : World, wo = wr := ⟨_, rfl⟩
            obtain ⟨k, hk, rfl, rfl, hb⟩ := hrel
            have r0 : (0 : Int) ≤ (k : Int) := by omega
            have bwi : Below w.heap.size w wi := bto0 (bto0 HQ.out.2.1 H3.out.1) hb
            have bqi := H3.out.2.2.below hb wlt3
            have LK : (str (putX (l.map Tb.pt) (r.map Ix.px) i ++ hdX q.px k)).size ≤ 9000 := by
              have h1 := HS0.out.2
              rw [← HS0.out.1, str_size] at h1
              have h2 := hdX_len HQ.out.2.2.2.1 k
              rw [str_size, List.length_append]; omega
            obtain ⟨v0, hv0⟩ : ∃ s, str (putX (l.map Tb.pt) (r.map Ix.px) i ++ hdX q.px k) = s := ⟨_, rfl⟩
            rw [hv0] at LK ⊢
            clear t2
            by_cases hkn : k < q.n
            · have r1 : (k : Int) < (q.n : Int) := by omega
              have t2 : wi.cell? ⟨wo.heap.size, 2, none⟩ = some (.slice q.A q.n q.c) := bqi.cell 2
              obtain ⟨ad2, z, hA2, hab2, hz, f0⟩ := (HQ.out.2.2.2.2.1.2.1.below bwi).i64_ hkn
              have hzb : 0 ≤ z ∧ z < 2147483648 := by
                have h1 := HQ.out.2.2.2.1.2.2.2.2.2.2.1
                have hml : q.tb.toNat < (l.map Tb.pt).length := by rw [HC.out.2.1]; have := HQ.out.2.2.2.1.2.2.1; change q.tb < ((l.map Tb.pt).length : Int) at this; rw [HC.out.2.1] at this; omega
                have h2 := h1 _ (List.getElem?_eq_getElem hml) k z (q.ds[k]'(by rw [HQ.out.2.2.2.2.2.2]; have := HQ.out.2.2.2.1.2.2.2.2.2.1; change q.ds.length = q.cs.length at this; rw [HQ.out.2.2.2.2.2.1, HQ.out.2.2.2.2.2.2] at this; omega)) hz (List.getElem?_eq_getElem _)
                have h3 := (HC.out.2.2.2.1 _ _ (List.getElem?_eq_getElem hml)).2.2.1
                omega
              rw [hA2] at t2
              clear hA2
              have CZ : Hid (∀ W : World, Calls Try.prog 34 #[.int .i64 z] W (RetB W (.string (str (oneB z))))) := Lib.hid fun W => one_any z hzb.1 hzb.2 W
              have x1 : (str (oneB z)).size ≤ 20000 := str_le (by rw [one_len]; omega)
              have hE : v0 ++ str (oneB z) = str (putX (l.map Tb.pt) (r.map Ix.px) i ++ hdX q.px (k + 1)) := by
                have h1 : hdX q.px (k + 1) = hdX q.px k ++ oneB z := by
                  unfold hdX
                  rw [flat_take12 oneB (show q.px.cs[k]? = some z from hz)]
                  simp only [List.append_assoc]
                rw [← hv0, str_append12, h1, List.append_assoc]
              obtain ⟨v1, hv1⟩ : ∃ s, str (oneB z) = s := ⟨_, rfl⟩
              rw [hv1] at CZ
              rw [hv1] at x1
              rw [hv1] at hE
              have y1 : ¬ 9223372036854775807 < v0.size + v1.size := by omega
              have HE := Lib.hid hE
              have HI := Lib.hid hb
              clear hE hv0 hv1 x1 LK hz hzb hb bqi
              go_wp2_with fail
              refine (CZ.out _).mono ?_
              rintro e w6 ⟨rfl, hb6⟩
              go_wp2
              exact ⟨⟨k + 1, by omega, by rw [HE.out], by go_num, bto0 HI.out hb6⟩, by simp [intOf]; omega⟩
            · obtain rfl : k = q.n := by omega
              have x1 : (str (fourB q.root)).size ≤ 20000 := str_le (by rw [four_len]; omega)
              have x2 : (str (fourB q.lv)).size ≤ 20000 := str_le (by rw [four_len]; omega)
              have x3 : (str (fourB q.hi)).size ≤ 20000 := str_le (by rw [four_len]; omega)
              have wqf : IntKind.i64.wrap q.root = q.root := Go.IntWalk.i64_in _ (by have := num31_iff.1 HQ.out.2.2.2.1.2.2.2.2.2.2.2.2.1; change 0 ≤ q.root ∧ q.root < 2147483648 at this; omega)
              have hE : v0 ++ str (fourB q.root) ++ str (fourB q.lv) ++ str (fourB q.hi) = str (putX (l.map Tb.pt) (r.map Ix.px) i ++ hdZ q.px 0) := by
                rw [← hv0, str_append12, str_append12, str_append12]
                unfold hdZ
                rw [show q.px.cs.length = q.n from HQ.out.2.2.2.2.2.1]
                simp [Ix.px]
              obtain ⟨v1, hv1⟩ : ∃ s, str (fourB q.root) = s := ⟨_, rfl⟩
              rw [hv1] at FF
              rw [hv1] at x1
              rw [hv1] at hE
              obtain ⟨v2, hv2⟩ : ∃ s, str (fourB q.lv) = s := ⟨_, rfl⟩
              rw [hv2] at FR
              rw [hv2] at x2
              rw [hv2] at hE
              obtain ⟨v3, hv3⟩ : ∃ s, str (fourB q.hi) = s := ⟨_, rfl⟩
              rw [hv3] at FP
              rw [hv3] at x3
              rw [hv3] at hE
              obtain ⟨y1, y2, y3⟩ := sum4 (show v0.size ≤ 20000 by omega) x1 x2 x3
              have HE := Lib.hid hE
              have HI := Lib.hid hb
              have hBt := bqi
              have wltt : wo.heap.size < wi.heap.size := bqi.lt
              clear hE hv0 hv1 hv2 hv3 x1 x2 x3 LK hb
              have hSt : Hid (∀ W, Below wi.heap.size wi W → W.cell? ⟨wo.heap.size, 0, none⟩ = some (.string q.nm) ∧ W.cell? ⟨wo.heap.size, 1, none⟩ = some (.int .i64 q.tb) ∧ W.cell? ⟨wo.heap.size, 2, none⟩ = some (.slice q.A q.n q.c) ∧ W.cell? ⟨wo.heap.size, 3, none⟩ = some (.int .u32 q.root) ∧ W.cell? ⟨wo.heap.size, 4, none⟩ = some (.int .i64 q.lv) ∧ W.cell? ⟨wo.heap.size, 5, none⟩ = some (.int .i64 q.hi) ∧ W.cell? ⟨wo.heap.size, 6, none⟩ = some (.slice q.B q.m q.e) ∧ Below wi.heap.size wi W) := Lib.hid fun W hW => by
                have b := hBt.below hW (by (try simp) <;> omega)
                exact ⟨b.cell 0, b.cell 1, b.cell 2, b.cell 3, b.cell 4, b.cell 5, b.cell 6, hW⟩
              clear hBt
              have HBi := Lib.hid bqi
              clear bqi
              go_wp2_with fail
              go_region_held3 (fun W => W.cell? ⟨wo.heap.size, 0, none⟩ = some (.string q.nm) ∧ W.cell? ⟨wo.heap.size, 1, none⟩ = some (.int .i64 q.tb) ∧ W.cell? ⟨wo.heap.size, 2, none⟩ = some (.slice q.A q.n q.c) ∧ W.cell? ⟨wo.heap.size, 3, none⟩ = some (.int .u32 q.root) ∧ W.cell? ⟨wo.heap.size, 4, none⟩ = some (.int .i64 q.lv) ∧ W.cell? ⟨wo.heap.size, 5, none⟩ = some (.int .i64 q.hi) ∧ W.cell? ⟨wo.heap.size, 6, none⟩ = some (.slice q.B q.m q.e) ∧ Below wi.heap.size wi W)
                (first | exact hSt.out _ (by with_reducible repeat (first | exact Below.refl _ _ | exact hb8 | exact hb7 | exact hb6 | refine bto0 ?_ hb8 | refine bto0 ?_ hb7 | refine bto0 ?_ hb6 | refine Below.drew ?_ | refine bdr ?_ _ | refine ball ?_ _)) | assumption)
                (first
                  | (go_at_call 36; (with_reducible refine (FF.out _).mono ?_); rintro e w6 ⟨rfl, hb6⟩)
                  | (go_at_call 36; (with_reducible refine (FR.out _).mono ?_); rintro e w7 ⟨rfl, hb7⟩)
                  | (go_at_call 36; (with_reducible refine (FP.out _).mono ?_); rintro e w8 ⟨rfl, hb8⟩))
              have bX : Below wi.heap.size wi w8 := (by with_reducible repeat (first | exact Below.refl _ _ | exact hb8 | exact hb7 | exact hb6 | refine bto0 ?_ hb8 | refine bto0 ?_ hb7 | refine bto0 ?_ hb6 | refine Below.drew ?_ | refine bdr ?_ _ | refine ball ?_ _))
              have bo8 : Below wo.heap.size wo w8 := bto0 (bto0 H3.out.1 HI.out) bX
              have hlt8 : wo.heap.size < wi.heap.size := HBi.out.lt
              have bq8 := HBi.out.below bX hlt8
              have wlt8 : wo.heap.size < w8.heap.size := bq8.lt
              have t6 : w8.cell? ⟨wo.heap.size, 6, none⟩ = some (.slice q.B q.m q.e) := bq8.cell 6
              have H8 := Lib.hid (And.intro bo8 bq8)
              clear bX bo8 bq8 hSt hb6 hb7 hb8 y1 y2 y3
              go_wp2
              go_loopw [3, 145] (fun u v wr => ∃ k : Nat, k ≤ q.m ∧ u = .string (str (putX (l.map Tb.pt) (r.map Ix.px) i ++ hdZ q.px k)) ∧ v = .int .i64 k ∧ Below w8.heap.size w8 wr) (fun _ v _ => q.m - (intOf v).toNat)
              case atStart => exact ⟨0, by omega, by rw [HE.out], rfl, Below.refl _ _⟩
              case round =>
                obtain ⟨wj, rfl⟩ : ∃ wo : World, wo = wr := ⟨_, rfl⟩
                obtain ⟨k, hk, rfl, rfl, hb⟩ := hrel
                have r0 : (0 : Int) ≤ (k : Int) := by omega
                have bwj : Below w.heap.size w wj := bto0 (bto0 HQ.out.2.1 H8.out.1) hb
                have bqj := H8.out.2.below hb wlt8
                have LK : (str (putX (l.map Tb.pt) (r.map Ix.px) i ++ hdZ q.px k)).size ≤ 9000 := by
                  have h1 := HS0.out.2
                  rw [← HS0.out.1, str_size] at h1
                  have h2 := hdZ_len HQ.out.2.2.2.1 k
                  rw [str_size, List.length_append]; omega
                obtain ⟨v0, hv0⟩ : ∃ s, str (putX (l.map Tb.pt) (r.map Ix.px) i ++ hdZ q.px k) = s := ⟨_, rfl⟩
                rw [hv0] at LK ⊢
                clear t6
                by_cases hkn : k < q.m
                · have r1 : (k : Int) < (q.m : Int) := by omega
                  have t6 : wj.cell? ⟨wo.heap.size, 6, none⟩ = some (.slice q.B q.m q.e) := bqj.cell 6
                  obtain ⟨ad2, z, hA2, hab2, hz, f0⟩ := (HQ.out.2.2.2.2.1.2.2.1.below bwj).i64_ hkn
                  have hzb : num31 z = true := by
                    have h1 := HQ.out.2.2.2.1.2.2.2.2.2.2.1
                    have hml : q.tb.toNat < (l.map Tb.pt).length := by rw [HC.out.2.1]; have := HQ.out.2.2.2.1.2.2.1; change q.tb < ((l.map Tb.pt).length : Int) at this; rw [HC.out.2.1] at this; omega
                    exact (h1 _ (List.getElem?_eq_getElem hml) k (q.cs[k]'(by rw [HQ.out.2.2.2.2.2.1]; have := HQ.out.2.2.2.1.2.2.2.2.2.1; change q.ds.length = q.cs.length at this; rw [HQ.out.2.2.2.2.2.1, HQ.out.2.2.2.2.2.2] at this; omega)) z (List.getElem?_eq_getElem _) hz).2
                  rw [hA2] at t6
                  clear hA2
                  have CZ : Hid (∀ W : World, Calls Try.prog 36 #[.int .i64 z] W (RetB W (.string (str (fourB z))))) := Lib.hid fun W => four_any z hzb W
                  have x1 : (str (fourB z)).size ≤ 20000 := str_le (by rw [four_len]; omega)
                  have hE : v0 ++ str (fourB z) = str (putX (l.map Tb.pt) (r.map Ix.px) i ++ hdZ q.px (k + 1)) := by
                    have h1 : hdZ q.px (k + 1) = hdZ q.px k ++ fourB z := by
                      unfold hdZ
                      rw [flat_take12 fourB (show q.px.ds[k]? = some z from hz)]
                      simp only [List.append_assoc]
                    rw [← hv0, str_append12, h1, List.append_assoc]
                  obtain ⟨v1, hv1⟩ : ∃ s, str (fourB z) = s := ⟨_, rfl⟩
                  rw [hv1] at CZ
                  rw [hv1] at x1
                  rw [hv1] at hE
                  have y1 : ¬ 9223372036854775807 < v0.size + v1.size := by omega
                  have HE2 := Lib.hid hE
                  have HI2 := Lib.hid hb
                  clear hE hv0 hv1 x1 LK hz hzb hb bqj
                  go_wp2_with fail
                  refine (CZ.out _).mono ?_
                  rintro e w9 ⟨rfl, hb9⟩
                  go_wp2
                  exact ⟨⟨k + 1, by omega, by rw [HE2.out], by go_num, bto0 HI2.out hb9⟩, by simp [intOf]; omega⟩
                · obtain rfl : k = q.m := by omega
                  have hE : v0 = str (putX (l.map Tb.pt) (r.map Ix.px) (i + 1)) := by
                    have h1 : putX (l.map Tb.pt) (r.map Ix.px) (i + 1) = putX (l.map Tb.pt) (r.map Ix.px) i ++ idxB q.px := by
                      unfold putX
                      rw [flat_take12 idxB HQ.out.1]
                      simp only [List.append_assoc]
                    have h2 : hdZ q.px q.m = idxB q.px := by
                      unfold hdZ hdX idxB
                      rw [List.take_of_length_le (Nat.le_refl q.px.cs.length), List.take_of_length_le (l := q.px.ds) (by show q.ds.length ≤ q.m; rw [HQ.out.2.2.2.2.2.2]; exact Nat.le_refl _)]
                    rw [← hv0, h1, h2]
                  have HE3 := Lib.hid hE
                  have bo9 := bto0 H8.out.1 hb
                  have H9 := Lib.hid (And.intro (bto0 HQ.out.2.1 bo9) (HQ.out.2.2.1.below bo9 blt))
                  clear hE hv0 LK bqj bo9
                  go_wp2
                  exact ⟨⟨i + 1, by omega, by rw [HE3.out], by go_num, H9.out.1, H9.out.2⟩, by simp [intOf]; omega⟩
        · obtain rfl : m = i := by omega
          have hE : putX (l.map Tb.pt) (r.map Ix.px) m = bookB (pbk l r) := by
            unfold putX bookB putL pbk
            rw [List.take_of_length_le (Nat.le_refl _), List.take_of_length_le (by rw [HC.out.2.2.1]; exact Nat.le_refl _)]
          have HE3 := Lib.hid hE
          have HB3 := Lib.hid hb
          clear hE hb hbk
          go_wp2
          go_ret
          exact ⟨by rw [← HE3.out]; rfl, HB3.out⟩
end
end Go.Proofs.Ytjlpfhioacphkaa
/-
  The program's words on lists: all, fits, below, differ.
-/
namespace Go.Proofs.Ytjlpfhioacphkaa
section
set_option linter.unusedSimpArgs false
set_option linter.unusedVariables false
open Go.RowKit

def vS (l : List ByteArray) : List Value := l.map Value.string
theorem vS_len (l : List ByteArray) : (vS l).length = l.length := by simp [vS]
theorem Reads.str_ {w : World} {B n k : Nat} {A : Option Addr} {l : List ByteArray} (h : Reads w B 1 A n (vS l)) (hk : k < n) : ∃ ad x, A = some ad ∧ ad.block < B ∧ l[k]? = some x ∧ w.cell? (ad.add k) = some (.string x) := by
  obtain ⟨ad, u, hA, hb, hu, hc⟩ := h.at_ hk
  unfold vS at hu
  rw [List.getElem?_map] at hu
  cases hx : l[k]? with
  | none => rw [hx] at hu; cases hu
  | some x => rw [hx] at hu; cases hu; exact ⟨ad, x, hA, hb, rfl, hc⟩
/-- No two12 of a list are the same. -/
def Apart {α : Type} (l : List α) (n : Nat) : Prop := ∀ i, i < n → ∀ a, l[i]? = some a → ∀ k, k < i → ∀ b, l[k]? = some b → b ≠ a
theorem mem_take {α : Type} {l : List α} {i : Nat} {a : α} : a ∈ l.take i ↔ ∃ k, k < i ∧ l[k]? = some a := by
  constructor
  · intro h
    obtain ⟨k, hk, he⟩ := List.mem_iff_getElem.1 h
    rw [List.length_take] at hk
    refine ⟨k, by omega, ?_⟩
    rw [List.getElem_take] at he
    rw [List.getElem?_eq_getElem (by omega), he]
  · rintro ⟨k, hk, he⟩
    obtain ⟨h1, h2⟩ := List.getElem?_eq_some_iff.1 he
    rw [List.mem_iff_getElem]
    exact ⟨k, by rw [List.length_take]; omega, by rw [List.getElem_take]; exact h2⟩
theorem fits_any (z : Int) (w : World) : Calls Try.prog 73 #[.int .i64 z] w fun e w' => e = .returned (.bool (num31 z)) ∧ w = w' := by
  unfold num31
  by_cases h0 : 0 ≤ z
  · by_cases h1 : z < 2147483648
    · have h2 : z ≤ 2147483647 := by omega
      rw [decide_eq_true h0, decide_eq_true h1]
      go_enter Try.func73, Try.ntmps73
      go_wp2
      go_ret
      exact ⟨by simp [h2], rfl⟩
    · have h2 : ¬ z ≤ 2147483647 := by omega
      rw [decide_eq_true h0, decide_eq_false h1]
      go_enter Try.func73, Try.ntmps73
      go_wp2
      go_ret
      exact ⟨by simp [h2], rfl⟩
  · rw [decide_eq_false h0]
    go_enter Try.func73, Try.ntmps73
    go_wp2
    go_ret
    exact ⟨by simp, rfl⟩
def lowB (n : Nat) (z : Int) : Bool := decide (0 ≤ z) && decide (z < (n : Int))
theorem below_any (n g : Nat) (z : Int) (w : World) (hc : w.cell? ⟨g, 0, none⟩ = some (.int .i64 (n : Int))) : Calls Try.prog 84 #[.int .i64 z, .pointer (some ⟨g, 0, none⟩)] w fun e w' => e = .returned (.bool (lowB n z)) ∧ w = w' := by
  unfold lowB
  by_cases h0 : 0 ≤ z
  · by_cases h1 : z < (n : Int)
    · rw [decide_eq_true h0, decide_eq_true h1]
      go_enter Try.func84, Try.ntmps84
      go_wp2
      go_ret
      exact ⟨by simp [h1], rfl⟩
    · rw [decide_eq_true h0, decide_eq_false h1]
      go_enter Try.func84, Try.ntmps84
      go_wp2
      go_ret
      exact ⟨by simp [h1], rfl⟩
  · rw [decide_eq_false h0]
    go_enter Try.func84, Try.ntmps84
    go_wp2
    go_ret
    exact ⟨by simp, rfl⟩
/-- The test that is made, and where its number lies. -/
theorem mk_below (n : Nat) (w : World) : Calls Try.prog 75 #[.int .i64 (n : Int)] w fun e w' => e = .returned (.func (.func 84) #[] #[.pointer (some ⟨w.heap.size, 0, none⟩)]) ∧ w' = w.alloc (.cells #[.int .i64 (n : Int)] 3) := by
  have hmf : ∀ (fn : Fn) (first cap : Array Value) (w : World), (Instr.makeFunc fn first cap).run Try.prog w = .ok (.func fn first cap) w := fun _ _ _ _ => rfl
  go_enter Try.func75, Try.ntmps75
  go_wp2
  go_ret
  exact ⟨rfl, rfl⟩
set_option maxHeartbeats 1000000 in
theorem allF_any (A : Option Addr) (n c : Nat) (l : List Int) (w : World) (hl : Reads w w.heap.size 1 A n (vI64 l)) (hn : n ≤ maxLen) :
    Calls Try.prog 72 #[.func (.func 73) #[] #[], .slice A n c] w (RetM w (∀ x ∈ l, num31 x = true)) := by
  have hln : l.length = n := by have := hl.1; rw [vI64_len] at this; omega
  unfold maxLen at hn
  have nI : (n : Int) ≤ 9223372036854775807 := by omega
  have TT : Hid (∀ x W, Below w.heap.size w W → Calls Try.prog 73 #[.int .i64 x] W fun e w' => e = .returned (.bool (num31 x)) ∧ W = w') := Lib.hid fun x W hW => fits_any x W
  have HC := Lib.hid (And.intro hl hln)
  clear hl hln hn
  go_enter Try.func72, Try.ntmps72
  go_wp2
  go_loopw [9] (fun v wr => ∃ i : Nat, i ≤ n ∧ v = .int .i64 i ∧ Below w.heap.size w wr ∧ ∀ x ∈ l.take i, num31 x = true) (fun v _ => n - (intOf v).toNat)
  case atStart => exact ⟨0, by omega, rfl, Below.refl _ _, fun x hx => by simp at hx⟩
  case round =>
    obtain ⟨i, hi, rfl, hb, hg'⟩ := hrel
    have q0 : (0 : Int) ≤ (i : Int) := by omega
    by_cases hlt : i < n
    · have q1 : (i : Int) < (n : Int) := by omega
      obtain ⟨ad, x, hA, hab, hx, f0⟩ := (HC.out.1.below hb).i64_ hlt
      subst hA
      have TX := Lib.hid (TT.out x _ hb)
      obtain ⟨b, hbe⟩ : ∃ b, num31 x = b := ⟨_, rfl⟩
      rw [hbe] at TX
      have HG := Lib.hid (And.intro hx (And.intro hb (And.intro hg' hbe)))
      clear hx hb hg' hbe
      cases b with
      | false =>
        go_wp2_with (first | (go_at_call 73; (with_reducible refine TX.out.mono ?_); rintro e w' ⟨rfl, rfl⟩))
        go_ret
        exact ⟨false, rfl, ⟨fun h => (by cases h), fun h => (by have h1 := h x (List.mem_of_getElem? HG.out.1); rw [HG.out.2.2.2] at h1; cases h1)⟩, HG.out.2.1⟩
      | true =>
        go_wp2_with (first | (go_at_call 73; (with_reducible refine TX.out.mono ?_); rintro e w' ⟨rfl, rfl⟩))
        exact ⟨⟨i + 1, by omega, by go_num, HG.out.2.1, fun y hy => by
          rw [List.take_add_one, HG.out.1] at hy
          rcases List.mem_append.1 hy with h1 | h1
          · exact HG.out.2.2.1 y h1
          · simp at h1
            rw [h1]
            exact HG.out.2.2.2⟩, by simp [intOf]; omega⟩
    · obtain rfl : i = n := by omega
      have HL : Hid (∀ x ∈ l, num31 x = true) := Lib.hid fun x hx => hg' x (by rw [List.take_of_length_le (by have := HC.out.2; omega)]; exact hx)
      clear hg'
      go_wp2
      go_ret
      exact ⟨true, rfl, ⟨fun _ => HL.out, fun _ => rfl⟩, hb⟩
set_option maxHeartbeats 1000000 in
theorem allB_any (A : Option Addr) (n c : Nat) (l : List Int) (w : World) (hl : Reads w w.heap.size 1 A n (vI64 l)) (hn : n ≤ maxLen) (N g : Nat) (hg : w.cell? ⟨g, 0, none⟩ = some (.int .i64 (N : Int))) (hgl : g < w.heap.size) :
    Calls Try.prog 72 #[.func (.func 84) #[] #[.pointer (some ⟨g, 0, none⟩)], .slice A n c] w (RetM w (∀ x ∈ l, lowB N x = true)) := by
  have hln : l.length = n := by have := hl.1; rw [vI64_len] at this; omega
  unfold maxLen at hn
  have nI : (n : Int) ≤ 9223372036854775807 := by omega
  have TT : Hid (∀ x W, Below w.heap.size w W → Calls Try.prog 84 #[.int .i64 x, .pointer (some ⟨g, 0, none⟩)] W fun e w' => e = .returned (.bool (lowB N x)) ∧ W = w') := Lib.hid fun x W hW => below_any N g x W ((hW.cell (p := ⟨g, 0, none⟩) hgl).trans hg)
  have HC := Lib.hid (And.intro hl hln)
  clear hl hln hn hg hgl
  go_enter Try.func72, Try.ntmps72
  go_wp2
  go_loopw [9] (fun v wr => ∃ i : Nat, i ≤ n ∧ v = .int .i64 i ∧ Below w.heap.size w wr ∧ ∀ x ∈ l.take i, lowB N x = true) (fun v _ => n - (intOf v).toNat)
  case atStart => exact ⟨0, by omega, rfl, Below.refl _ _, fun x hx => by simp at hx⟩
  case round =>
    obtain ⟨i, hi, rfl, hb, hg'⟩ := hrel
    have q0 : (0 : Int) ≤ (i : Int) := by omega
    by_cases hlt : i < n
    · have q1 : (i : Int) < (n : Int) := by omega
      obtain ⟨ad, x, hA, hab, hx, f0⟩ := (HC.out.1.below hb).i64_ hlt
      subst hA
      have TX := Lib.hid (TT.out x _ hb)
      obtain ⟨b, hbe⟩ : ∃ b, lowB N x = b := ⟨_, rfl⟩
      rw [hbe] at TX
      have HG := Lib.hid (And.intro hx (And.intro hb (And.intro hg' hbe)))
      clear hx hb hg' hbe
      cases b with
      | false =>
        go_wp2_with (first | (go_at_call 84; (with_reducible refine TX.out.mono ?_); rintro e w' ⟨rfl, rfl⟩))
        go_ret
        exact ⟨false, rfl, ⟨fun h => (by cases h), fun h => (by have h1 := h x (List.mem_of_getElem? HG.out.1); rw [HG.out.2.2.2] at h1; cases h1)⟩, HG.out.2.1⟩
      | true =>
        go_wp2_with (first | (go_at_call 84; (with_reducible refine TX.out.mono ?_); rintro e w' ⟨rfl, rfl⟩))
        exact ⟨⟨i + 1, by omega, by go_num, HG.out.2.1, fun y hy => by
          rw [List.take_add_one, HG.out.1] at hy
          rcases List.mem_append.1 hy with h1 | h1
          · exact HG.out.2.2.1 y h1
          · simp at h1
            rw [h1]
            exact HG.out.2.2.2⟩, by simp [intOf]; omega⟩
    · obtain rfl : i = n := by omega
      have HL : Hid (∀ x ∈ l, lowB N x = true) := Lib.hid fun x hx => hg' x (by rw [List.take_of_length_le (by have := HC.out.2; omega)]; exact hx)
      clear hg'
      go_wp2
      go_ret
      exact ⟨true, rfl, ⟨fun _ => HL.out, fun _ => rfl⟩, hb⟩
set_option maxHeartbeats 1000000 in
theorem idxS_any (A : Option Addr) (n c : Nat) (l : List ByteArray) (x : ByteArray) (w : World) (hl : Reads w w.heap.size 1 A n (vS l)) (hn : n ≤ maxLen) :
    Calls Try.prog 83 #[.slice A n c, .string x] w fun e w' => ∃ z : Int, e = .returned (.int .i64 z) ∧ (0 ≤ z ↔ x ∈ l) ∧ w = w' := by
  have hln : l.length = n := by have := hl.1; rw [vS_len] at this; omega
  unfold maxLen at hn
  have nI : (n : Int) ≤ 9223372036854775807 := by omega
  have HC := Lib.hid (And.intro hl hln)
  clear hl hln hn
  go_enter Try.func83, Try.ntmps83
  go_wp2
  go_loop [8] (fun v => ∃ i : Nat, i ≤ n ∧ v = .int .i64 i ∧ x ∉ l.take i) (fun v => n - (intOf v).toNat)
  case atStart => exact ⟨0, by omega, rfl, by simp⟩
  case round =>
    obtain ⟨i, hi, rfl, hg⟩ := hrel
    have q0 : (0 : Int) ≤ (i : Int) := by omega
    by_cases hlt : i < n
    · have q1 : (i : Int) < (n : Int) := by omega
      obtain ⟨ad, y, hA, hab, hy, f0⟩ := HC.out.1.str_ hlt
      subst hA
      obtain ⟨b, he, hbe⟩ : ∃ b : Bool, (x.toList == y.toList) = b ∧ (b = true ↔ x = y) := by
        rcases nm_cases2 x y with ⟨h1, h2⟩ | ⟨h1, h2⟩
        · exact ⟨true, h2, fun _ => nm_bytes _ _ (by rw [ByteArray.toList_eq, ByteArray.toList_eq]; exact h1), fun _ => rfl⟩
        · exact ⟨false, h2, fun h => (by cases h), fun h => absurd (by rw [h]) h1⟩
      have HG := Lib.hid (And.intro hy (And.intro hg hbe))
      clear hy hg hbe
      cases b with
      | true =>
        go_wp2
        go_ret
        exact ⟨i, rfl, ⟨fun _ => by rw [HG.out.2.2.1 (by first | rfl | trivial)]; exact List.mem_of_getElem? HG.out.1, fun _ => by omega⟩, rfl⟩
      | false =>
        go_wp2
        go_round
        case rel => exact ⟨i + 1, by omega, by go_num, fun h => by
          rw [List.take_add_one, HG.out.1] at h
          rcases List.mem_append.1 h with h1 | h1
          · exact HG.out.2.1 h1
          · simp at h1
            have := HG.out.2.2.2 h1
            cases this⟩
        case measure => simp [intOf]; omega
    · obtain rfl : i = n := by omega
      have HL : Hid (x ∉ l) := Lib.hid fun hx => hg (by rw [List.take_of_length_le (by have := HC.out.2; omega)]; exact hx)
      clear hg
      go_wp2
      go_ret
      exact ⟨-1, rfl, ⟨fun h => by omega, fun h => absurd h HL.out⟩, rfl⟩
theorem hasS_any (A : Option Addr) (n c : Nat) (l : List ByteArray) (x : ByteArray) (w : World) (hl : Reads w w.heap.size 1 A n (vS l)) (hn : n ≤ maxLen) :
    Calls Try.prog 74 #[.slice A n c, .string x] w fun e w' => ∃ b : Bool, e = .returned (.bool b) ∧ (b = true ↔ x ∈ l) ∧ w = w' := by
  have IX := Lib.hid (idxS_any A n c l x w hl hn)
  clear hl hn
  go_enter Try.func74, Try.ntmps74
  go_wp2_with fail
  refine IX.out.mono ?_
  rintro e w1 ⟨z, rfl, hz, rfl⟩
  go_wp2
  go_ret
  exact ⟨_, rfl, (by first | (simp; done) | (simp; exact hz)), rfl⟩
set_option maxHeartbeats 1000000 in
theorem differS_any (A : Option Addr) (n c : Nat) (l : List ByteArray) (w : World) (hl : Reads w w.heap.size 1 A n (vS l)) (hn : n ≤ maxLen) (hnc : n ≤ c) :
    Calls Try.prog 60 #[.slice A n c] w (RetM w (Apart l n)) := by
  have hln : l.length = n := by have := hl.1; rw [vS_len] at this; omega
  have hn2 := hn
  unfold maxLen at hn
  have nI : (n : Int) ≤ 9223372036854775807 := by omega
  have ncI : (n : Int) ≤ (c : Int) := by omega
  have HC := Lib.hid (And.intro hl (And.intro hln (And.intro hnc hn2)))
  clear hl hln hn hnc hn2
  go_enter Try.func60, Try.ntmps60
  go_wp2
  go_loopw [7] (fun v wr => ∃ i : Nat, i ≤ n ∧ v = .int .i64 i ∧ Below w.heap.size w wr ∧ Apart l i) (fun v _ => n - (intOf v).toNat)
  case atStart => exact ⟨0, by omega, rfl, Below.refl _ _, fun i hi => by omega⟩
  case round =>
    obtain ⟨i, hi, rfl, hb, hg⟩ := hrel
    have q0 : (0 : Int) ≤ (i : Int) := by omega
    by_cases hlt : i < n
    · have q1 : (i : Int) < (n : Int) := by omega
      have q2 : (i : Int) ≤ (c : Int) := by omega
      obtain ⟨ad, x, hA, hab, hx, f0⟩ := (HC.out.1.below hb).str_ hlt
      subst hA
      have CT := Lib.hid (hasS_any (some ad) i c (l.take i) x _ (by
        have h := ((HC.out.1.below hb).more hb.size).takec i (by omega)
        rwa [Nat.mul_one, show (vS l).take i = vS (l.take i) from by unfold vS; rw [List.map_take]] at h) (by have := HC.out.2.2.2; omega))
      have HG := Lib.hid (And.intro hx (And.intro hb hg))
      clear hx hb hg
      go_wp2_with fail
      refine CT.out.mono ?_
      rintro e w1 ⟨b, rfl, hbi, rfl⟩
      have HBI := Lib.hid hbi
      clear hbi
      cases b with
      | true =>
        go_wp2
        go_ret
        exact ⟨false, rfl, ⟨fun h => (by cases h), fun h => (by
          obtain ⟨k, hk, he⟩ := mem_take.1 (HBI.out.1 (by first | rfl | trivial))
          exact absurd rfl (h i hlt x HG.out.1 k hk x he))⟩, HG.out.2.1⟩
      | false =>
        go_wp2
        exact ⟨⟨i + 1, by omega, by go_num, HG.out.2.1, fun j hj a ha k hk b hbk => by
          by_cases hji : j < i
          · exact HG.out.2.2 j hji a ha k hk b hbk
          · obtain rfl : j = i := by omega
            rw [HG.out.1] at ha
            cases ha
            intro hba
            subst hba
            have := HBI.out.2 (mem_take.2 ⟨k, hk, hbk⟩)
            cases this⟩, by simp [intOf]; omega⟩
    · obtain rfl : i = n := by omega
      have HG := Lib.hid hg
      clear hg
      go_wp2
      go_ret
      exact ⟨true, rfl, ⟨fun _ => HG.out, fun _ => rfl⟩, hb⟩
set_option maxHeartbeats 1000000 in
theorem idxI_any (A : Option Addr) (n c : Nat) (l : List Int) (x : Int) (w : World) (hl : Reads w w.heap.size 1 A n (vI64 l)) (hn : n ≤ maxLen) :
    Calls Try.prog 87 #[.slice A n c, .int .i64 x] w fun e w' => ∃ z : Int, e = .returned (.int .i64 z) ∧ (0 ≤ z ↔ x ∈ l) ∧ w = w' := by
  have hln : l.length = n := by have := hl.1; rw [vI64_len] at this; omega
  unfold maxLen at hn
  have nI : (n : Int) ≤ 9223372036854775807 := by omega
  have HC := Lib.hid (And.intro hl hln)
  clear hl hln hn
  go_enter Try.func87, Try.ntmps87
  go_wp2
  go_loop [8] (fun v => ∃ i : Nat, i ≤ n ∧ v = .int .i64 i ∧ x ∉ l.take i) (fun v => n - (intOf v).toNat)
  case atStart => exact ⟨0, by omega, rfl, by simp⟩
  case round =>
    obtain ⟨i, hi, rfl, hg⟩ := hrel
    have q0 : (0 : Int) ≤ (i : Int) := by omega
    by_cases hlt : i < n
    · have q1 : (i : Int) < (n : Int) := by omega
      obtain ⟨ad, y, hA, hab, hy, f0⟩ := HC.out.1.i64_ hlt
      subst hA
      obtain ⟨b, he, hbe⟩ : ∃ b : Bool, (x == y) = b ∧ (b = true ↔ x = y) := by
        exact ⟨_, rfl, by simp⟩
      have HG := Lib.hid (And.intro hy (And.intro hg hbe))
      clear hy hg hbe
      cases b with
      | true =>
        go_wp2
        go_ret
        exact ⟨i, rfl, ⟨fun _ => by rw [HG.out.2.2.1 (by first | rfl | trivial)]; exact List.mem_of_getElem? HG.out.1, fun _ => by omega⟩, rfl⟩
      | false =>
        go_wp2
        go_round
        case rel => exact ⟨i + 1, by omega, by go_num, fun h => by
          rw [List.take_add_one, HG.out.1] at h
          rcases List.mem_append.1 h with h1 | h1
          · exact HG.out.2.1 h1
          · simp at h1
            have := HG.out.2.2.2 h1
            cases this⟩
        case measure => simp [intOf]; omega
    · obtain rfl : i = n := by omega
      have HL : Hid (x ∉ l) := Lib.hid fun hx => hg (by rw [List.take_of_length_le (by have := HC.out.2; omega)]; exact hx)
      clear hg
      go_wp2
      go_ret
      exact ⟨-1, rfl, ⟨fun h => by omega, fun h => absurd h HL.out⟩, rfl⟩
theorem hasI_any (A : Option Addr) (n c : Nat) (l : List Int) (x : Int) (w : World) (hl : Reads w w.heap.size 1 A n (vI64 l)) (hn : n ≤ maxLen) :
    Calls Try.prog 85 #[.slice A n c, .int .i64 x] w fun e w' => ∃ b : Bool, e = .returned (.bool b) ∧ (b = true ↔ x ∈ l) ∧ w = w' := by
  have IX := Lib.hid (idxI_any A n c l x w hl hn)
  clear hl hn
  go_enter Try.func85, Try.ntmps85
  go_wp2_with fail
  refine IX.out.mono ?_
  rintro e w1 ⟨z, rfl, hz, rfl⟩
  go_wp2
  go_ret
  exact ⟨_, rfl, (by first | (simp; done) | (simp; exact hz)), rfl⟩
set_option maxHeartbeats 1000000 in
theorem differI_any (A : Option Addr) (n c : Nat) (l : List Int) (w : World) (hl : Reads w w.heap.size 1 A n (vI64 l)) (hn : n ≤ maxLen) (hnc : n ≤ c) :
    Calls Try.prog 76 #[.slice A n c] w (RetM w (Apart l n)) := by
  have hln : l.length = n := by have := hl.1; rw [vI64_len] at this; omega
  have hn2 := hn
  unfold maxLen at hn
  have nI : (n : Int) ≤ 9223372036854775807 := by omega
  have ncI : (n : Int) ≤ (c : Int) := by omega
  have HC := Lib.hid (And.intro hl (And.intro hln (And.intro hnc hn2)))
  clear hl hln hn hnc hn2
  go_enter Try.func76, Try.ntmps76
  go_wp2
  go_loopw [7] (fun v wr => ∃ i : Nat, i ≤ n ∧ v = .int .i64 i ∧ Below w.heap.size w wr ∧ Apart l i) (fun v _ => n - (intOf v).toNat)
  case atStart => exact ⟨0, by omega, rfl, Below.refl _ _, fun i hi => by omega⟩
  case round =>
    obtain ⟨i, hi, rfl, hb, hg⟩ := hrel
    have q0 : (0 : Int) ≤ (i : Int) := by omega
    by_cases hlt : i < n
    · have q1 : (i : Int) < (n : Int) := by omega
      have q2 : (i : Int) ≤ (c : Int) := by omega
      obtain ⟨ad, x, hA, hab, hx, f0⟩ := (HC.out.1.below hb).i64_ hlt
      subst hA
      have CT := Lib.hid (hasI_any (some ad) i c (l.take i) x _ (by
        have h := ((HC.out.1.below hb).more hb.size).takec i (by omega)
        rwa [Nat.mul_one, show (vI64 l).take i = vI64 (l.take i) from by unfold vI64; rw [List.map_take]] at h) (by have := HC.out.2.2.2; omega))
      have HG := Lib.hid (And.intro hx (And.intro hb hg))
      clear hx hb hg
      go_wp2_with fail
      refine CT.out.mono ?_
      rintro e w1 ⟨b, rfl, hbi, rfl⟩
      have HBI := Lib.hid hbi
      clear hbi
      cases b with
      | true =>
        go_wp2
        go_ret
        exact ⟨false, rfl, ⟨fun h => (by cases h), fun h => (by
          obtain ⟨k, hk, he⟩ := mem_take.1 (HBI.out.1 (by first | rfl | trivial))
          exact absurd rfl (h i hlt x HG.out.1 k hk x he))⟩, HG.out.2.1⟩
      | false =>
        go_wp2
        exact ⟨⟨i + 1, by omega, by go_num, HG.out.2.1, fun j hj a ha k hk b hbk => by
          by_cases hji : j < i
          · exact HG.out.2.2 j hji a ha k hk b hbk
          · obtain rfl : j = i := by omega
            rw [HG.out.1] at ha
            cases ha
            intro hba
            subst hba
            have := HBI.out.2 (mem_take.2 ⟨k, hk, hbk⟩)
            cases this⟩, by simp [intOf]; omega⟩
    · obtain rfl : i = n := by omega
      have HG := Lib.hid hg
      clear hg
      go_wp2
      go_ret
      exact ⟨true, rfl, ⟨fun _ => HG.out, fun _ => rfl⟩, hb⟩
end
end Go.Proofs.Ytjlpfhioacphkaa
/-
  Names that are gathered; the program's mayTable.
-/
namespace Go.Proofs.Ytjlpfhioacphkaa
section
set_option linter.unusedSimpArgs false
set_option linter.unusedVariables false
open Go.RowKit

theorem ball0 {B base : Nat} {w0 w : World} (h : Below B w0 w) (hB : B ≤ base) (hbase : base ≤ w.heap.size) {o : Obj} : Below B w0 (w.alloc o) := h.alloc (by omega) o
theorem Try.infoS12 : (Try.prog.info? 9).map (fun i => (i.zero, i.size, i.bytes)) = some (some (.string ⟨#[]⟩), 1, 16) := by kernel_rfl
def OwnS (w : World) (base : Nat) (v : Value) (l : List ByteArray) : Prop := w.ownsRow base 9 1 v l.length (vS l)
structure KeepS (base : Nat) (w w' : World) : Prop where
  below : ∀ B w0, B ≤ base → Below B w0 w → Below B w0 w'
  blk : ∀ g t cs, t ≠ 9 → Blk w g t cs → Blk w' g t cs
  size : w.heap.size ≤ w'.heap.size
theorem OwnS.nil (w : World) (base : Nat) : OwnS w base (.slice none 0 0) [] := ⟨rfl, .inl ⟨rfl, rfl⟩⟩
theorem OwnS.alloc {w : World} {base : Nat} {v : Value} {l : List ByteArray} (h : OwnS w base v l) (o : Obj) : OwnS (w.alloc o) base v l := World.ownsRow.alloc h o
theorem OwnS.below {w w' : World} {base : Nat} {v : Value} {l : List ByteArray} (h : OwnS w base v l) (hb : Below w.heap.size w w') : OwnS w' base v l :=
  World.ownsRow.kept h (row := none) ⟨hb.os, hb.tape, hb.output, hb.size, fun i hi _ => hb.block i hi⟩ (by cases h' : v.ownBlock <;> simp)
theorem OwnS.form {w : World} {base : Nat} {v : Value} {l : List ByteArray} (h : OwnS w base v l) : ∃ A c, v = .slice A l.length c ∧ l.length ≤ c := own_form h
theorem OwnS.reads {w : World} {base : Nat} {A : Option Addr} {n c : Nat} {l : List ByteArray} (h : OwnS w base (.slice A n c) l) : Reads w w.heap.size 1 A n (vS l) ∧ n = l.length := by
  obtain ⟨A', c', e, _⟩ := h.form
  injection e with e1 e2 e3
  subst e1; subst e2; subst e3
  exact ⟨Reads.of_own h, rfl⟩
section
variable {ops : Array Oper} {rest : List Oper} {o : Oper} {a : Act} {Q : Exit → Act → World → Prop} {w : World}
/-- append(names, name). -/
theorem wpList_pushN (hgd : o.guard = none) (s x : Operand) (ho : o.op = .call { callee := .builtin .append, args := #[s, x], argTypes := #[44, 44] })
    (base : Nat) (v : Value) (l : List ByteArray) (b : ByteArray) (hs : a.eval s = v) (hown : OwnS w base v l)
    (g : Nat) (hx : a.eval x = .slice (some ⟨g, 0, none⟩) 1 1) (hg : g = w.heap.size) (h63 : l.length + 1 ≤ 1000000000) (hbase : base ≤ w.heap.size)
    (h : ∀ v' w', OwnS w' base v' (l ++ [b]) → KeepS base w w' → wpList Try.prog ops Q rest (a.put o.dst v') w') : wpList Try.prog ops Q (o :: rest) a (w.alloc (.cells #[.string b] 9)) := by
  subst hg
  obtain ⟨i0, hi0, hz0, hs0, hy0⟩ := int_info8 Try.infoS12
  have hr : Reads (w.alloc (.cells #[.string b] 9)) (w.heap.size + 1) 1 (some ⟨w.heap.size, 0, none⟩) 1 [.string b] := reads_new w _ _ rfl rfl
  refine wpList_append_any _ hgd s x 44 ho base 9 i0 (.string ⟨#[]⟩) 1 16 Try.underlying44 hi0 hz0 hs0 hy0 rfl (by decide) v l.length (vS l) hs (hown.alloc _) _ _ 1 1 [.string b] hx hr (by intro y hy; rw [List.mem_singleton] at hy; subst hy; rfl) (by unfold maxLen; omega) (by omega) (by simp; omega) ?_
  intro v' w' hown' hk _
  refine h v' w' ?_ ⟨fun B w0 hB hb => bgrow (ball0 hb hB hbase) hk (hown.alloc _) hB (by simp; omega), fun g t cs ht hb => (hb.alloc (.cells #[.string b] 9)).grown hk (fun e => own_blk_ne (hown.alloc (.cells #[.string b] 9)) (hb.alloc (.cells #[.string b] 9)) (fun e' => ht e'.symm) e.symm), Nat.le_trans (by simp) hk.size⟩
  unfold OwnS
  have e1 : (l ++ [b]).length = l.length + 1 := by simp
  have e2 : vS (l ++ [b]) = vS l ++ [.string b] := by simp [vS]
  rw [e1, e2]
  exact hown'
end
theorem name2_any (s : ByteArray) (hs : s.size ≤ maxLen) (w : World) : Calls Try.prog 19 #[.string s] w fun e w' => e = .returned (.bool (nameB s.data.toList)) ∧ w = w' := by
  by_cases h : s.size ≤ 1000000
  · exact name_any s h w
  · have hN : Hid (nameB s.data.toList = false) := Lib.hid (nameB_long _ (by rw [szL]; omega))
    have g24 : (24 : Int) < (s.size : Int) := by omega
    have g1 : (1 : Int) ≤ (s.size : Int) := by omega
    unfold maxLen at hs
    have hsI : (s.size : Int) ≤ 9223372036854775807 := by omega
    clear h hs
    go_enter Try.func19, Try.ntmps19
    go_wp2
    go_ret
    exact ⟨by rw [hN.out]; rfl, rfl⟩
theorem all2_any (d u : Int) (W : World) (g : Nat) (hg : g = W.heap.size) : Calls Try.prog 72 #[.func (.func 73) #[] #[], .slice (some ⟨g, 0, none⟩) 2 2] (W.alloc (.cells #[.int .i64 d, .int .i64 u] 3)) (RetM W (num31 d = true ∧ num31 u = true)) := by
  have h := allF_any (some ⟨g, 0, none⟩) 2 2 [d, u] (W.alloc (.cells #[.int .i64 d, .int .i64 u] 3)) ((reads_at W #[.int .i64 d, .int .i64 u] 3 hg rfl rfl).more (by simp; omega)) (by decide)
  refine h.mono ?_
  rintro e w' ⟨b, rfl, hb, hbw⟩
  exact ⟨b, rfl, by rw [hb]; simp, bto0 (ball (Below.refl _ _) _) hbw⟩
theorem all3_any (d u v : Int) (W : World) (g : Nat) (hg : g = W.heap.size) : Calls Try.prog 72 #[.func (.func 73) #[] #[], .slice (some ⟨g, 0, none⟩) 3 3] (W.alloc (.cells #[.int .i64 d, .int .i64 u, .int .i64 v] 3)) (RetM W (num31 d = true ∧ num31 u = true ∧ num31 v = true)) := by
  have h := allF_any (some ⟨g, 0, none⟩) 3 3 [d, u, v] (W.alloc (.cells #[.int .i64 d, .int .i64 u, .int .i64 v] 3)) ((reads_at W #[.int .i64 d, .int .i64 u, .int .i64 v] 3 hg rfl rfl).more (by simp; omega)) (by decide)
  refine h.mono ?_
  rintro e w' ⟨b, rfl, hb, hbw⟩
  exact ⟨b, rfl, by rw [hb]; simp, bto0 (ball (Below.refl _ _) _) hbw⟩
/-- All good, and no two12 of one name: the same as Good. -/
theorem good_of {α : Type} {ok : α → Prop} {nm : α → List UInt8} {l : List α} {ns : List ByteArray} (hns : ns.map (fun s => s.data.toList) = l.map nm) (h : ∀ i, i < l.length → ∀ c, l[i]? = some c → ok c) (hd : Apart ns ns.length) : Good ok nm l l.length := by
  have hlen : ns.length = l.length := by have := congrArg List.length hns; simpa using this
  have hat : ∀ (k : Nat) (c : α) (s : ByteArray), l[k]? = some c → ns[k]? = some s → s.data.toList = nm c := fun k c s hc hs => by
    have h1 : (ns.map (fun s => s.data.toList))[k]? = (l.map nm)[k]? := by rw [hns]
    rw [List.getElem?_map, List.getElem?_map, hc, hs] at h1
    exact Option.some.inj h1
  intro i hi c hc
  refine ⟨h i hi c hc, fun k hk c' hc' he => ?_⟩
  have h1 := List.getElem?_eq_getElem (show i < ns.length by omega)
  have h2 := List.getElem?_eq_getElem (show k < ns.length by omega)
  refine hd i (by omega) _ h1 k hk _ h2 (nm_bytes _ _ ?_)
  rw [ByteArray.toList_eq, ByteArray.toList_eq, hat i c _ hc h1, hat k c' _ hc' h2, he]
theorem apart_of {α : Type} {ok : α → Prop} {nm : α → List UInt8} {l : List α} {ns : List ByteArray} (hns : ns.map (fun s => s.data.toList) = l.map nm) (h : Good ok nm l l.length) : Apart ns ns.length := by
  have hlen : ns.length = l.length := by have := congrArg List.length hns; simpa using this
  have hat : ∀ (k : Nat) (c : α) (s : ByteArray), l[k]? = some c → ns[k]? = some s → s.data.toList = nm c := fun k c s hc hs => by
    have h1 : (ns.map (fun s => s.data.toList))[k]? = (l.map nm)[k]? := by rw [hns]
    rw [List.getElem?_map, List.getElem?_map, hc, hs] at h1
    exact Option.some.inj h1
  intro i hi a ha k hk b hb hab
  subst hab
  have h1 := List.getElem?_eq_getElem (show i < l.length by omega)
  have h2 := List.getElem?_eq_getElem (show k < l.length by omega)
  exact (h i (by omega) _ h1).2 k hk _ h2 (by rw [← hat i _ _ h1 ha, ← hat k _ _ h2 hb])
set_option maxRecDepth 100000 in
set_option maxHeartbeats 8000000 in
theorem mayTable_any (t : Tb) (w : World) (ht : TbOk w w.heap.size t) : Calls Try.prog 59 #[t.agg] w (RetM w (MayT t.pt)) := by
  obtain ⟨⟨hz0, hz1, hcr, hcs⟩, hf0, hf1⟩ := ht
  have hln : t.cols.length = t.n := by have := hcr.1; rw [vC_len] at this; omega
  obtain ⟨nm, A, n, c, f, rr, p, cols⟩ := t
  simp only at hcr hcs hln hf0 hf1 hz0 hz1
  have hlp : (cols.map Cl.pc).length = n := by rw [List.length_map]; exact hln
  have hnsl : (cols.map Cl.nm).length = n := by rw [List.length_map]; exact hln
  unfold maxLen at hz1
  have nI : (n : Int) ≤ 9223372036854775807 := by omega
  have HZ := Lib.hid hz0
  have wf : IntKind.i64.wrap f = f := Go.IntWalk.i64_in _ ⟨by omega, by omega⟩
  have HC := Lib.hid (And.intro hcr (And.intro hcs (And.intro hln (And.intro hlp hnsl))))
  clear hz0 hz1 hcr hcs hln hlp hnsl
  obtain ⟨bn, hbn⟩ : ∃ b, nameB nm.data.toList = b := ⟨_, rfl⟩
  have NM : Hid (∀ W : World, Calls Try.prog 19 #[.string nm] W fun e w' => e = .returned (.bool bn) ∧ W = w') := Lib.hid fun W => by have h := name2_any nm HZ.out W; rwa [hbn] at h
  have HN := Lib.hid hbn
  clear hbn
  have hbb : Below w.heap.size w (w.alloc (.cells #[.string nm, .slice A n c, .int .u32 f, .int .i64 rr, .int .i64 p] 62)) := ball (Below.refl _ _) _
  have HBB := Lib.hid hbb
  clear hbb
  by_cases hq : (bn = true ∧ 1 ≤ n) ∧ n ≤ 8
  · obtain ⟨⟨rfl, c1⟩, c8⟩ := hq
    have c1I : (1 : Int) ≤ (n : Int) := by omega
    have c8I : (n : Int) ≤ 8 := by omega
    go_enter Try.func59, Try.ntmps59
    go_wp2_with (first
      | (go_at_call 19; (with_reducible refine (NM.out _).mono ?_); rintro e w' ⟨rfl, rfl⟩))
    clear NM
    go_loopw [3, 25] (fun u v wr => ∃ i : Nat, i ≤ n ∧ v = .int .i64 i ∧ OwnS wr w.heap.size u ((cols.map Cl.nm).take i) ∧ Below w.heap.size w wr ∧ Blk wr w.heap.size 62 #[.string nm, .slice A n c, .int .u32 f, .int .i64 rr, .int .i64 p] ∧ ∀ j, j < i → ∀ q, (cols.map Cl.pc)[j]? = some q → OkC q) (fun _ v _ => n - (intOf v).toNat)
    case atStart => exact ⟨0, by omega, rfl, OwnS.nil _ _, HBB.out, Blk.new _ _ _, fun j hj => by omega⟩
    case round =>
      obtain ⟨wo, rfl⟩ : ∃ wo : World, wo = wr := ⟨_, rfl⟩
      obtain ⟨i, hi, rfl, own, hb, hbk, hg⟩ := hrel
      have q0 : (0 : Int) ≤ (i : Int) := by omega
      have blt := hbk.lt
      by_cases hlt : i < n
      · have q1 : (i : Int) < (n : Int) := by omega
        obtain ⟨ad, q, rfl, hab, hq, d0, d1, d2, d3⟩ := (HC.out.1.below hb).cl_ hlt
        have hqok := HC.out.2.1 q (List.mem_of_getElem? hq)
        have hpq : (cols.map Cl.pc)[i]? = some q.pc := by rw [List.getElem?_map, hq]; rfl
        have htk : (cols.map Cl.nm).take (i + 1) = (cols.map Cl.nm).take i ++ [q.nm] := by rw [List.take_add_one, List.getElem?_map, hq]; rfl
        have hlk : ((cols.map Cl.nm).take i).length = i := by rw [List.length_take]; have := HC.out.2.2.2.2; omega
        obtain ⟨qn, qk, qd, qu⟩ := q
        have k0 : (0 : Int) ≤ qk := hqok.2.1
        have k2 : qk ≤ 255 := hqok.2.2
        have HQ := Lib.hid (And.intro hqok (And.intro hpq (And.intro htk (And.intro hlk (And.intro own (And.intro hb (And.intro hbk hg)))))))
        have HQN : Hid (qn.size ≤ maxLen) := Lib.hid hqok.1
        obtain ⟨bq, hbq⟩ : ∃ b, nameB qn.data.toList = b := ⟨_, rfl⟩
        have NQ : Hid (∀ W : World, Calls Try.prog 19 #[.string qn] W fun e w' => e = .returned (.bool bq) ∧ W = w') := Lib.hid fun W => by have h := name2_any qn HQN.out W; rwa [hbq] at h
        have HBQ := Lib.hid hbq
        clear hqok hpq htk hlk own hb hbk hg hq hbq
        have FAIL := Lib.hid (fun (h : MayT ⟨nm.data.toList, cols.map Cl.pc, f, rr, p⟩) => (show OkC ⟨qn.data.toList, qk, qd, qu⟩ from (h.2.2.2.2.2.2 i (by rw [HC.out.2.2.2.1]; exact hlt) _ HQ.out.2.1).1))
        by_cases hbad : bq = false ∨ ¬ (1 ≤ qk ∧ qk ≤ 3)
        · by_cases hbf : bq = false
          · subst hbf
            go_wp2_with (first
              | (go_at_call 19; (with_reducible refine (NQ.out _).mono ?_); rintro e w' ⟨rfl, rfl⟩))
            go_ret
            exact ⟨false, rfl, ⟨fun h => (by cases h), fun h => (by have h1 := (FAIL.out h).1; change nameB qn.data.toList = true at h1; rw [HBQ.out] at h1; cases h1)⟩, ball HQ.out.2.2.2.2.2.1 _⟩
          · have hk13 : ¬ (1 ≤ qk ∧ qk ≤ 3) := by rcases hbad with h | h; exact absurd h hbf; exact h
            obtain rfl : bq = true := by cases bq; exact absurd rfl hbf; rfl
            have x1 : (qk != 1) = true := by simp; omega
            have x2 : (qk != 2) = true := by simp; omega
            have x3 : (qk != 3) = true := by simp; omega
            have HK3 := Lib.hid hk13
            clear hbf hbad hk13
            go_wp2_with (first
              | (go_at_call 19; (with_reducible refine (NQ.out _).mono ?_); rintro e w' ⟨rfl, rfl⟩))
            go_ret
            exact ⟨false, rfl, ⟨fun h => (by cases h), fun h => (HK3.out (FAIL.out h).2.1).elim⟩, ball HQ.out.2.2.2.2.2.1 _⟩
        · have hk13 : 1 ≤ qk ∧ qk ≤ 3 := by
            by_cases h : 1 ≤ qk ∧ qk ≤ 3
            · exact h
            · exact absurd (.inr h) hbad
          obtain rfl : bq = true := by
            cases bq
            · exact absurd (.inl rfl) hbad
            · rfl
          have HK3 := Lib.hid hk13
          have AL := Lib.hid fun (W : World) (g : Nat) (hg : g = W.heap.size) => all2_any qd qu W g hg
          obtain ⟨y1, hy1⟩ : ∃ b, (qk != 1) = b := ⟨_, rfl⟩
          obtain ⟨y2, hy2⟩ : ∃ b, (qk != 2) = b := ⟨_, rfl⟩
          obtain ⟨y3, hy3⟩ : ∃ b, (qk != 3) = b := ⟨_, rfl⟩
          have hyy : (y1 && y2 && y3) = false := by rw [← hy1, ← hy2, ← hy3]; simp; omega
          clear hbad hk13
          cases y1 <;> cases y2 <;> cases y3
          all_goals first
            | (exfalso; revert hyy; decide)
            | (clear hyy
               go_wp2_with (first
                 | (go_at_call 19; (with_reducible refine (NQ.out _).mono ?_); rintro e w' ⟨rfl, rfl⟩)
                 | (go_at_call 72; (with_reducible refine (AL.out _ _ (by simp)).mono ?_); rintro e w1 ⟨b, rfl, hbb, hb1⟩; have hbw1 : Below w.heap.size w w1 := (bto0 (ball HQ.out.2.2.2.2.2.1 _) hb1); have hbk1 := ((HQ.out.2.2.2.2.2.2.1.alloc (.cells #[.string qn, .int .u8 qk, .int .i64 qd, .int .i64 qu] 64)).below hb1 (by simp; omega)); have own1 := (HQ.out.2.2.2.2.1.alloc (.cells #[.string qn, .int .u8 qk, .int .i64 qd, .int .i64 qu] 64)).below hb1; have hX := ((Blk.new wo 64 #[.string qn, .int .u8 qk, .int .i64 qd, .int .i64 qu]).below hb1 (by simp)); have x0 : w1.cell? ⟨wo.heap.size, 0, none⟩ = some (.string qn) := hX.cell 0; have hxlt := hX.lt; have HM := Lib.hid (And.intro hbb (And.intro hbw1 (And.intro hbk1 own1))); have hz1 := hbw1.size; clear hbb hb1 hbw1 hbk1 own1 hX)
                 | (at_builtin; refine wpList_pushN rfl _ _ rfl w.heap.size _ ((cols.map Cl.nm).take i) qn (by first | rfl | (simp; done) | (simp [go_sem]; done)) HM.out.2.2.2 _ (by first | rfl | (simp; done) | (simp [go_sem]; done)) (by simp) (by rw [HQ.out.2.2.2.1]; omega) (by omega) ?_; intro v2 w2 own2 kp2))
               all_goals first
                 | (have hbf : b = false := by simpa using ‹(!b) = true›
                    subst hbf
                    go_ret
                    exact ⟨false, rfl, ⟨fun h => (by cases h), fun h => absurd (HM.out.1.2 ⟨(FAIL.out h).2.2.1, (FAIL.out h).2.2.2⟩) (by decide)⟩, HM.out.2.1⟩)
                 | (have hbf : b = true := by simpa using ‹(!b) = false›
                    subst hbf
                    have hd := HM.out.1.1 (by first | rfl | trivial)
                    exact ⟨⟨i + 1, by omega, by go_num, by rw [HQ.out.2.2.1]; exact own2, kp2.below _ _ (Nat.le_refl _) HM.out.2.1, kp2.blk _ _ _ (by decide) HM.out.2.2.1, fun j hj q hq => by
                      by_cases hji : j < i
                      · exact HQ.out.2.2.2.2.2.2.2 j hji q hq
                      · obtain rfl : j = i := by omega
                        rw [HQ.out.2.1] at hq
                        cases hq
                        exact ⟨HBQ.out, HK3.out, hd.1, hd.2⟩⟩, by simp [intOf]; omega⟩))
      · obtain rfl : i = n := by omega
        obtain ⟨A2, c2, rfl, hc2⟩ := own.form
        have hnt : (cols.map Cl.nm).take i = cols.map Cl.nm := List.take_of_length_le (by have := HC.out.2.2.2.2; omega)
        have hln2 := HC.out.2.2.2.2
        rw [hnt] at own hc2 ⊢
        rw [hln2] at own hc2 ⊢
        have D := Lib.hid (differS_any A2 i c2 (cols.map Cl.nm) _ (own.reads.1) (by unfold maxLen; omega) hc2)
        have b2 : wo.cell? ⟨w.heap.size, 2, none⟩ = some (.int .u32 f) := hbk.cell 2
        have AL := Lib.hid fun (W : World) (g : Nat) (hg : g = W.heap.size) => all3_any f rr p W g hg
        have hns : (cols.map Cl.nm).map (fun s => s.data.toList) = (cols.map Cl.pc).map PC.nm := by rw [List.map_map, List.map_map]; rfl
        have MY := Lib.hid (fun (h1 : Apart (cols.map Cl.nm) i) (h2 : num31 f = true ∧ num31 rr = true ∧ num31 p = true) => (show MayT ⟨nm.data.toList, cols.map Cl.pc, f, rr, p⟩ from ⟨HN.out, by rw [HC.out.2.2.2.1]; exact c1, by rw [HC.out.2.2.2.1]; exact c8, h2.1, h2.2.1, h2.2.2, good_of hns (fun j hj c hc => hg j (by rw [HC.out.2.2.2.1] at hj; exact hj) c hc) (by rw [hln2]; exact h1)⟩))
        have MZ := Lib.hid (fun (h : MayT ⟨nm.data.toList, cols.map Cl.pc, f, rr, p⟩) => And.intro (show Apart (cols.map Cl.nm) i from by have h1 := apart_of hns h.2.2.2.2.2.2; rwa [hln2] at h1) (And.intro h.2.2.2.1 (And.intro h.2.2.2.2.1 h.2.2.2.2.2.1)))
        have HB := Lib.hid (And.intro hb hbk)
        clear own hc2 hnt hln2 hns hg hb hbk b2
        go_wp2_with fail
        refine D.out.mono ?_
        rintro e w1 ⟨b, rfl, hbb, hb1⟩
        have hk1 := HB.out.2.below hb1 blt
        have x2 : w1.cell? ⟨w.heap.size, 2, none⟩ = some (.int .u32 f) := hk1.cell 2
        have x3 : w1.cell? ⟨w.heap.size, 3, none⟩ = some (.int .i64 rr) := hk1.cell 3
        have x4 : w1.cell? ⟨w.heap.size, 4, none⟩ = some (.int .i64 p) := hk1.cell 4
        have HD := Lib.hid (And.intro hbb (bto0 HB.out.1 hb1))
        clear hbb hb1 hk1
        cases b with
        | false =>
          go_wp2
          go_ret
          exact ⟨false, rfl, ⟨fun h => (by cases h), fun h => absurd (HD.out.1.2 (MZ.out h).1) (by decide)⟩, HD.out.2⟩
        | true =>
          go_wp2_with fail
          refine (AL.out _ _ (by simp)).mono ?_
          rintro e w2 ⟨b, rfl, hbb, hb2⟩
          have HE := Lib.hid (And.intro hbb (bto0 HD.out.2 hb2))
          clear hbb hb2
          go_wp2
          go_ret
          exact ⟨b, rfl, ⟨fun h => MY.out (HD.out.1.1 (by first | rfl | trivial)) (HE.out.1.1 h), fun h => HE.out.1.2 (MZ.out h).2⟩, HE.out.2⟩
  · have HQ := Lib.hid (fun (h : MayT ⟨nm.data.toList, cols.map Cl.pc, f, rr, p⟩) => hq ⟨⟨by rw [← HN.out]; exact h.1, by have := h.2.1; rw [HC.out.2.2.2.1] at this; exact this⟩, by have := h.2.2.1; rw [HC.out.2.2.2.1] at this; exact this⟩)
    cases bn with
    | false =>
      clear hq
      go_enter Try.func59, Try.ntmps59
      go_wp2_with (first
        | (go_at_call 19; (with_reducible refine (NM.out _).mono ?_); rintro e w' ⟨rfl, rfl⟩))
      go_ret
      exact ⟨false, rfl, ⟨fun h => (by cases h), fun h => (HQ.out h).elim⟩, HBB.out⟩
    | true =>
      by_cases c1 : 1 ≤ n
      · have c8 : (8 : Int) < (n : Int) := by
          by_cases h : n ≤ 8
          · exact absurd ⟨⟨rfl, c1⟩, h⟩ hq
          · omega
        clear hq
        go_enter Try.func59, Try.ntmps59
        go_wp2_with (first
          | (go_at_call 19; (with_reducible refine (NM.out _).mono ?_); rintro e w' ⟨rfl, rfl⟩))
        go_ret
        exact ⟨false, rfl, ⟨fun h => (by cases h), fun h => (HQ.out h).elim⟩, HBB.out⟩
      · obtain rfl : n = 0 := by omega
        clear hq
        go_enter Try.func59, Try.ntmps59
        go_wp2_with (first
          | (go_at_call 19; (with_reducible refine (NM.out _).mono ?_); rintro e w' ⟨rfl, rfl⟩))
        go_ret
        exact ⟨false, rfl, ⟨fun h => (by cases h), fun h => (HQ.out h).elim⟩, HBB.out⟩
end
end Go.Proofs.Ytjlpfhioacphkaa
/-
  The program's mayIndex.
-/
namespace Go.Proofs.Ytjlpfhioacphkaa
section
set_option linter.unusedSimpArgs false
set_option linter.unusedVariables false
open Go.RowKit

theorem mayX_iff {ts : List PT} {x : PX} {t : PT} (ht : ts[x.tb.toNat]? = some t) : MayX ts x ↔ nameB x.nm = true ∧ (0 ≤ x.tb ∧ x.tb < ts.length) ∧ (1 ≤ x.cs.length ∧ x.cs.length ≤ 2) ∧ (∀ z ∈ x.cs, lowB t.cols.length z = true) ∧ Apart x.cs x.cs.length ∧ x.ds.length = x.cs.length ∧ (∀ z ∈ x.ds, num31 z = true) ∧ (num31 x.root = true ∧ num31 x.lv = true ∧ num31 x.hi = true) := by
  have lowI : ∀ (N : Nat) (z : Int), lowB N z = true ↔ 0 ≤ z ∧ z < (N : Int) := fun N z => by simp [lowB]
  constructor
  · intro h
    obtain ⟨h1, h2, h3, h4, h5, h6, h7, h8, h9⟩ := h
    refine ⟨h1, ⟨h2, h3⟩, ⟨h4, h5⟩, fun z hz => ?_, ?_, h6, fun z hz => ?_, h9⟩
    · obtain ⟨i, hi, he⟩ := List.mem_iff_getElem.1 hz
      have h10 := (h7 t ht i z _ (by rw [List.getElem?_eq_getElem hi, he]) (List.getElem?_eq_getElem (show i < x.ds.length by omega))).1
      exact (lowI _ _).2 h10
    · intro i hi a ha k hk b hb hab
      subst hab
      obtain ⟨p, q, hpq⟩ := two_of12 (show x.cs.length = 2 by omega)
      rw [hpq] at ha hb hi
      simp only [List.length_cons, List.length_nil] at hi
      obtain rfl : i = 1 := by omega
      obtain rfl : k = 0 := by omega
      simp at ha hb
      exact h8 p q hpq (by rw [hb, ha])
    · obtain ⟨i, hi, he⟩ := List.mem_iff_getElem.1 hz
      exact (h7 t ht i _ z (List.getElem?_eq_getElem (show i < x.cs.length by omega)) (by rw [List.getElem?_eq_getElem hi, he])).2
  · rintro ⟨h1, ⟨h2, h3⟩, ⟨h4, h5⟩, h6, h7, h8, h9, h10⟩
    refine ⟨h1, h2, h3, h4, h5, h8, fun t' ht' i c d hc hd => ?_, fun c d hcd => ?_, h10⟩
    · rw [ht] at ht'
      cases ht'
      exact ⟨(lowI _ _).1 (h6 c (List.mem_of_getElem? hc)), h9 d (List.mem_of_getElem? hd)⟩
    · exact h7 1 (by rw [hcd]; simp) d (by rw [hcd]; rfl) 0 (by omega) c (by rw [hcd]; rfl)
theorem mk_below2 (n : Nat) (w : World) : Calls Try.prog 75 #[.int .i64 (n : Int)] w fun e w' => ∃ g, e = .returned (.func (.func 84) #[] #[.pointer (some ⟨g, 0, none⟩)]) ∧ g < w'.heap.size ∧ w'.cell? ⟨g, 0, none⟩ = some (.int .i64 (n : Int)) ∧ Below w.heap.size w w' :=
  (mk_below n w).mono fun e w' h => by
    obtain ⟨he, rfl⟩ := h
    have B := Blk.new w 3 #[.int .i64 (n : Int)]
    exact ⟨_, he, B.lt, B.cell 0, ball (Below.refl _ _) _⟩
set_option maxRecDepth 100000 in
set_option maxHeartbeats 8000000 in
theorem mayIndex_any (A : Option Addr) (n c : Nat) (l : List Tb) (B : Option Addr) (m d : Nat) (x : Ix) (w : World) (hr : Reads w w.heap.size 5 A n (vTb l)) (hl : ∀ t ∈ l, TbOk w w.heap.size t) (hnx : n ≤ maxLen) (hx : IxIn w w.heap.size x) :
    Calls Try.prog 61 #[.agg #[.slice A n c, .slice B m d], x.agg] w (RetM w (MayX (l.map Tb.pt) x.px)) := by
  have hln : l.length = n := by have := hr.1; rw [vTb_len] at this; omega
  have hlp : (l.map Tb.pt).length = n := by rw [List.length_map]; exact hln
  obtain ⟨⟨z0, z1, z2⟩, hc, hd, hro⟩ := hx
  obtain ⟨nm, tb, XA, xn, xc, root, lv, hi, XB, xm, xe, cs, ds⟩ := x
  simp only at z0 z1 z2 hc hd hro
  have hcl : cs.length = xn := by have := hc.1; rw [vI64_len] at this; omega
  have hdl : ds.length = xm := by have := hd.1; rw [vI64_len] at this; omega
  have hxn : xn ≤ maxLen := Nat.le_trans z1.1 z1.2
  have hxm : xm ≤ maxLen := Nat.le_trans z2.1 z2.2
  have hxc : xn ≤ xc := z1.1
  unfold maxLen at hnx z1 z2
  have nI : (n : Int) ≤ 9223372036854775807 := by omega
  have xnI : (xn : Int) ≤ 9223372036854775807 := by omega
  have xmI : (xm : Int) ≤ 9223372036854775807 := by omega
  have wro : IntKind.i64.wrap root = root := Go.IntWalk.i64_in _ ⟨by omega, by omega⟩
  have HZ := Lib.hid z0
  have HC := Lib.hid (And.intro hr (And.intro hl (And.intro hln (And.intro hlp (And.intro hc (And.intro hd (And.intro hcl (And.intro hdl (And.intro hxn (And.intro hxm hxc))))))))))
  have HB0 : Hid (Below w.heap.size w ((w.alloc (.cells #[.slice A n c, .slice B m d] 25)).alloc (.cells #[.string nm, .int .i64 tb, .slice XA xn xc, .int .u32 root, .int .i64 lv, .int .i64 hi, .slice XB xm xe] 67)) ∧ Blk ((w.alloc (.cells #[.slice A n c, .slice B m d] 25)).alloc (.cells #[.string nm, .int .i64 tb, .slice XA xn xc, .int .u32 root, .int .i64 lv, .int .i64 hi, .slice XB xm xe] 67)) w.heap.size 25 #[.slice A n c, .slice B m d] ∧ Blk ((w.alloc (.cells #[.slice A n c, .slice B m d] 25)).alloc (.cells #[.string nm, .int .i64 tb, .slice XA xn xc, .int .u32 root, .int .i64 lv, .int .i64 hi, .slice XB xm xe] 67)) (w.heap.size + 1) 67 #[.string nm, .int .i64 tb, .slice XA xn xc, .int .u32 root, .int .i64 lv, .int .i64 hi, .slice XB xm xe]) := Lib.hid ⟨ball (ball (Below.refl _ _) _) _, (Blk.new _ _ _).alloc _, newAtI (by simp)⟩
  clear hr hl hnx z0 z1 z2 hc hd hln hlp hcl hdl hxn hxm hxc
  obtain ⟨bn, hbn⟩ : ∃ b, nameB nm.data.toList = b := ⟨_, rfl⟩
  have NM : Hid (∀ W : World, Calls Try.prog 19 #[.string nm] W fun e w' => e = .returned (.bool bn) ∧ w' = W) := Lib.hid fun W => by have h := name2_any nm HZ.out W; rw [hbn] at h; exact h.mono fun e w' h => ⟨h.1, h.2.symm⟩
  have HN := Lib.hid hbn
  clear hbn
  cases bn with
  | false =>
    go_enter Try.func61, Try.ntmps61
    go_wp2
    go_quiet ((go_at_call 19; with_reducible exact Calls.quiet_of_same (NM.out _)))
    go_wp2
    go_ret
    exact ⟨false, rfl, ⟨fun h => (by cases h), fun h => (by have h1 := h.1; change nameB nm.data.toList = true at h1; rw [HN.out] at h1; cases h1)⟩, bdr HB0.out.1 _⟩
  | true =>
    have MB := Lib.hid fun (W : World) => mk_below2 n W
    have hS : Hid (∀ W, Below ((w.alloc (.cells #[.slice A n c, .slice B m d] 25)).alloc (.cells #[.string nm, .int .i64 tb, .slice XA xn xc, .int .u32 root, .int .i64 lv, .int .i64 hi, .slice XB xm xe] 67)).heap.size ((w.alloc (.cells #[.slice A n c, .slice B m d] 25)).alloc (.cells #[.string nm, .int .i64 tb, .slice XA xn xc, .int .u32 root, .int .i64 lv, .int .i64 hi, .slice XB xm xe] 67)) W → W.cell? ⟨w.heap.size, 0, none⟩ = some (.slice A n c) ∧ W.cell? ⟨w.heap.size + 1, 0, none⟩ = some (.string nm) ∧ W.cell? ⟨w.heap.size + 1, 1, none⟩ = some (.int .i64 tb) ∧ Below ((w.alloc (.cells #[.slice A n c, .slice B m d] 25)).alloc (.cells #[.string nm, .int .i64 tb, .slice XA xn xc, .int .u32 root, .int .i64 lv, .int .i64 hi, .slice XB xm xe] 67)).heap.size ((w.alloc (.cells #[.slice A n c, .slice B m d] 25)).alloc (.cells #[.string nm, .int .i64 tb, .slice XA xn xc, .int .u32 root, .int .i64 lv, .int .i64 hi, .slice XB xm xe] 67)) W) := Lib.hid fun W hW => by
      have P := HB0.out.2.1.below hW HB0.out.2.1.lt
      have Q := HB0.out.2.2.below hW HB0.out.2.2.lt
      exact ⟨P.cell 0, Q.cell 0, Q.cell 1, hW⟩
    obtain ⟨bl, hbl⟩ : ∃ b, lowB n tb = b := ⟨_, rfl⟩
    have HBL := Lib.hid hbl
    go_enter Try.func61, Try.ntmps61
    go_wp2_with fail
    go_region_held3 (fun W => W.cell? ⟨w.heap.size, 0, none⟩ = some (.slice A n c) ∧ W.cell? ⟨w.heap.size + 1, 0, none⟩ = some (.string nm) ∧ W.cell? ⟨w.heap.size + 1, 1, none⟩ = some (.int .i64 tb) ∧ Below ((w.alloc (.cells #[.slice A n c, .slice B m d] 25)).alloc (.cells #[.string nm, .int .i64 tb, .slice XA xn xc, .int .u32 root, .int .i64 lv, .int .i64 hi, .slice XB xm xe] 67)).heap.size ((w.alloc (.cells #[.slice A n c, .slice B m d] 25)).alloc (.cells #[.string nm, .int .i64 tb, .slice XA xn xc, .int .u32 root, .int .i64 lv, .int .i64 hi, .slice XB xm xe] 67)) W)
      (first | exact hS.out _ (by with_reducible repeat (first | exact Below.refl _ _ | exact hb2 | refine bto0 ?_ hb2 | refine Below.drew ?_ | refine bdr ?_ _ | refine ball ?_ _)) | assumption)
      (first
        | (go_at_call 19; (with_reducible refine (NM.out _).mono ?_); rintro e w1 ⟨rfl, hw1⟩; subst hw1)
        | (go_at_call 75; (with_reducible refine (MB.out _).mono ?_); rintro e w2 ⟨g, rfl, hg, hgc, hb2⟩; have BC : Hid (∀ W : World, Below w2.heap.size w2 W → Calls Try.prog 84 #[.int .i64 tb, .pointer (some ⟨g, 0, none⟩)] W fun e w' => e = .returned (.bool bl) ∧ w' = W) := Lib.hid fun W hW => by (have h := below_any n g tb W ((hW.cell (p := ⟨g, 0, none⟩) hg).trans hgc); rw [HBL.out] at h; exact h.mono fun e w' h => ⟨h.1, h.2.symm⟩))
        | (go_at_call 84; (with_reducible refine (BC.out _ (by with_reducible repeat (first | exact Below.refl _ _ | refine Below.drew ?_ | refine bdr ?_ _))).mono ?_); rintro e w3 ⟨rfl, hw3⟩; subst hw3))
    have bX : Below ((w.alloc (.cells #[.slice A n c, .slice B m d] 25)).alloc (.cells #[.string nm, .int .i64 tb, .slice XA xn xc, .int .u32 root, .int .i64 lv, .int .i64 hi, .slice XB xm xe] 67)).heap.size ((w.alloc (.cells #[.slice A n c, .slice B m d] 25)).alloc (.cells #[.string nm, .int .i64 tb, .slice XA xn xc, .int .u32 root, .int .i64 lv, .int .i64 hi, .slice XB xm xe] 67)) w3 := (by with_reducible repeat (first | exact Below.refl _ _ | exact hb2 | refine bto0 ?_ hb2 | refine Below.drew ?_ | refine bdr ?_ _ | refine ball ?_ _))
    have P3 := HB0.out.2.1.below bX HB0.out.2.1.lt
    have Q3 := HB0.out.2.2.below bX HB0.out.2.2.lt
    have H3 : Hid (Below w.heap.size w w3 ∧ Blk w3 w.heap.size 25 #[.slice A n c, .slice B m d] ∧ Blk w3 (w.heap.size + 1) 67 #[.string nm, .int .i64 tb, .slice XA xn xc, .int .u32 root, .int .i64 lv, .int .i64 hi, .slice XB xm xe]) := Lib.hid ⟨bto0 HB0.out.1 bX, P3, Q3⟩
    have lowI : ∀ (N : Nat) (z : Int), lowB N z = true ↔ 0 ≤ z ∧ z < (N : Int) := fun N z => by simp [lowB]
    cases bl with
    | false =>
      have LO := Lib.hid (lowI n tb)
      clear P3 Q3 bX hS BC hbl lowI
      go_wp2
      go_ret
      exact ⟨false, rfl, ⟨fun h => (by cases h), fun h => (by
        have h1 : 0 ≤ tb := h.2.1
        have h2 : tb < ((l.map Tb.pt).length : Int) := h.2.2.1
        rw [HC.out.2.2.2.1] at h2
        have h3 := LO.out.2 ⟨h1, h2⟩
        rw [HBL.out] at h3
        cases h3)⟩, H3.out.1⟩
    | true =>
      have htb := (lowI n tb).1 hbl
      obtain ⟨tk, rfl⟩ : ∃ tk : Nat, tb = tk := ⟨tb.toNat, by omega⟩
      have tkl : tk < n := by omega
      have tk0 : (0 : Int) ≤ (tk : Int) := by omega
      have tk1 : (tk : Int) < (n : Int) := by omega
      obtain ⟨ta, t, htA, htab, ht, e0, e1, e2, e3, e4⟩ := (HC.out.1.below H3.out.1).tb_ tkl
      have htl : t.pt.cols.length = t.n := by have := (HC.out.2.1 t (List.mem_of_getElem? ht)).1.2.2.1.1; rw [vC_len] at this; show (t.cols.map Cl.pc).length = _; rw [List.length_map]; omega
      have htn : (t.n : Int) ≤ 9223372036854775807 := by have h0 := (HC.out.2.1 t (List.mem_of_getElem? ht)).1.2.1; have h1 := h0.1; have h2 := h0.2; unfold maxLen at h2; omega
      have hpt : (l.map Tb.pt)[((tk : Nat) : Int).toNat]? = some t.pt := by rw [Int.toNat_natCast, List.getElem?_map, ht]; rfl
      have IFF : Hid (MayX (l.map Tb.pt) ⟨nm.data.toList, (tk : Int), cs, root, lv, hi, ds⟩ ↔ (1 ≤ xn ∧ xn ≤ 2) ∧ (∀ z ∈ cs, lowB t.n z = true) ∧ Apart cs xn ∧ xm = xn ∧ (∀ z ∈ ds, num31 z = true) ∧ (num31 root = true ∧ num31 lv = true ∧ num31 hi = true)) := Lib.hid (by
        have h := mayX_iff (ts := l.map Tb.pt) (x := ⟨nm.data.toList, (tk : Int), cs, root, lv, hi, ds⟩) (t := t.pt) hpt
        rw [h, htl, HC.out.2.2.2.1]
        simp only [HC.out.2.2.2.2.2.2.1, HC.out.2.2.2.2.2.2.2.1, HN.out, true_and]
        constructor
        · rintro ⟨_, h⟩; exact h
        · intro h; exact ⟨⟨by omega, by omega⟩, h⟩)
      have b0 : w3.cell? ⟨w.heap.size, 0, none⟩ = some (.slice A n c) := P3.cell 0
      have b1 : w3.cell? ⟨w.heap.size + 1, 1, none⟩ = some (.int .i64 tk) := Q3.cell 1
      have plt := P3.lt
      have qlt := Q3.lt
      have M2 := Lib.hid fun (W : World) => mk_below2 t.n W
      subst htA
      clear P3 Q3 bX hS BC hbl lowI htl hpt ht htb e0 e2 e3 e4 MB
      go_wp2_with fail
      refine (M2.out _).mono ?_
      rintro e w4 ⟨g2, rfl, hg2, hgc2, hb4⟩
      have P4 := H3.out.2.1.below hb4 plt
      have Q4 := H3.out.2.2.below hb4 qlt
      have bw4 := bto0 H3.out.1 hb4
      have AC : Hid (∀ W, Below w4.heap.size w4 W → Calls Try.prog 72 #[.func (.func 84) #[] #[.pointer (some ⟨g2, 0, none⟩)], .slice XA xn xc] W (RetM W (∀ z ∈ cs, lowB t.n z = true))) := Lib.hid fun W hW => allB_any XA xn xc cs W ((HC.out.2.2.2.2.1.below (bto0 bw4 hW)).more (bto0 bw4 hW).size) HC.out.2.2.2.2.2.2.2.2.1 t.n g2 ((hW.cell (p := ⟨g2, 0, none⟩) hg2).trans hgc2) (by have := hW.size; omega)
      have DC : Hid (∀ W, Below w4.heap.size w4 W → Calls Try.prog 76 #[.slice XA xn xc] W (RetM W (Apart cs xn))) := Lib.hid fun W hW => differI_any XA xn xc cs W ((HC.out.2.2.2.2.1.below (bto0 bw4 hW)).more (bto0 bw4 hW).size) HC.out.2.2.2.2.2.2.2.2.1 HC.out.2.2.2.2.2.2.2.2.2.2
      have AF : Hid (∀ W, Below w4.heap.size w4 W → Calls Try.prog 72 #[.func (.func 73) #[] #[], .slice XB xm xe] W (RetM W (∀ z ∈ ds, num31 z = true))) := Lib.hid fun W hW => allF_any XB xm xe ds W ((HC.out.2.2.2.2.2.1.below (bto0 bw4 hW)).more (bto0 bw4 hW).size) HC.out.2.2.2.2.2.2.2.2.2.1
      have A3 := Lib.hid fun (W : World) (g : Nat) (hg : g = W.heap.size) => all3_any root lv hi W g hg
      have q2 : w4.cell? ⟨w.heap.size + 1, 2, none⟩ = some (.slice XA xn xc) := Q4.cell 2
      have H4 : Hid (Below w.heap.size w w4 ∧ Blk w4 w.heap.size 25 _ ∧ Blk w4 (w.heap.size + 1) 67 _) := Lib.hid ⟨bw4, P4, Q4⟩
      have qlt4 := Q4.lt
      clear P4 Q4 bw4 hb4 b0 b1
      by_cases x1 : 1 ≤ xn
      · by_cases x2 : xn ≤ 2
        · have x1I : (1 : Int) ≤ (xn : Int) := by omega
          have x2I : (xn : Int) ≤ 2 := by omega
          go_wp2_with fail
          refine (AC.out _ (Below.refl _ _)).mono ?_
          rintro e w5 ⟨b, rfl, hbb, hb5⟩
          have Q5 := H4.out.2.2.below hb5 qlt4
          have q2' : w5.cell? ⟨w.heap.size + 1, 2, none⟩ = some (.slice XA xn xc) := Q5.cell 2
          have H5 := Lib.hid (And.intro hbb (And.intro hb5 Q5))
          have qlt5 := Q5.lt
          clear Q5 hbb hb5 q2
          cases b with
          | false =>
            go_wp2
            go_ret
            exact ⟨false, rfl, ⟨fun h => (by cases h), fun h => absurd (H5.out.1.2 (IFF.out.1 h).2.1) (by decide)⟩, bto0 H4.out.1 H5.out.2.1⟩
          | true =>
            go_wp2_with fail
            refine (DC.out _ H5.out.2.1).mono ?_
            rintro e w6 ⟨b, rfl, hbb, hb6⟩
            have Q6 := H5.out.2.2.below hb6 qlt5
            have q2 : w6.cell? ⟨w.heap.size + 1, 2, none⟩ = some (.slice XA xn xc) := Q6.cell 2
            have q6 : w6.cell? ⟨w.heap.size + 1, 6, none⟩ = some (.slice XB xm xe) := Q6.cell 6
            have H6 := Lib.hid (And.intro hbb (And.intro (bto0 H5.out.2.1 hb6) Q6))
            have qlt6 := Q6.lt
            clear Q6 hbb hb6 q2'
            cases b with
            | false =>
              go_wp2
              go_ret
              exact ⟨false, rfl, ⟨fun h => (by cases h), fun h => absurd (H6.out.1.2 (IFF.out.1 h).2.2.1) (by decide)⟩, bto0 H4.out.1 H6.out.2.1⟩
            | true =>
              by_cases xmn : xm = xn
              · have em : ((xm : Int) == (xn : Int)) = true := by simp; omega
                have HM := Lib.hid xmn
                clear xmn
                go_wp2_with fail
                refine (AF.out _ H6.out.2.1).mono ?_
                rintro e w7 ⟨b, rfl, hbb, hb7⟩
                have Q7 := H6.out.2.2.below hb7 qlt6
                have q3 : w7.cell? ⟨w.heap.size + 1, 3, none⟩ = some (.int .u32 root) := Q7.cell 3
                have q4 : w7.cell? ⟨w.heap.size + 1, 4, none⟩ = some (.int .i64 lv) := Q7.cell 4
                have q5 : w7.cell? ⟨w.heap.size + 1, 5, none⟩ = some (.int .i64 hi) := Q7.cell 5
                have H7 := Lib.hid (And.intro hbb (bto0 H6.out.2.1 hb7))
                clear Q7 hbb hb7 q2 q6
                cases b with
                | false =>
                  go_wp2
                  go_ret
                  exact ⟨false, rfl, ⟨fun h => (by cases h), fun h => absurd (H7.out.1.2 (IFF.out.1 h).2.2.2.2.1) (by decide)⟩, bto0 H4.out.1 H7.out.2⟩
                | true =>
                  go_wp2_with fail
                  refine (A3.out _ _ (by simp)).mono ?_
                  rintro e w8 ⟨b, rfl, hbb, hb8⟩
                  have H8 := Lib.hid (And.intro hbb (bto0 H7.out.2 hb8))
                  clear hbb hb8
                  go_wp2
                  go_ret
                  exact ⟨b, rfl, ⟨fun h => IFF.out.2 ⟨⟨x1, x2⟩, H5.out.1.1 (by first | rfl | trivial), H6.out.1.1 (by first | rfl | trivial), HM.out, H7.out.1.1 (by first | rfl | trivial), H8.out.1.1 h⟩, fun h => H8.out.1.2 (IFF.out.1 h).2.2.2.2.2⟩, bto0 H4.out.1 H8.out.2⟩
              · have em : ((xm : Int) == (xn : Int)) = false := by simp; omega
                have HM := Lib.hid xmn
                clear xmn
                go_wp2
                go_ret
                exact ⟨false, rfl, ⟨fun h => (by cases h), fun h => absurd (IFF.out.1 h).2.2.2.1 HM.out⟩, bto0 H4.out.1 H6.out.2.1⟩
        · have x2I : (2 : Int) < (xn : Int) := by omega
          go_wp2
          go_ret
          exact ⟨false, rfl, ⟨fun h => (by cases h), fun h => (by have := (IFF.out.1 h).1.2; omega)⟩, H4.out.1⟩
      · have x1I : (xn : Int) < 1 := by omega
        go_wp2
        go_ret
        exact ⟨false, rfl, ⟨fun h => (by cases h), fun h => (by have := (IFF.out.1 h).1.1; omega)⟩, H4.out.1⟩
end
end Go.Proofs.Ytjlpfhioacphkaa
/-
  Are two12 lists of numbers, of columns the same?
-/
namespace Go.Proofs.Ytjlpfhioacphkaa
section
set_option linter.unusedSimpArgs false
set_option linter.unusedVariables false
open Go.RowKit

theorem list_eq {α : Type} {l r : List α} (hl : l.length = r.length) (h : ∀ j, j < l.length → ∀ a b, l[j]? = some a → r[j]? = some b → a = b) : l = r := by
  apply List.ext_getElem? 
  intro j
  by_cases hj : j < l.length
  · have h1 := List.getElem?_eq_getElem hj
    have h2 := List.getElem?_eq_getElem (show j < r.length by omega)
    rw [h1, h2, h j hj _ _ h1 h2]
  · rw [List.getElem?_eq_none (by omega), List.getElem?_eq_none (by omega)]
set_option maxHeartbeats 1000000 in
theorem eqi_any (A : Option Addr) (n c : Nat) (l : List Int) (B : Option Addr) (m d : Nat) (r : List Int) (w : World) (hl : Reads w w.heap.size 1 A n (vI64 l)) (hr : Reads w w.heap.size 1 B m (vI64 r)) (hn : n ≤ maxLen) (hm : m ≤ maxLen) :
    Calls Try.prog 55 #[.slice A n c, .slice B m d] w (RetM w (l = r)) := by
  have hln : l.length = n := by have := hl.1; rw [vI64_len] at this; omega
  have hrn : r.length = m := by have := hr.1; rw [vI64_len] at this; omega
  unfold maxLen at hn hm
  have nI : (n : Int) ≤ 9223372036854775807 := by omega
  have mI : (m : Int) ≤ 9223372036854775807 := by omega
  have HC := Lib.hid (And.intro hl (And.intro hr (And.intro hln hrn)))
  clear hl hr hln hrn hn hm
  by_cases hnm : n = m
  · subst hnm
    have e1 : ((n : Int) != (n : Int)) = false := by simp
    go_enter Try.func55, Try.ntmps55
    go_wp2
    go_loopw [13] (fun v wr => ∃ i : Nat, i ≤ n ∧ v = .int .i64 i ∧ Below w.heap.size w wr ∧ ∀ j, j < i → ∀ a b, l[j]? = some a → r[j]? = some b → a = b) (fun v _ => n - (intOf v).toNat)
    case atStart => exact ⟨0, by omega, rfl, Below.refl _ _, fun j hj => by omega⟩
    case round =>
      obtain ⟨i, hi, rfl, hb, hg⟩ := hrel
      have q0 : (0 : Int) ≤ (i : Int) := by omega
      by_cases hlt : i < n
      · have q1 : (i : Int) < (n : Int) := by omega
        obtain ⟨ad, x, hA, hab, hx, f0⟩ := (HC.out.1.below hb).i64_ hlt
        obtain ⟨ad2, y, hB, hab2, hy, f1⟩ := (HC.out.2.1.below hb).i64_ hlt
        subst hA hB
        have HG := Lib.hid (And.intro hx (And.intro hy (And.intro hb hg)))
        clear hx hy hb hg
        by_cases hxy : x = y
        · have e2 : (x != y) = false := by simpa using hxy
          have HX := Lib.hid hxy
          clear hxy
          go_wp2
          go_quiet (fail)
          go_wp2
          exact ⟨⟨i + 1, by omega, by go_num, bdr HG.out.2.2.1 _, fun j hj a b ha hb => by
            by_cases hji : j < i
            · exact HG.out.2.2.2 j hji a b ha hb
            · obtain rfl : j = i := by omega
              rw [HG.out.1] at ha
              rw [HG.out.2.1] at hb
              cases ha
              cases hb
              exact HX.out⟩, by simp [intOf]; omega⟩
        · have e2 : (x != y) = true := by simpa using hxy
          have HX := Lib.hid hxy
          clear hxy
          go_wp2
          go_quiet (fail)
          go_wp2
          go_ret
          exact ⟨false, rfl, ⟨fun h => (by cases h), fun h => absurd (by have h1 := HG.out.1; rw [h, HG.out.2.1] at h1; exact (Option.some.inj h1).symm) HX.out⟩, bdr HG.out.2.2.1 _⟩
      · obtain rfl : i = n := by omega
        have HL := Lib.hid (list_eq (HC.out.2.2.1.trans HC.out.2.2.2.symm) fun j hj => hg j (by rw [← HC.out.2.2.1]; exact hj))
        clear hg
        go_wp2
        go_ret
        exact ⟨true, rfl, ⟨fun _ => HL.out, fun _ => rfl⟩, hb⟩
  · have e1 : ((n : Int) != (m : Int)) = true := by simp; omega
    have HX : Hid (l ≠ r) := Lib.hid fun h => hnm (by rw [← HC.out.2.2.1, ← HC.out.2.2.2, h])
    go_enter Try.func55, Try.ntmps55
    go_wp2
    go_ret
    exact ⟨false, rfl, ⟨fun h => (by cases h), fun h => absurd h HX.out⟩, Below.refl _ _⟩
set_option maxHeartbeats 1000000 in
theorem eqc_any (A : Option Addr) (n c : Nat) (l : List Cl) (B : Option Addr) (m d : Nat) (r : List Cl) (w : World) (hl : Reads w w.heap.size 4 A n (vC l)) (hr : Reads w w.heap.size 4 B m (vC r)) (hn : n ≤ maxLen) (hm : m ≤ maxLen) :
    Calls Try.prog 54 #[.slice A n c, .slice B m d] w (RetM w (l.map Cl.pc = r.map Cl.pc)) := by
  have hln : l.length = n := by have := hl.1; rw [vC_len] at this; omega
  have hrn : r.length = m := by have := hr.1; rw [vC_len] at this; omega
  unfold maxLen at hn hm
  have nI : (n : Int) ≤ 9223372036854775807 := by omega
  have mI : (m : Int) ≤ 9223372036854775807 := by omega
  have HC := Lib.hid (And.intro hl (And.intro hr (And.intro hln hrn)))
  clear hl hr hln hrn hn hm
  by_cases hnm : n = m
  · subst hnm
    have e1 : ((n : Int) != (n : Int)) = false := by simp
    go_enter Try.func54, Try.ntmps54
    go_wp2
    go_loopw [13] (fun v wr => ∃ i : Nat, i ≤ n ∧ v = .int .i64 i ∧ Below w.heap.size w wr ∧ ∀ j, j < i → ∀ a b, (l.map Cl.pc)[j]? = some a → (r.map Cl.pc)[j]? = some b → a = b) (fun v _ => n - (intOf v).toNat)
    case atStart => exact ⟨0, by omega, rfl, Below.refl _ _, fun j hj => by omega⟩
    case round =>
      obtain ⟨i, hi, rfl, hb, hg⟩ := hrel
      have q0 : (0 : Int) ≤ (i : Int) := by omega
      by_cases hlt : i < n
      · have q1 : (i : Int) < (n : Int) := by omega
        obtain ⟨ad, x, hA, hab, hx0, f0, f1, f2, f3⟩ := (HC.out.1.below hb).cl_ hlt
        obtain ⟨ad2, y, hB, hab2, hy0, g0, g1, g2, g3⟩ := (HC.out.2.1.below hb).cl_ hlt
        have hx : (l.map Cl.pc)[i]? = some x.pc := by rw [List.getElem?_map, hx0]; rfl
        have hy : (r.map Cl.pc)[i]? = some y.pc := by rw [List.getElem?_map, hy0]; rfl
        clear hx0 hy0
        subst hA hB
        have HG := Lib.hid (And.intro hx (And.intro hy (And.intro hb hg)))
        clear hx hy hb hg
        obtain ⟨xn, xk, xd, xu⟩ := x
        obtain ⟨yn, yk, yd, yu⟩ := y
        simp only at f0 f1 f2 f3 g0 g1 g2 g3
        by_cases hall : (xn.data.toList = yn.data.toList ∧ xk = yk) ∧ (xd = yd ∧ xu = yu)
        · obtain ⟨⟨h1, rfl⟩, rfl, rfl⟩ := hall
          obtain rfl : xn = yn := nm_bytes _ _ (by rw [ByteArray.toList_eq, ByteArray.toList_eq]; exact h1)
          clear h1
          go_wp2
          go_quiet (fail)
          go_wp2
          exact ⟨⟨i + 1, by omega, by go_num, bdr HG.out.2.2.1 _, fun j hj a b ha hb => by
            by_cases hji : j < i
            · exact HG.out.2.2.2 j hji a b ha hb
            · obtain rfl : j = i := by omega
              rw [HG.out.1] at ha
              rw [HG.out.2.1] at hb
              cases ha
              cases hb
              rfl⟩, by simp [intOf]; omega⟩
        · have HX : Hid ((l.map Cl.pc) ≠ r.map Cl.pc) := Lib.hid fun h => hall (by
            have h1 := HG.out.1
            rw [h, HG.out.2.1] at h1
            have h2 := Option.some.inj h1
            unfold Cl.pc at h2
            simp only [PC.mk.injEq] at h2
            exact ⟨⟨h2.1.symm, h2.2.1.symm⟩, h2.2.2.1.symm, h2.2.2.2.symm⟩)
          have B1 : ∃ b : Bool, (xn.toList == yn.toList) = b ∧ (b = true → xn.data.toList = yn.data.toList) := by
            rcases nm_cases2 xn yn with ⟨h1, h2⟩ | ⟨h1, h2⟩
            · exact ⟨true, h2, fun _ => h1⟩
            · exact ⟨false, h2, fun h => by cases h⟩
          obtain ⟨b1, e1', c1⟩ := B1
          obtain ⟨b2, e2, c2⟩ : ∃ b : Bool, (xk == yk) = b ∧ (b = true → xk = yk) := ⟨_, rfl, fun h => by simpa using h⟩
          obtain ⟨b3, e3, c3⟩ : ∃ b : Bool, (xd == yd) = b ∧ (b = true → xd = yd) := ⟨_, rfl, fun h => by simpa using h⟩
          obtain ⟨b4, e4, c4⟩ : ∃ b : Bool, (xu == yu) = b ∧ (b = true → xu = yu) := ⟨_, rfl, fun h => by simpa using h⟩
          have hno : (b1 && b2 && b3 && b4) = false := by
            cases hq : (b1 && b2 && b3 && b4) with
            | false => rfl
            | true =>
              simp only [Bool.and_eq_true] at hq
              exact absurd ⟨⟨c1 hq.1.1.1, c2 hq.1.1.2⟩, c3 hq.1.2, c4 hq.2⟩ hall
          clear hall c1 c2 c3 c4
          cases b1 <;> cases b2 <;> cases b3 <;> cases b4
          all_goals first
            | (exfalso; revert hno; decide)
            | (clear hno
               go_wp2
               go_quiet (fail)
               go_wp2
               go_ret
               exact ⟨false, rfl, ⟨fun h => (by cases h), fun h => absurd h HX.out⟩, bdr HG.out.2.2.1 _⟩)
      · obtain rfl : i = n := by omega
        have HL := Lib.hid (list_eq (by rw [List.length_map, List.length_map]; exact HC.out.2.2.1.trans HC.out.2.2.2.symm) fun j hj => hg j (by rw [List.length_map] at hj; rw [← HC.out.2.2.1]; exact hj))
        clear hg
        go_wp2
        go_ret
        exact ⟨true, rfl, ⟨fun _ => HL.out, fun _ => rfl⟩, hb⟩
  · have e1 : ((n : Int) != (m : Int)) = true := by simp; omega
    have HX : Hid (l.map Cl.pc ≠ r.map Cl.pc) := Lib.hid fun h => hnm (by have h1 := congrArg List.length h; rw [List.length_map, List.length_map] at h1; rw [← HC.out.2.2.1, ← HC.out.2.2.2]; exact h1)
    go_enter Try.func54, Try.ntmps54
    go_wp2
    go_ret
    exact ⟨false, rfl, ⟨fun h => (by cases h), fun h => absurd h HX.out⟩, Below.refl _ _⟩
end
end Go.Proofs.Ytjlpfhioacphkaa
/-
  Same: of two12 tables, two12 indexes, two12 books.
-/
namespace Go.Proofs.Ytjlpfhioacphkaa
section
set_option linter.unusedSimpArgs false
set_option linter.unusedVariables false
open Go.RowKit

theorem blkOf {B : Nat} {w w' : World} {g : Nat} {t : TypeId} {cs : Array Value} (hb : Below B w w') (hg : g < B) (h : Blk w g t cs) : Blk w' g t cs := h.below hb hg
theorem Blk.newAt12 {w : World} {t : TypeId} {cs : Array Value} {g : Nat} (h : g = w.heap.size) : Blk (w.alloc (.cells cs t)) g t cs := by subst h; exact Blk.new _ _ _
theorem beq_int (x y : Int) : ∃ b : Bool, (x == y) = b ∧ (b = true ↔ x = y) := ⟨_, rfl, by simp⟩
theorem beq_nm (x y : ByteArray) : ∃ b : Bool, (x.toList == y.toList) = b ∧ (b = true ↔ x.data.toList = y.data.toList) := by
  rcases nm_cases2 x y with ⟨h1, h2⟩ | ⟨h1, h2⟩
  · exact ⟨true, h2, fun _ => h1, fun _ => rfl⟩
  · exact ⟨false, h2, fun h => (by cases h), fun h => absurd h h1⟩
theorem TbOk.mv {w w' : World} {t : Tb} (h : TbOk w w.heap.size t) (hb : Below w.heap.size w w') : TbOk w' w'.heap.size t := by
  obtain ⟨h1, h2⟩ := h
  have h3 := h1.under hb
  exact ⟨⟨h3.1, h3.2.1, h3.2.2.1.more hb.size, h3.2.2.2⟩, h2⟩
theorem IxIn.mv {w w' : World} {x : Ix} (h : IxIn w w.heap.size x) (hb : Below w.heap.size w w') : IxIn w' w'.heap.size x := by
  have h3 := h.under hb
  exact ⟨h3.1, h3.2.1.more hb.size, h3.2.2.1.more hb.size, h3.2.2.2⟩
set_option maxRecDepth 100000 in
set_option maxHeartbeats 2000000 in
theorem sameTable_any (p q : Tb) (w : World) (hp : TbOk w w.heap.size p) (hq : TbOk w w.heap.size q) : Calls Try.prog 28 #[p.agg, q.agg] w (RetM w (p.pt = q.pt)) := by
  have EQ : Hid (∀ W, Below w.heap.size w W → Calls Try.prog 54 #[.slice p.A p.n p.c, .slice q.A q.n q.c] W (RetM W (p.cols.map Cl.pc = q.cols.map Cl.pc))) := Lib.hid fun W hW => eqc_any _ _ _ _ _ _ _ _ W (hp.mv hW).1.2.2.1 (hq.mv hW).1.2.2.1 (Nat.le_trans hp.1.2.1.1 hp.1.2.1.2) (Nat.le_trans hq.1.2.1.1 hq.1.2.1.2)
  have hbb : Below w.heap.size w ((w.alloc (.cells #[.string p.nm, .slice p.A p.n p.c, .int .u32 p.f, .int .i64 p.r, .int .i64 p.p] 62)).alloc (.cells #[.string q.nm, .slice q.A q.n q.c, .int .u32 q.f, .int .i64 q.r, .int .i64 q.p] 62)) := ball (ball (Below.refl _ _) _) _
  have HBB := Lib.hid hbb
  have hE : p.pt = q.pt ↔ (p.nm.data.toList = q.nm.data.toList ∧ p.cols.map Cl.pc = q.cols.map Cl.pc ∧ p.f = q.f ∧ p.r = q.r ∧ p.p = q.p) := by
    unfold Tb.pt
    rw [PT.mk.injEq]
  have HE := Lib.hid hE
  obtain ⟨b1, e1, c1⟩ := beq_nm p.nm q.nm
  obtain ⟨b3, e3, c3⟩ := beq_int p.f q.f
  obtain ⟨b4, e4, c4⟩ := beq_int p.r q.r
  obtain ⟨b5, e5, c5⟩ := beq_int p.p q.p
  have HC := Lib.hid (And.intro c1 (And.intro c3 (And.intro c4 c5)))
  clear hp hq hbb hE c1 c3 c4 c5
  cases b1 with
  | false =>
    go_enter Try.func28, Try.ntmps28
    go_wp2
    go_ret
    exact ⟨false, rfl, ⟨fun h => (by cases h), fun h => absurd (HC.out.1.2 (HE.out.1 h).1) (by decide)⟩, HBB.out⟩
  | true =>
    go_enter Try.func28, Try.ntmps28
    go_wp2_with fail
    refine (EQ.out _ (by with_reducible repeat (first | exact Below.refl _ _ | refine Below.drew ?_ | refine bdr ?_ _ | refine ball ?_ _))).mono ?_
    rintro e w1 ⟨b2, rfl, c2, hb1⟩
    have hz1 := hb1.size
    (try simp at hz1)
    have P : Blk w1 (w.heap.size) 62 #[.string p.nm, .slice p.A p.n p.c, .int .u32 p.f, .int .i64 p.r, .int .i64 p.p] := blkOf hb1 (by (try simp) <;> omega) (by with_reducible repeat (first | exact Blk.newAt (by simp) | exact Blk.newAt12 (by simp) | refine Blk.drew ?_ | refine Blk.alloc ?_ _))
    have P_0 : (w1).cell? ⟨w.heap.size, 0, none⟩ = some (.string p.nm) := P.cell 0
    have P_1 : (w1).cell? ⟨w.heap.size, 1, none⟩ = some (.slice p.A p.n p.c) := P.cell 1
    have P_2 : (w1).cell? ⟨w.heap.size, 2, none⟩ = some (.int .u32 p.f) := P.cell 2
    have P_3 : (w1).cell? ⟨w.heap.size, 3, none⟩ = some (.int .i64 p.r) := P.cell 3
    have P_4 : (w1).cell? ⟨w.heap.size, 4, none⟩ = some (.int .i64 p.p) := P.cell 4
    have Q : Blk w1 (w.heap.size + 1) 62 #[.string q.nm, .slice q.A q.n q.c, .int .u32 q.f, .int .i64 q.r, .int .i64 q.p] := blkOf hb1 (by (try simp) <;> omega) (by with_reducible repeat (first | exact Blk.newAt (by simp) | exact Blk.newAt12 (by simp) | refine Blk.drew ?_ | refine Blk.alloc ?_ _))
    have Q_0 : (w1).cell? ⟨w.heap.size + 1, 0, none⟩ = some (.string q.nm) := Q.cell 0
    have Q_1 : (w1).cell? ⟨w.heap.size + 1, 1, none⟩ = some (.slice q.A q.n q.c) := Q.cell 1
    have Q_2 : (w1).cell? ⟨w.heap.size + 1, 2, none⟩ = some (.int .u32 q.f) := Q.cell 2
    have Q_3 : (w1).cell? ⟨w.heap.size + 1, 3, none⟩ = some (.int .i64 q.r) := Q.cell 3
    have Q_4 : (w1).cell? ⟨w.heap.size + 1, 4, none⟩ = some (.int .i64 q.p) := Q.cell 4
    have HB := Lib.hid (And.intro c2 (bto0 HBB.out hb1))
    clear P Q hb1 c2
    cases b2 with
    | false =>
      go_wp2
      go_ret
      exact ⟨false, rfl, ⟨fun h => (by cases h), fun h => absurd (HB.out.1.2 (HE.out.1 h).2.1) (by decide)⟩, HB.out.2⟩
    | true =>
      cases b3 <;> cases b4 <;> cases b5
      all_goals
        go_wp2
        go_ret
        first
          | exact ⟨true, rfl, ⟨fun _ => HE.out.2 ⟨HC.out.1.1 (by first | rfl | trivial), HB.out.1.1 (by first | rfl | trivial), HC.out.2.1.1 (by first | rfl | trivial), HC.out.2.2.1.1 (by first | rfl | trivial), HC.out.2.2.2.1 (by first | rfl | trivial)⟩, fun _ => rfl⟩, HB.out.2⟩
          | exact ⟨false, rfl, ⟨fun h => (by cases h), fun h => (by
              have h1 := HE.out.1 h
              first
                | exact absurd (HC.out.2.1.2 h1.2.2.1) (by decide)
                | exact absurd (HC.out.2.2.1.2 h1.2.2.2.1) (by decide)
                | exact absurd (HC.out.2.2.2.2 h1.2.2.2.2) (by decide))⟩, HB.out.2⟩
set_option maxRecDepth 100000 in
set_option maxHeartbeats 4000000 in
theorem sameIndex_any (p q : Ix) (w : World) (hp : IxIn w w.heap.size p) (hq : IxIn w w.heap.size q) : Calls Try.prog 30 #[p.agg, q.agg] w (RetM w (p.px = q.px)) := by
  have EQ : Hid (∀ W, Below w.heap.size w W → Calls Try.prog 55 #[.slice p.A p.n p.c, .slice q.A q.n q.c] W (RetM W (p.cs = q.cs))) := Lib.hid fun W hW => eqi_any _ _ _ _ _ _ _ _ W (hp.mv hW).2.1 (hq.mv hW).2.1 (Nat.le_trans hp.1.2.1.1 hp.1.2.1.2) (Nat.le_trans hq.1.2.1.1 hq.1.2.1.2)
  have EQ2 : Hid (∀ W, Below w.heap.size w W → Calls Try.prog 55 #[.slice p.B p.m p.e, .slice q.B q.m q.e] W (RetM W (p.ds = q.ds))) := Lib.hid fun W hW => eqi_any _ _ _ _ _ _ _ _ W (hp.mv hW).2.2.1 (hq.mv hW).2.2.1 (Nat.le_trans hp.1.2.2.1 hp.1.2.2.2) (Nat.le_trans hq.1.2.2.1 hq.1.2.2.2)
  have hbb : Below w.heap.size w ((w.alloc (.cells #[.string p.nm, .int .i64 p.tb, .slice p.A p.n p.c, .int .u32 p.root, .int .i64 p.lv, .int .i64 p.hi, .slice p.B p.m p.e] 67)).alloc (.cells #[.string q.nm, .int .i64 q.tb, .slice q.A q.n q.c, .int .u32 q.root, .int .i64 q.lv, .int .i64 q.hi, .slice q.B q.m q.e] 67)) := ball (ball (Below.refl _ _) _) _
  have HBB := Lib.hid hbb
  have hE : p.px = q.px ↔ (p.nm.data.toList = q.nm.data.toList ∧ p.tb = q.tb ∧ p.cs = q.cs ∧ p.root = q.root ∧ p.lv = q.lv ∧ p.hi = q.hi ∧ p.ds = q.ds) := by
    unfold Ix.px
    rw [PX.mk.injEq]
  have HE := Lib.hid hE
  obtain ⟨b1, e1, c1⟩ := beq_nm p.nm q.nm
  obtain ⟨b6, e6, c6⟩ := beq_int p.tb q.tb
  obtain ⟨b3, e3, c3⟩ := beq_int p.root q.root
  obtain ⟨b4, e4, c4⟩ := beq_int p.lv q.lv
  obtain ⟨b5, e5, c5⟩ := beq_int p.hi q.hi
  have HC := Lib.hid (And.intro c1 (And.intro c6 (And.intro c3 (And.intro c4 c5))))
  clear hp hq hbb hE c1 c3 c4 c5 c6
  by_cases h16 : (b1 && b6) = false
  · cases b1 <;> cases b6
    all_goals first
      | (exfalso; revert h16; decide)
      | (clear h16
         go_enter Try.func30, Try.ntmps30
         go_wp2
         go_ret
         exact ⟨false, rfl, ⟨fun h => (by cases h), fun h => (by
           have h1 := HE.out.1 h
           first
             | exact absurd (HC.out.1.2 h1.1) (by decide)
             | exact absurd (HC.out.2.1.2 h1.2.1) (by decide))⟩, HBB.out⟩)
  · obtain ⟨rfl, rfl⟩ : b1 = true ∧ b6 = true := by cases b1 <;> cases b6 <;> simp at h16 ⊢
    clear h16
    go_enter Try.func30, Try.ntmps30
    go_wp2_with fail
    refine (EQ.out _ (by with_reducible repeat (first | exact Below.refl _ _ | refine Below.drew ?_ | refine bdr ?_ _ | refine ball ?_ _))).mono ?_
    rintro e w1 ⟨b2, rfl, c2, hb1⟩
    have hz1 := hb1.size
    (try simp at hz1)
    have P : Blk w1 (w.heap.size) 67 #[.string p.nm, .int .i64 p.tb, .slice p.A p.n p.c, .int .u32 p.root, .int .i64 p.lv, .int .i64 p.hi, .slice p.B p.m p.e] := blkOf hb1 (by (try simp) <;> omega) (by with_reducible repeat (first | exact Blk.newAt (by simp) | exact Blk.newAt12 (by simp) | refine Blk.drew ?_ | refine Blk.alloc ?_ _))
    have P_0 : (w1).cell? ⟨w.heap.size, 0, none⟩ = some (.string p.nm) := P.cell 0
    have P_1 : (w1).cell? ⟨w.heap.size, 1, none⟩ = some (.int .i64 p.tb) := P.cell 1
    have P_2 : (w1).cell? ⟨w.heap.size, 2, none⟩ = some (.slice p.A p.n p.c) := P.cell 2
    have P_3 : (w1).cell? ⟨w.heap.size, 3, none⟩ = some (.int .u32 p.root) := P.cell 3
    have P_4 : (w1).cell? ⟨w.heap.size, 4, none⟩ = some (.int .i64 p.lv) := P.cell 4
    have P_5 : (w1).cell? ⟨w.heap.size, 5, none⟩ = some (.int .i64 p.hi) := P.cell 5
    have P_6 : (w1).cell? ⟨w.heap.size, 6, none⟩ = some (.slice p.B p.m p.e) := P.cell 6
    have Q : Blk w1 (w.heap.size + 1) 67 #[.string q.nm, .int .i64 q.tb, .slice q.A q.n q.c, .int .u32 q.root, .int .i64 q.lv, .int .i64 q.hi, .slice q.B q.m q.e] := blkOf hb1 (by (try simp) <;> omega) (by with_reducible repeat (first | exact Blk.newAt (by simp) | exact Blk.newAt12 (by simp) | refine Blk.drew ?_ | refine Blk.alloc ?_ _))
    have Q_0 : (w1).cell? ⟨w.heap.size + 1, 0, none⟩ = some (.string q.nm) := Q.cell 0
    have Q_1 : (w1).cell? ⟨w.heap.size + 1, 1, none⟩ = some (.int .i64 q.tb) := Q.cell 1
    have Q_2 : (w1).cell? ⟨w.heap.size + 1, 2, none⟩ = some (.slice q.A q.n q.c) := Q.cell 2
    have Q_3 : (w1).cell? ⟨w.heap.size + 1, 3, none⟩ = some (.int .u32 q.root) := Q.cell 3
    have Q_4 : (w1).cell? ⟨w.heap.size + 1, 4, none⟩ = some (.int .i64 q.lv) := Q.cell 4
    have Q_5 : (w1).cell? ⟨w.heap.size + 1, 5, none⟩ = some (.int .i64 q.hi) := Q.cell 5
    have Q_6 : (w1).cell? ⟨w.heap.size + 1, 6, none⟩ = some (.slice q.B q.m q.e) := Q.cell 6
    have hbw1 := bto0 HBB.out hb1
    have HB := Lib.hid (And.intro c2 hbw1)
    clear P Q hb1 c2 hbw1
    have dd : ∀ (a b : Bool), (a && b) = false → a = false ∨ b = false := by decide
    by_cases h345 : (b2 && b3 && b4 && b5) = false
    · cases b2 <;> cases b3 <;> cases b4 <;> cases b5
      all_goals first
        | (exfalso; revert h345; decide)
        | (clear h345
           go_wp2
           go_ret
           exact ⟨false, rfl, ⟨fun h => (by cases h), fun h => (by
             have h1 := HE.out.1 h
             first
               | exact absurd (HB.out.1.2 h1.2.2.1) (by decide)
               | exact absurd (HC.out.2.2.1.2 h1.2.2.2.1) (by decide)
               | exact absurd (HC.out.2.2.2.1.2 h1.2.2.2.2.1) (by decide)
               | exact absurd (HC.out.2.2.2.2.2 h1.2.2.2.2.2.1) (by decide))⟩, HB.out.2⟩)
    · obtain ⟨rfl, rfl, rfl, rfl⟩ : b2 = true ∧ b3 = true ∧ b4 = true ∧ b5 = true := by cases b2 <;> cases b3 <;> cases b4 <;> cases b5 <;> simp at h345 ⊢
      clear h345 dd
      go_wp2_with fail
      refine (EQ2.out _ (bto0 HB.out.2 (by with_reducible repeat (first | exact Below.refl _ _ | refine Below.drew ?_ | refine bdr ?_ _ | refine ball ?_ _)))).mono ?_
      rintro e w2 ⟨b7, rfl, c7, hb2⟩
      have HD := Lib.hid (And.intro c7 (bto0 HB.out.2 hb2))
      clear c7 hb2
      go_wp2
      go_ret
      exact ⟨b7, rfl, ⟨fun h => HE.out.2 ⟨HC.out.1.1 (by first | rfl | trivial), HC.out.2.1.1 (by first | rfl | trivial), HB.out.1.1 (by first | rfl | trivial), HC.out.2.2.1.1 (by first | rfl | trivial), HC.out.2.2.2.1.1 (by first | rfl | trivial), HC.out.2.2.2.2.1 (by first | rfl | trivial), HD.out.1.1 h⟩, fun h => HD.out.1.2 (HE.out.1 h).2.2.2.2.2.2⟩, HD.out.2⟩
end
end Go.Proofs.Ytjlpfhioacphkaa
/-
  The program's May.
-/
namespace Go.Proofs.Ytjlpfhioacphkaa
section
set_option linter.unusedSimpArgs false
set_option linter.unusedVariables false
open Go.RowKit

theorem mayB_iff {b : PB12} {ns xs : List ByteArray} (hns : ns.map (fun s => s.data.toList) = b.ts.map PT.nm) (hxs : xs.map (fun s => s.data.toList) = b.xs.map PX.nm) :
    MayB b ↔ (b.ts.length ≤ 16 ∧ b.xs.length ≤ 16) ∧ (∀ i, i < b.ts.length → ∀ t, b.ts[i]? = some t → MayT t) ∧ Apart ns ns.length ∧ (∀ i, i < b.xs.length → ∀ x, b.xs[i]? = some x → MayX b.ts x) ∧ Apart xs xs.length := by
  constructor
  · rintro ⟨h1, h2, h3, h4⟩
    exact ⟨⟨h1, h2⟩, fun i hi t ht => (h3 i hi t ht).1, apart_of hns h3, fun i hi x hx => (h4 i hi x hx).1, apart_of hxs h4⟩
  · rintro ⟨⟨h1, h2⟩, h3, h4, h5, h6⟩
    exact ⟨h1, h2, good_of hns h3 h4, good_of hxs h5 h6⟩
set_option maxRecDepth 100000 in
set_option maxHeartbeats 8000000 in
theorem may_any12 (A : Option Addr) (n c : Nat) (l : List Tb) (B : Option Addr) (m d : Nat) (r : List Ix) (w : World) (hk : BkIn w A n c l B m d r) :
    Calls Try.prog 37 #[.agg #[.slice A n c, .slice B m d]] w (RetM w (MayB (pbk l r))) := by
  have hlp : (l.map Tb.pt).length = n := by rw [List.length_map]; exact hk.ln
  have hrp : (r.map Ix.px).length = m := by rw [List.length_map]; exact hk.rn
  have hln : (l.map Tb.nm).length = n := by rw [List.length_map]; exact hk.ln
  have hrn : (r.map Ix.nm).length = m := by rw [List.length_map]; exact hk.rn
  have nI : (n : Int) ≤ 9223372036854775807 := by have := hk.hn.1; have := hk.hn.2; unfold maxLen at this; omega
  have mI : (m : Int) ≤ 9223372036854775807 := by have := hk.hm.1; have := hk.hm.2; unfold maxLen at this; omega
  have IFF : Hid (MayB (pbk l r) ↔ (n ≤ 16 ∧ m ≤ 16) ∧ (∀ i, i < n → ∀ t, (l.map Tb.pt)[i]? = some t → MayT t) ∧ Apart (l.map Tb.nm) n ∧ (∀ i, i < m → ∀ x, (r.map Ix.px)[i]? = some x → MayX (l.map Tb.pt) x) ∧ Apart (r.map Ix.nm) m) := Lib.hid (by
    have h := mayB_iff (b := pbk l r) (ns := l.map Tb.nm) (xs := r.map Ix.nm) (by show _ = (l.map Tb.pt).map PT.nm; rw [List.map_map, List.map_map]; rfl) (by show _ = (r.map Ix.px).map PX.nm; rw [List.map_map, List.map_map]; rfl)
    rw [h, hln, hrn]
    show (((l.map Tb.pt).length ≤ 16 ∧ (r.map Ix.px).length ≤ 16) ∧ (∀ i, i < (l.map Tb.pt).length → _) ∧ _ ∧ (∀ i, i < (r.map Ix.px).length → _) ∧ _) ↔ _
    rw [hlp, hrp]
    exact Iff.rfl)
  have HC := Lib.hid (And.intro hk (And.intro hln hrn))
  clear hk hlp hrp hln hrn
  have HB0 : Hid (Below w.heap.size w (w.alloc (.cells #[.slice A n c, .slice B m d] 25)) ∧ Blk (w.alloc (.cells #[.slice A n c, .slice B m d] 25)) w.heap.size 25 #[.slice A n c, .slice B m d]) := Lib.hid ⟨ball (Below.refl _ _) _, Blk.new _ _ _⟩
  by_cases c16 : n ≤ 16
  · by_cases d16 : m ≤ 16
    · have c16I : (n : Int) ≤ 16 := by omega
      have d16I : (m : Int) ≤ 16 := by omega
      have e16 : decide (16 < (n : Int)) = false := decide_eq_false (by omega)
      have f16 : decide (16 < (m : Int)) = false := decide_eq_false (by omega)
      go_enter Try.func37, Try.ntmps37
      go_wp2
      go_loopw [3, 21] (fun u v wr => ∃ i : Nat, i ≤ n ∧ v = .int .i64 i ∧ OwnS wr w.heap.size u ((l.map Tb.nm).take i) ∧ Below w.heap.size w wr ∧ Blk wr w.heap.size 25 #[.slice A n c, .slice B m d] ∧ ∀ j, j < i → ∀ t, (l.map Tb.pt)[j]? = some t → MayT t) (fun _ v _ => n - (intOf v).toNat)
      case atStart => exact ⟨0, by omega, rfl, OwnS.nil _ _, HB0.out.1, HB0.out.2, fun j hj => by omega⟩
      case round =>
        obtain ⟨wo, rfl⟩ : ∃ wo : World, wo = wr := ⟨_, rfl⟩
        obtain ⟨i, hi, rfl, own, hb, hbk, hg⟩ := hrel
        have q0 : (0 : Int) ≤ (i : Int) := by omega
        have blt := hbk.lt
        have b0 : wo.cell? ⟨w.heap.size, 0, none⟩ = some (.slice A n c) := hbk.cell 0
        have b1 : wo.cell? ⟨w.heap.size, 1, none⟩ = some (.slice B m d) := hbk.cell 1
        by_cases hlt : i < n
        · have q1 : (i : Int) < (n : Int) := by omega
          obtain ⟨ad, q, hA, hab, hq, d0, d1, d2, d3, d4⟩ := (HC.out.1.hr.below hb).tb_ hlt
          have hpq : (l.map Tb.pt)[i]? = some q.pt := by rw [List.getElem?_map, hq]; rfl
          have htk : (l.map Tb.nm).take (i + 1) = (l.map Tb.nm).take i ++ [q.nm] := by rw [List.take_add_one, List.getElem?_map, hq]; rfl
          have hlk : ((l.map Tb.nm).take i).length = i := by rw [List.length_take]; have := HC.out.2.1; omega
          subst hA
          have TC := Lib.hid (fun (W : World) (hW : Below wo.heap.size wo W) => (mayTable_any q W (TbOk.mv (HC.out.1.hl q (List.mem_of_getElem? hq)) (bto0 hb hW)) : Calls Try.prog 59 #[q.agg] W (RetM W (MayT q.pt))))
          have HQ := Lib.hid (And.intro hpq (And.intro htk (And.intro hlk (And.intro own (And.intro hb (And.intro hbk hg))))))
          clear hpq htk hlk own hb hbk hg hq
          go_wp2_with (first
            | (go_at_call 59; (with_reducible refine (TC.out _ (by with_reducible repeat (first | exact Below.refl _ _ | refine Below.drew ?_ | refine bdr ?_ _ | refine ball ?_ _))).mono ?_); rintro e w1 ⟨b, rfl, hbb, hb1⟩; have bo1 := (bto0 (ball (Below.refl wo.heap.size wo) (.cells #[.string q.nm, .slice q.A q.n q.c, .int .u32 q.f, .int .i64 q.r, .int .i64 q.p] 62)) hb1); have hX := ((Blk.new wo 62 #[.string q.nm, .slice q.A q.n q.c, .int .u32 q.f, .int .i64 q.r, .int .i64 q.p]).below hb1 (by simp)); have x0 : w1.cell? ⟨wo.heap.size, 0, none⟩ = some (.string q.nm) := hX.cell 0; have hxlt := hX.lt; have HM := Lib.hid (And.intro hbb (And.intro (bto0 HQ.out.2.2.2.2.1 bo1) (And.intro (HQ.out.2.2.2.2.2.1.below bo1 blt) (HQ.out.2.2.2.1.below bo1)))); have hz1 := (bto0 HQ.out.2.2.2.2.1 bo1).size; clear hbb hb1 bo1 hX)
            | (at_builtin; refine wpList_pushN rfl _ _ rfl w.heap.size _ ((l.map Tb.nm).take i) q.nm (by first | rfl | (simp; done) | (simp [go_sem]; done)) HM.out.2.2.2 _ (by first | rfl | (simp; done) | (simp [go_sem]; done)) (by simp) (by rw [HQ.out.2.2.1]; omega) (by omega) ?_; intro v2 w2 own2 kp2))
          all_goals first
            | (have hbf : b = false := by simpa using ‹(!b) = true›
               subst hbf
               go_ret
               exact ⟨false, rfl, ⟨fun h => (by cases h), fun h => absurd (HM.out.1.2 ((IFF.out.1 h).2.1 i hlt _ HQ.out.1)) (by decide)⟩, HM.out.2.1⟩)
            | (have hbf : b = true := by simpa using ‹(!b) = false›
               subst hbf
               have hd := HM.out.1.1 (by first | rfl | trivial)
               exact ⟨⟨i + 1, by omega, by go_num, by rw [HQ.out.2.1]; exact own2, kp2.below _ _ (Nat.le_refl _) HM.out.2.1, kp2.blk _ _ _ (by decide) HM.out.2.2.1, fun j hj t ht => by
                 by_cases hji : j < i
                 · exact HQ.out.2.2.2.2.2.2 j hji t ht
                 · obtain rfl : j = i := by omega
                   rw [HQ.out.1] at ht
                   cases ht
                   exact hd⟩, by simp [intOf]; omega⟩)
        · obtain rfl : n = i := by omega
          obtain ⟨A2, c2, rfl, hc2⟩ := own.form
          have hln2 := HC.out.2.1
          have hnt : (l.map Tb.nm).take n = (l.map Tb.nm) := List.take_of_length_le (by omega)
          rw [hnt] at own hc2 ⊢
          rw [hln2] at own hc2 ⊢
          have D := Lib.hid (differS_any A2 n c2 (l.map Tb.nm) _ (own.reads.1) (by unfold maxLen; omega) hc2)
          have HB1 := Lib.hid (And.intro hb (And.intro hbk hg))
          clear own hc2 hnt hln2 hg hb hbk b0 b1
          go_wp2_with fail
          refine D.out.mono ?_
          rintro e w1 ⟨b, rfl, hbb, hb1⟩
          have hk1 := HB1.out.2.1.below hb1 blt
          have x1 : w1.cell? ⟨w.heap.size, 1, none⟩ = some (.slice B m d) := hk1.cell 1
          have HD := Lib.hid (And.intro hbb (And.intro (bto0 HB1.out.1 hb1) hk1))
          clear hbb hb1 hk1 blt
          cases b with
          | false =>
            go_wp2
            go_ret
            exact ⟨false, rfl, ⟨fun h => (by cases h), fun h => absurd (HD.out.1.2 (IFF.out.1 h).2.2.1) (by decide)⟩, HD.out.2.1⟩
          | true =>
            obtain ⟨w9, rfl⟩ : ∃ w9 : World, w9 = wo := ⟨_, rfl⟩
            clear hi q0
            go_wp2
            go_loopw [3, 40] (fun u v wr => ∃ i : Nat, i ≤ m ∧ v = .int .i64 i ∧ OwnS wr w.heap.size u ((r.map Ix.nm).take i) ∧ Below w.heap.size w wr ∧ Blk wr w.heap.size 25 #[.slice A n c, .slice B m d] ∧ ∀ j, j < i → ∀ t, (r.map Ix.px)[j]? = some t → MayX (l.map Tb.pt) t) (fun _ v _ => m - (intOf v).toNat)
            case atStart => exact ⟨0, by omega, rfl, OwnS.nil _ _, HD.out.2.1, HD.out.2.2, fun j hj => by omega⟩
            case round =>
              obtain ⟨wo, rfl⟩ : ∃ wo : World, wo = wr := ⟨_, rfl⟩
              obtain ⟨i, hi, rfl, own, hb, hbk, hg⟩ := hrel
              have q0 : (0 : Int) ≤ (i : Int) := by omega
              have blt := hbk.lt
              have b0 : wo.cell? ⟨w.heap.size, 0, none⟩ = some (.slice A n c) := hbk.cell 0
              have b1 : wo.cell? ⟨w.heap.size, 1, none⟩ = some (.slice B m d) := hbk.cell 1
              by_cases hlt : i < m
              · have q1 : (i : Int) < (m : Int) := by omega
                obtain ⟨ad, q, hA, hab, hq, d0, d1, d2, d3, d4, d5, d6⟩ := (HC.out.1.hx.below hb).ix_ hlt
                have hpq : (r.map Ix.px)[i]? = some q.px := by rw [List.getElem?_map, hq]; rfl
                have htk : (r.map Ix.nm).take (i + 1) = (r.map Ix.nm).take i ++ [q.nm] := by rw [List.take_add_one, List.getElem?_map, hq]; rfl
                have hlk : ((r.map Ix.nm).take i).length = i := by rw [List.length_take]; have := HC.out.2.2; omega
                subst hA
                have TC := Lib.hid (fun (W : World) (hW : Below wo.heap.size wo W) => (mayIndex_any A n c l (some ad) m d q W (HC.out.1.below (bto0 hb hW)).hr (HC.out.1.below (bto0 hb hW)).hl (Nat.le_trans HC.out.1.hn.1 HC.out.1.hn.2) ((HC.out.1.below (bto0 hb hW)).hix q (List.mem_of_getElem? hq)) : Calls Try.prog 61 #[.agg #[.slice A n c, .slice (some ad) m d], q.agg] W (RetM W (MayX (l.map Tb.pt) q.px))))
                have HQ := Lib.hid (And.intro hpq (And.intro htk (And.intro hlk (And.intro own (And.intro hb (And.intro hbk hg))))))
                clear hpq htk hlk own hb hbk hg hq
                go_wp2_with (first
                  | (go_at_call 61; (with_reducible refine (TC.out _ (by with_reducible repeat (first | exact Below.refl _ _ | refine Below.drew ?_ | refine bdr ?_ _ | refine ball ?_ _))).mono ?_); rintro e w1 ⟨b, rfl, hbb, hb1⟩; have bo1 := (bto0 (ball (Below.refl wo.heap.size wo) (.cells #[.string q.nm, .int .i64 q.tb, .slice q.A q.n q.c, .int .u32 q.root, .int .i64 q.lv, .int .i64 q.hi, .slice q.B q.m q.e] 67)) hb1); have hX := ((Blk.new wo 67 #[.string q.nm, .int .i64 q.tb, .slice q.A q.n q.c, .int .u32 q.root, .int .i64 q.lv, .int .i64 q.hi, .slice q.B q.m q.e]).below hb1 (by simp)); have x0 : w1.cell? ⟨wo.heap.size, 0, none⟩ = some (.string q.nm) := hX.cell 0; have hxlt := hX.lt; have HM := Lib.hid (And.intro hbb (And.intro (bto0 HQ.out.2.2.2.2.1 bo1) (And.intro (HQ.out.2.2.2.2.2.1.below bo1 blt) (HQ.out.2.2.2.1.below bo1)))); have hz1 := (bto0 HQ.out.2.2.2.2.1 bo1).size; clear hbb hb1 bo1 hX)
                  | (at_builtin; refine wpList_pushN rfl _ _ rfl w.heap.size _ ((r.map Ix.nm).take i) q.nm (by first | rfl | (simp; done) | (simp [go_sem]; done)) HM.out.2.2.2 _ (by first | rfl | (simp; done) | (simp [go_sem]; done)) (by simp) (by rw [HQ.out.2.2.1]; omega) (by omega) ?_; intro v2 w2 own2 kp2))
                all_goals first
                  | (have hbf : b = false := by simpa using ‹(!b) = true›
                     subst hbf
                     go_ret
                     exact ⟨false, rfl, ⟨fun h => (by cases h), fun h => absurd (HM.out.1.2 ((IFF.out.1 h).2.2.2.1 i hlt _ HQ.out.1)) (by decide)⟩, HM.out.2.1⟩)
                  | (have hbf : b = true := by simpa using ‹(!b) = false›
                     subst hbf
                     have hd := HM.out.1.1 (by first | rfl | trivial)
                     exact ⟨⟨i + 1, by omega, by go_num, by rw [HQ.out.2.1]; exact own2, kp2.below _ _ (Nat.le_refl _) HM.out.2.1, kp2.blk _ _ _ (by decide) HM.out.2.2.1, fun j hj t ht => by
                       by_cases hji : j < i
                       · exact HQ.out.2.2.2.2.2.2 j hji t ht
                       · obtain rfl : j = i := by omega
                         rw [HQ.out.1] at ht
                         cases ht
                         exact hd⟩, by simp [intOf]; omega⟩)
              · obtain rfl : m = i := by omega
                obtain ⟨A2, c2, rfl, hc2⟩ := own.form
                have hln2 := HC.out.2.2
                have hnt : (r.map Ix.nm).take m = (r.map Ix.nm) := List.take_of_length_le (by omega)
                rw [hnt] at own hc2 ⊢
                rw [hln2] at own hc2 ⊢
                have D := Lib.hid (differS_any A2 m c2 (r.map Ix.nm) _ (own.reads.1) (by unfold maxLen; omega) hc2)
                have HB2 := Lib.hid (And.intro hb (And.intro hbk hg))
                clear own hc2 hnt hln2 hg hb hbk b0 b1
                go_wp2_with fail
                refine D.out.mono ?_
                rintro e w1 ⟨b, rfl, hbb, hb1⟩
                have HE := Lib.hid (And.intro hbb (bto0 HB2.out.1 hb1))
                clear hbb hb1
                go_wp2
                go_ret
                exact ⟨b, rfl, ⟨fun h => IFF.out.2 ⟨⟨c16, d16⟩, HB1.out.2.2, HD.out.1.1 (by first | rfl | trivial), HB2.out.2.2, HE.out.1.1 h⟩, fun h => HE.out.1.2 (IFF.out.1 h).2.2.2.2⟩, HE.out.2⟩
    · skip
      have f16 : (16 : Int) < (m : Int) := by omega
      have e16 : decide (16 < (n : Int)) = false := decide_eq_false (by omega)
      have HX := Lib.hid (fun (h : MayB (pbk l r)) => d16 (IFF.out.1 h).1.2)
      clear d16
      go_enter Try.func37, Try.ntmps37
      go_wp2
      go_ret
      exact ⟨false, rfl, ⟨fun h => (by cases h), fun h => (HX.out h).elim⟩, HB0.out.1⟩
  · skip
    have e16 : (16 : Int) < (n : Int) := by omega
    have HX := Lib.hid (fun (h : MayB (pbk l r)) => c16 (IFF.out.1 h).1.1)
    clear c16
    go_enter Try.func37, Try.ntmps37
    go_wp2
    go_ret
    exact ⟨false, rfl, ⟨fun h => (by cases h), fun h => (HX.out h).elim⟩, HB0.out.1⟩
end
end Go.Proofs.Ytjlpfhioacphkaa
/-
  The program's putTable.
-/
namespace Go.Proofs.Ytjlpfhioacphkaa
section
set_option linter.unusedSimpArgs false
set_option linter.unusedVariables false
open Go.RowKit

theorem Keeps.low {base : Nat} {w w' : World} (h : Keeps base w w') : Below base w w' := h.below base w (Nat.le_refl _) ⟨rfl, rfl, rfl, Nat.le_refl _, fun _ _ => rfl⟩
theorem u8_of {z : Int} (h0 : 0 ≤ z) (h1 : z ≤ 255) : z = ((UInt8.ofNat z.toNat).toNat : Int) ∧ IntKind.u8.wrap z = ((UInt8.ofNat z.toNat).toNat : Int) := by
  rw [u8_nat, IntKind.wrap_u8]
  omega
set_option maxRecDepth 100000 in
set_option maxHeartbeats 4000000 in
theorem putTable_any (sv : Value) (l : List UInt8) (t : Tb) (w : World) (base : Nat) (hown : Own w base sv l) (hb : base ≤ w.heap.size) (hlen : l.length ≤ 10000) (hcr : Reads w base 4 t.A t.n (vC t.cols)) (hm : MayT t.pt) :
    Calls Try.prog 38 #[sv, t.agg] w (RetOwn w base (l ++ tabB t.pt)) := by
  obtain ⟨nm, A, n, c, f, rr, p, cols⟩ := t
  simp only at hcr
  have hln : cols.length = n := by have := hcr.1; rw [vC_len] at this; omega
  have hlp : (cols.map Cl.pc).length = n := by rw [List.length_map]; exact hln
  have n8 : n ≤ 8 := by have := hm.2.2.1; change (cols.map Cl.pc).length ≤ 8 at this; omega
  have nI : (n : Int) ≤ 8 := by omega
  have nms : nm.size ≤ 24 := (nb_facts hm.1).2
  have wf : IntKind.i64.wrap f = f := Go.IntWalk.i64_in _ (by have := num31_iff.1 hm.2.2.2.1; change 0 ≤ f ∧ f < 2147483648 at this; omega)
  have hn8 := u8_of (z := (n : Int)) (by omega) (by omega)
  have HC := Lib.hid (And.intro hcr (And.intro hm (And.intro hln (And.intro hlp (And.intro nms (And.intro hlen hn8))))))
  have HH : ∀ k, (headL12 ⟨nm.data.toList, cols.map Cl.pc, f, rr, p⟩ k).length ≤ 600 ∨ 16 < k := fun k => by
    by_cases h : k ≤ 16
    · exact .inl (headL_len hm k h)
    · exact .inr (by omega)
  have HLN := Lib.hid HH
  clear hcr hm hln hlp nms hlen hn8 HH
  go_enter Try.func38, Try.ntmps38
  go_wp2_with fail
  refine (putText_any sv l nm _ base (hown.alloc _) (by simp; omega) HC.out.2.2.2.2.1 (by have := HC.out.2.2.2.2.2.1; omega)).mono ?_
  rintro e w1 ⟨v1, rfl, own1, kp1⟩
  have K1 : Keeps base w w1 := (Keeps.alloc_ hb _).trans kp1
  have B1 : Blk w1 w.heap.size 62 #[.string nm, .slice A n c, .int .u32 f, .int .i64 rr, .int .i64 p] := kp1.blk _ _ _ (by decide) (Blk.new _ _ _)
  have c1 : w1.cell? ⟨w.heap.size, 1, none⟩ = some (.slice A n c) := B1.cell 1
  have H1 := Lib.hid (And.intro own1 (And.intro K1 B1))
  have hb1 := Nat.le_trans hb K1.size
  have lt1 := B1.lt
  clear hown kp1 own1 K1 B1
  go_wp2_with (at_builtin; refine wpList_pushB rfl _ _ rfl base v1 (l ++ txtB nm.data.toList) (UInt8.ofNat (n : Int).toNat) _ (by first | rfl | (simp; done)) H1.out.1 _ (by first | rfl | (simp; done)) (by simp) (by first | exact HC.out.2.2.2.2.2.2.1 | exact HC.out.2.2.2.2.2.2.2) (by have := HC.out.2.2.2.2.2.1; have := HC.out.2.2.2.2.1; rw [List.length_append, txt_len]; have : nm.data.toList.length = nm.size := rfl; omega) hb1 ?_; intro v2 w2 own2 kp2; have B2 := kp2.blk _ _ _ (by decide) H1.out.2.2; have c2 : w2.cell? ⟨w.heap.size, 1, none⟩ = some (.slice A n c) := B2.cell 1; have H2 := Lib.hid (And.intro own2 (And.intro (H1.out.2.1.trans kp2) B2)))
  have hb2 := Nat.le_trans hb H2.out.2.1.size
  go_loopw [0, 21] (fun bv iv wr => ∃ k : Nat, k ≤ n ∧ iv = .int .i64 k ∧ Own wr base bv (l ++ headL12 ⟨nm.data.toList, cols.map Cl.pc, f, rr, p⟩ k) ∧ Keeps base w wr ∧ Blk wr w.heap.size 62 #[.string nm, .slice A n c, .int .u32 f, .int .i64 rr, .int .i64 p]) (fun _ iv _ => n - (intOf iv).toNat)
  case atStart =>
    refine ⟨0, by omega, rfl, ?_, H2.out.2.1, H2.out.2.2⟩
    have h := H2.out.1
    have e : l ++ txtB nm.data.toList ++ [UInt8.ofNat (n : Int).toNat] = l ++ headL12 ⟨nm.data.toList, cols.map Cl.pc, f, rr, p⟩ 0 := by
      unfold headL12 oneB
      rw [show ((cols.map Cl.pc).length : Int) = (n : Int) from by rw [HC.out.2.2.2.1]]
      simp
    rwa [e] at h
  case round =>
    clear c1 c2
    obtain ⟨wo, rfl⟩ : ∃ wo : World, wo = wr := ⟨_, rfl⟩
    obtain ⟨k, hk, rfl, own, kp, hbk⟩ := hrel
    have q0 : (0 : Int) ≤ (k : Int) := by omega
    have hbo := Nat.le_trans hb kp.size
    have d1 : wo.cell? ⟨w.heap.size, 1, none⟩ = some (.slice A n c) := hbk.cell 1
    have blt := hbk.lt
    by_cases hlt : k < n
    · have q1 : (k : Int) < (n : Int) := by omega
      obtain ⟨ad, q, hA, hab, hq, f0, f1, f2, f3⟩ := (HC.out.1.below kp.low).cl_ hlt
      subst hA
      have hpq : (cols.map Cl.pc)[k]? = some q.pc := by rw [List.getElem?_map, hq]; rfl
      have hok := (HC.out.2.1.2.2.2.2.2.2 k (by rw [show (Tb.pt ⟨nm, some ad, n, c, f, rr, p, cols⟩).cols.length = n from HC.out.2.2.2.1]; exact hlt) _ hpq).1
      have hqk := u8_of (z := q.k) (by have := hok.2.1.1; change 1 ≤ q.k at this; omega) (by have := hok.2.1.2; change q.k ≤ 3 at this; omega)
      have hll : (l ++ headL12 ⟨nm.data.toList, cols.map Cl.pc, f, rr, p⟩ k).length ≤ 10600 := by
        have := HC.out.2.2.2.2.2.1
        rcases HLN.out k with h | h
        · rw [List.length_append]; omega
        · omega
      have hst : l ++ headL12 ⟨nm.data.toList, cols.map Cl.pc, f, rr, p⟩ (k + 1) = l ++ headL12 ⟨nm.data.toList, cols.map Cl.pc, f, rr, p⟩ k ++ txtB q.nm.data.toList ++ [UInt8.ofNat q.k.toNat] ++ [q.d, q.u].flatMap fourB := by
        unfold headL12
        rw [flat_take12 colB hpq]
        unfold colB oneB Cl.pc
        simp
      have HQ := Lib.hid (And.intro hok (And.intro hqk (And.intro hll (And.intro hst (And.intro own (And.intro kp hbk))))))
      clear hpq hq hok hqk hll hst own kp hbk
      go_wp2_with fail
      refine (putText_any _ _ q.nm _ base (HQ.out.2.2.2.2.1.alloc _) (by simp; omega) (nb_facts HQ.out.1.1).2 (by have := HQ.out.2.2.1; omega)).mono ?_
      rintro e w3 ⟨v3, rfl, own3, kp3⟩
      have K3 : Keeps base w w3 := HQ.out.2.2.2.2.2.1.trans ((Keeps.alloc_ hbo _).trans kp3)
      have B3 := kp3.blk _ _ _ (by decide) (HQ.out.2.2.2.2.2.2.alloc (.cells #[.string q.nm, .int .u8 q.k, .int .i64 q.d, .int .i64 q.u] 64))
      have C3 := kp3.blk _ _ _ (by decide) (Blk.new wo 64 #[.string q.nm, .int .u8 q.k, .int .i64 q.d, .int .i64 q.u])
      have g1 : w3.cell? ⟨wo.heap.size, 1, none⟩ = some (.int .u8 q.k) := C3.cell 1
      have H3 := Lib.hid (And.intro own3 (And.intro K3 (And.intro B3 C3)))
      have hb3 := Nat.le_trans hb K3.size
      clear own3 K3 B3 C3 kp3 f0 f1 f2 f3
      go_wp2_with (at_builtin; refine wpList_pushB rfl _ _ rfl base v3 _ (UInt8.ofNat q.k.toNat) _ (by first | rfl | (simp; done)) H3.out.1 _ (by first | rfl | (simp; done)) (by simp) (by first | exact HQ.out.2.1.1 | exact HQ.out.2.1.2) (by have := HQ.out.2.2.1; have := (nb_facts HQ.out.1.1).2; change q.nm.data.toList.length ≤ 24 at this; rw [List.length_append, txt_len]; omega) hb3 ?_; intro v4 w4 own4 kp4; have B4 := kp4.blk _ _ _ (by decide) H3.out.2.2.1; have C4 := kp4.blk _ _ _ (by decide) H3.out.2.2.2; have g2 : w4.cell? ⟨wo.heap.size, 2, none⟩ = some (.int .i64 q.d) := C4.cell 2; have g3 : w4.cell? ⟨wo.heap.size, 3, none⟩ = some (.int .i64 q.u) := C4.cell 3; have H4 := Lib.hid (And.intro own4 (And.intro (H3.out.2.1.trans kp4) B4)); clear own4 kp4 B4 C4)
      have hb4 := Nat.le_trans hb H4.out.2.1.size
      refine (putNumbers_any v4 _ (some ⟨w4.heap.size, 0, none⟩) 2 2 [q.d, q.u] _ base (H4.out.1.alloc _) (by simp; omega) (by have := HQ.out.2.2.1; have := (nb_facts HQ.out.1.1).2; change q.nm.data.toList.length ≤ 24 at this; rw [List.length_append, List.length_append, txt_len]; simp only [List.length_cons, List.length_nil]; omega) (by omega) (fun W kW => ⟨_, reads_blk12 (kW.blk _ _ _ (by decide) (Blk.new _ _ _)) rfl rfl⟩) (by
        intro z hz
        simp only [List.mem_cons, List.not_mem_nil, or_false] at hz
        rcases hz with rfl | rfl
        · exact HQ.out.1.2.2.1
        · exact HQ.out.1.2.2.2)).mono ?_
      rintro e w5 ⟨v5, rfl, own5, kp5⟩
      have H5 := Lib.hid (And.intro own5 (And.intro (H4.out.2.1.trans ((Keeps.alloc_ hb4 _).trans kp5)) (kp5.blk _ _ _ (by decide) (H4.out.2.2.alloc (.cells #[.int .i64 q.d, .int .i64 q.u] 3)))))
      clear own5 kp5 g1 g2 g3
      go_wp2
      exact ⟨⟨k + 1, by omega, by go_num, by rw [HQ.out.2.2.2.1]; exact H5.out.1, H5.out.2.1, H5.out.2.2⟩, by simp [intOf]; omega⟩
    · obtain rfl : k = n := by omega
      have d2 : wo.cell? ⟨w.heap.size, 2, none⟩ = some (.int .u32 f) := hbk.cell 2
      have d3 : wo.cell? ⟨w.heap.size, 3, none⟩ = some (.int .i64 rr) := hbk.cell 3
      have d4 : wo.cell? ⟨w.heap.size, 4, none⟩ = some (.int .i64 p) := hbk.cell 4
      have f0 : (0 : Int) ≤ f := by have := num31_iff.1 HC.out.2.1.2.2.2.1; change 0 ≤ f ∧ f < 2147483648 at this; omega
      have f1 : f ≤ 4294967295 := by have := num31_iff.1 HC.out.2.1.2.2.2.1; change 0 ≤ f ∧ f < 2147483648 at this; omega
      have hst : l ++ tabB ⟨nm.data.toList, cols.map Cl.pc, f, rr, p⟩ = l ++ headL12 ⟨nm.data.toList, cols.map Cl.pc, f, rr, p⟩ k ++ [f, rr, p].flatMap fourB := by
        unfold tabB headL12
        rw [List.take_of_length_le (by rw [HC.out.2.2.2.1]; exact Nat.le_refl _)]
        simp
      have hll : (l ++ headL12 ⟨nm.data.toList, cols.map Cl.pc, f, rr, p⟩ k).length ≤ 10600 := by
        have := HC.out.2.2.2.2.2.1
        rcases HLN.out k with h | h
        · rw [List.length_append]; omega
        · omega
      have HQ := Lib.hid (And.intro hst (And.intro hll (And.intro own kp)))
      clear hst hll own kp hbk
      go_wp2_with fail
      refine (putNumbers_any _ _ (some ⟨wo.heap.size, 0, none⟩) 3 3 [f, rr, p] _ base (HQ.out.2.2.1.alloc _) (by simp; omega) (by have := HQ.out.2.1; omega) (by omega) (fun W kW => ⟨_, reads_blk12 (kW.blk _ _ _ (by decide) (Blk.new _ _ _)) rfl rfl⟩) (by
        intro z hz
        simp only [List.mem_cons, List.not_mem_nil, or_false] at hz
        rcases hz with rfl | rfl | rfl
        · exact HC.out.2.1.2.2.2.1
        · exact HC.out.2.1.2.2.2.2.1
        · exact HC.out.2.1.2.2.2.2.2.1)).mono ?_
      rintro e w5 ⟨v5, rfl, own5, kp5⟩
      have H5 := Lib.hid (And.intro own5 (HQ.out.2.2.2.trans ((Keeps.alloc_ hbo _).trans kp5)))
      clear own5 kp5
      go_wp2
      go_ret
      exact ⟨v5, rfl, by rw [show (Tb.pt ⟨nm, A, k, c, f, rr, p, cols⟩) = ⟨nm.data.toList, cols.map Cl.pc, f, rr, p⟩ from rfl, HQ.out.1]; exact H5.out.1, H5.out.2⟩
end
end Go.Proofs.Ytjlpfhioacphkaa
/-
  The program's putIndex.
-/
namespace Go.Proofs.Ytjlpfhioacphkaa
section
set_option linter.unusedSimpArgs false
set_option linter.unusedVariables false
open Go.RowKit

set_option maxRecDepth 100000 in
set_option maxHeartbeats 4000000 in
theorem putIndex_any (sv : Value) (l : List UInt8) (x : Ix) (ts : List PT) (w : World) (base : Nat) (hown : Own w base sv l) (hb : base ≤ w.heap.size) (hlen : l.length ≤ 10000) (hcs : Reads w base 1 x.A x.n (vI64 x.cs)) (hds : Reads w base 1 x.B x.m (vI64 x.ds)) (hm : MayX ts x.px)
    (hrow : (∀ c ∈ x.cs, 0 ≤ c ∧ c < 256) ∧ ∀ d ∈ x.ds, num31 d = true) (htb : x.tb < 256) :
    Calls Try.prog 39 #[sv, x.agg] w (RetOwn w base (l ++ idxB x.px)) := by
  obtain ⟨nm, tb, A, n, c, root, lv, hi, B, m, e', cs, ds⟩ := x
  simp only at hcs hds hrow htb
  have hcl : cs.length = n := by have := hcs.1; rw [vI64_len] at this; omega
  have hdl : ds.length = m := by have := hds.1; rw [vI64_len] at this; omega
  have n2 : n ≤ 2 := by have := hm.2.2.2.2.1; change cs.length ≤ 2 at this; omega
  have m2 : m ≤ 2 := by have := hm.2.2.2.2.2.1; change ds.length = cs.length at this; omega
  have nI : (n : Int) ≤ 2 := by omega
  have nms : nm.size ≤ 24 := (nb_facts hm.1).2
  have r31 := num31_iff.1 hm.2.2.2.2.2.2.2.2.1
  change 0 ≤ root ∧ root < 2147483648 at r31
  have f0 : (0 : Int) ≤ root := r31.1
  have f1 : root ≤ 4294967295 := by omega
  have wf : IntKind.i64.wrap root = root := Go.IntWalk.i64_in _ (by omega)
  have t0 : 0 ≤ tb := hm.2.1
  have hn8 := u8_of (z := (n : Int)) (by omega) (by omega)
  have ht8 := u8_of (z := tb) t0 (by omega)
  have HC := Lib.hid (And.intro hcs (And.intro hds (And.intro hm (And.intro hrow (And.intro hcl (And.intro hdl (And.intro nms (And.intro hlen (And.intro hn8 ht8)))))))))
  have HX := Lib.hid fun k => hdX_len hm k
  clear hcs hds hm hrow hcl hdl nms hlen hn8 ht8 r31
  go_enter Try.func39, Try.ntmps39
  go_wp2_with fail
  refine (putText_any sv l nm _ base (hown.alloc _) (by simp; omega) HC.out.2.2.2.2.2.2.1 (by have := HC.out.2.2.2.2.2.2.2.1; omega)).mono ?_
  rintro e w1 ⟨v1, rfl, own1, kp1⟩
  have K1 : Keeps base w w1 := (Keeps.alloc_ hb _).trans kp1
  have B1 : Blk w1 w.heap.size 67 #[.string nm, .int .i64 tb, .slice A n c, .int .u32 root, .int .i64 lv, .int .i64 hi, .slice B m e'] := kp1.blk _ _ _ (by decide) (Blk.new _ _ _)
  have c1 : w1.cell? ⟨w.heap.size, 1, none⟩ = some (.int .i64 tb) := B1.cell 1
  have c2 : w1.cell? ⟨w.heap.size, 2, none⟩ = some (.slice A n c) := B1.cell 2
  have H1 := Lib.hid (And.intro own1 (And.intro K1 B1))
  have hb1 := Nat.le_trans hb K1.size
  have lt1 := B1.lt
  clear hown kp1 own1 K1 B1
  have hbl : [Value.int .u8 tb, Value.int .u8 (n : Int)] = bL [UInt8.ofNat tb.toNat, UInt8.ofNat (n : Int).toNat] := by
    show _ = [Value.int .u8 ((UInt8.ofNat tb.toNat).toNat : Int), Value.int .u8 ((UInt8.ofNat (n : Int).toNat).toNat : Int)]
    rw [← HC.out.2.2.2.2.2.2.2.2.1.1, ← HC.out.2.2.2.2.2.2.2.2.2.1]
  have HBL := Lib.hid hbl
  clear hbl
  go_wp2_with (at_builtin; refine wpList_appR (w := w1.alloc _) rfl _ _ rfl base v1 (l ++ txtB nm.data.toList) [UInt8.ofNat tb.toNat, UInt8.ofNat (n : Int).toNat] (some ⟨w1.heap.size, 0, none⟩) 2 2 (w1.heap.size + 1) (by first | rfl | (simp; done)) (H1.out.1.alloc _) (by first | rfl | (simp; done)) (by rw [← HBL.out]; exact reads_new w1 _ _ rfl rfl) (by have := HC.out.2.2.2.2.2.2.2.1; have := HC.out.2.2.2.2.2.2.1; rw [List.length_append, txt_len]; have : nm.data.toList.length = nm.size := rfl; simp; omega) (by simp; omega) ?_; intro v2 w2 own2 kp2; have K2 := H1.out.2.1.trans ((Keeps.alloc_ hb1 _).trans kp2); have B2 := kp2.blk _ _ _ (by decide) (H1.out.2.2.alloc (.cells #[.int .u8 tb, .int .u8 (n : Int)] 5)); have c2' : w2.cell? ⟨w.heap.size, 2, none⟩ = some (.slice A n c) := B2.cell 2; have H2 := Lib.hid (And.intro own2 (And.intro K2 B2)); clear kp2 K2 B2)
  go_loopw [0, 24] (fun bv iv wr => ∃ k : Nat, k ≤ n ∧ iv = .int .i64 k ∧ Own wr base bv (l ++ hdX ⟨nm.data.toList, tb, cs, root, lv, hi, ds⟩ k) ∧ Keeps base w wr ∧ Blk wr w.heap.size 67 #[.string nm, .int .i64 tb, .slice A n c, .int .u32 root, .int .i64 lv, .int .i64 hi, .slice B m e']) (fun _ iv _ => n - (intOf iv).toNat)
  case atStart =>
    refine ⟨0, by omega, rfl, ?_, H2.out.2.1, H2.out.2.2⟩
    have h := H2.out.1
    have e : l ++ txtB nm.data.toList ++ [UInt8.ofNat tb.toNat, UInt8.ofNat (n : Int).toNat] = l ++ hdX ⟨nm.data.toList, tb, cs, root, lv, hi, ds⟩ 0 := by
      unfold hdX oneB
      rw [show (cs.length : Int) = (n : Int) from by rw [HC.out.2.2.2.2.1]]
      simp
    rwa [e] at h
  case round =>
    clear c1 c2 c2'
    obtain ⟨wo, rfl⟩ : ∃ wo : World, wo = wr := ⟨_, rfl⟩
    obtain ⟨k, hk, rfl, own, kp, hbk⟩ := hrel
    have q0 : (0 : Int) ≤ (k : Int) := by omega
    have hbo := Nat.le_trans hb kp.size
    have d2 : wo.cell? ⟨w.heap.size, 2, none⟩ = some (.slice A n c) := hbk.cell 2
    have blt := hbk.lt
    have hll : (l ++ hdX ⟨nm.data.toList, tb, cs, root, lv, hi, ds⟩ k).length ≤ 10100 := by
      have := HC.out.2.2.2.2.2.2.2.1
      have := HX.out k
      change (hdX ⟨nm.data.toList, tb, cs, root, lv, hi, ds⟩ k).length ≤ 50 at this
      rw [List.length_append]; omega
    by_cases hlt : k < n
    · have q1 : (k : Int) < (n : Int) := by omega
      obtain ⟨ad, z, hA, hab, hz, f2⟩ := (HC.out.1.below kp.low).i64_ hlt
      subst hA
      have hzz := HC.out.2.2.2.1.1 z (List.mem_of_getElem? hz)
      have z0 := hzz.1
      have z1 : z ≤ 255 := by omega
      have hqk := u8_of z0 z1
      have hst : l ++ hdX ⟨nm.data.toList, tb, cs, root, lv, hi, ds⟩ (k + 1) = l ++ hdX ⟨nm.data.toList, tb, cs, root, lv, hi, ds⟩ k ++ [UInt8.ofNat z.toNat] := by
        unfold hdX
        rw [flat_take12 oneB (show cs[k]? = some z from hz)]
        unfold oneB
        simp
      have HQ := Lib.hid (And.intro hqk (And.intro hll (And.intro hst (And.intro own (And.intro kp hbk)))))
      clear hz hzz hqk hll hst own kp hbk
      go_wp2_with (at_builtin; refine wpList_pushB rfl _ _ rfl base _ _ (UInt8.ofNat z.toNat) _ (by first | rfl | (simp; done)) HQ.out.2.2.2.1 _ (by first | rfl | (simp; done)) (by simp) (by first | exact HQ.out.1.1 | exact HQ.out.1.2) (by have := HQ.out.2.1; omega) hbo ?_; intro v4 w4 own4 kp4)
      exact ⟨⟨k + 1, by omega, by go_num, by rw [HQ.out.2.2.1]; exact own4, HQ.out.2.2.2.2.1.trans kp4, kp4.blk _ _ _ (by decide) HQ.out.2.2.2.2.2⟩, by simp [intOf]; omega⟩
    · obtain rfl : k = n := by omega
      have d3 : wo.cell? ⟨w.heap.size, 3, none⟩ = some (.int .u32 root) := hbk.cell 3
      have d4 : wo.cell? ⟨w.heap.size, 4, none⟩ = some (.int .i64 lv) := hbk.cell 4
      have d5 : wo.cell? ⟨w.heap.size, 5, none⟩ = some (.int .i64 hi) := hbk.cell 5
      have HQ := Lib.hid (And.intro hll (And.intro own (And.intro kp hbk)))
      clear hll own kp hbk
      go_wp2_with fail
      refine (putNumbers_any _ _ (some ⟨wo.heap.size, 0, none⟩) 3 3 [root, lv, hi] _ base (HQ.out.2.1.alloc _) (by simp; omega) (by have := HQ.out.1; omega) (by omega) (fun W kW => ⟨_, reads_blk12 (kW.blk _ _ _ (by decide) (Blk.new _ _ _)) rfl rfl⟩) (by
        intro z hz
        simp only [List.mem_cons, List.not_mem_nil, or_false] at hz
        rcases hz with rfl | rfl | rfl
        · exact HC.out.2.2.1.2.2.2.2.2.2.2.2.1
        · exact HC.out.2.2.1.2.2.2.2.2.2.2.2.2.1
        · exact HC.out.2.2.1.2.2.2.2.2.2.2.2.2.2)).mono ?_
      rintro e w5 ⟨v5, rfl, own5, kp5⟩
      have K5 := HQ.out.2.2.1.trans ((Keeps.alloc_ hbo _).trans kp5)
      have B5 := kp5.blk _ _ _ (by decide) (HQ.out.2.2.2.alloc (.cells #[.int .i64 root, .int .i64 lv, .int .i64 hi] 3))
      have g6 : w5.cell? ⟨w.heap.size, 6, none⟩ = some (.slice B m e') := B5.cell 6
      have H5 := Lib.hid (And.intro own5 K5)
      have hb5 := Nat.le_trans hb K5.size
      clear own5 kp5 K5 B5 d2 d3 d4 d5
      go_wp2_with fail
      refine (putNumbers_any v5 _ B m e' ds _ base H5.out.1 hb5 (by have := HQ.out.1; rw [List.length_append]; have h4 := four_flat [root, lv, hi]; simp only [List.length_cons, List.length_nil] at h4; omega) (by omega) (fun W kW => ⟨_, HC.out.2.1.below (H5.out.2.trans kW).low⟩) HC.out.2.2.2.1.2).mono ?_
      rintro e w6 ⟨v6, rfl, own6, kp6⟩
      have hst : l ++ idxB ⟨nm.data.toList, tb, cs, root, lv, hi, ds⟩ = l ++ hdX ⟨nm.data.toList, tb, cs, root, lv, hi, ds⟩ k ++ [root, lv, hi].flatMap fourB ++ ds.flatMap fourB := by
        unfold idxB hdX
        rw [List.take_of_length_le (by rw [HC.out.2.2.2.2.1]; exact Nat.le_refl _)]
        simp
      have H6 := Lib.hid (And.intro own6 (And.intro (H5.out.2.trans kp6) hst))
      clear own6 kp6 hst
      go_wp2
      go_ret
      exact ⟨v6, rfl, by rw [show (Ix.px ⟨nm, tb, A, k, c, root, lv, hi, B, m, e', cs, ds⟩) = ⟨nm.data.toList, tb, cs, root, lv, hi, ds⟩ from rfl, H6.out.2.2]; exact H6.out.1, H6.out.2.1⟩
end
end Go.Proofs.Ytjlpfhioacphkaa
/-
  The program's Put.
-/
namespace Go.Proofs.Ytjlpfhioacphkaa
section
set_option linter.unusedSimpArgs false
set_option linter.unusedVariables false
open Go.RowKit

/-- What Put answers of a book that may be. -/
def RetBook (w : World) (l : List UInt8) (e : Ending) (w' : World) : Prop := ∃ A n c, e = .returned (.tuple #[.slice A n c, .int .i64 0]) ∧ Own w' w.heap.size (.slice A n c) l ∧ Below w.heap.size w w'
theorem putL_len {ts : List PT} (h : ∀ t ∈ ts, MayT t) (i : Nat) (hi : i ≤ 16) : (putL ts i).length ≤ 6500 := by
  unfold putL
  have := take_le tabB 400 ts i (fun t ht => tab_len (h t ht)) hi
  rw [List.length_append, one_len]; omega
theorem putX_len {ts : List PT} {xs : List PX} (h : ∀ t ∈ ts, MayT t) (hx : ∀ x ∈ xs, MayX ts x) (hn : ts.length ≤ 16) (i : Nat) (hi : i ≤ 16) : (putX ts xs i).length ≤ 8200 := by
  unfold putX
  have h0 := putL_len h ts.length hn
  have := take_le idxB 100 xs i (fun x hx' => idx_len (hx x hx')) hi
  simp only [List.length_append, one_len]; omega
set_option maxRecDepth 100000 in
set_option maxHeartbeats 4000000 in
theorem put_any (A : Option Addr) (n c : Nat) (l : List Tb) (B : Option Addr) (m d : Nat) (r : List Ix) (w : World) (hk : BkIn w A n c l B m d r) (hmay : MayB (pbk l r)) :
    Calls Try.prog 18 #[.agg #[.slice A n c, .slice B m d]] w (RetBook w (bookB (pbk l r))) := by
  have hlp : (l.map Tb.pt).length = n := by rw [List.length_map]; exact hk.ln
  have hrp : (r.map Ix.px).length = m := by rw [List.length_map]; exact hk.rn
  have n16 : n ≤ 16 := by have := hmay.1; change (l.map Tb.pt).length ≤ 16 at this; omega
  have m16 : m ≤ 16 := by have := hmay.2.1; change (r.map Ix.px).length ≤ 16 at this; omega
  have nI : (n : Int) ≤ 16 := by omega
  have mI : (m : Int) ≤ 16 := by omega
  have MT : ∀ t ∈ l.map Tb.pt, MayT t := fun t ht => by
    obtain ⟨i, hi, he⟩ := List.mem_iff_getElem.1 ht
    exact (hmay.2.2.1 i hi t (by show (l.map Tb.pt)[i]? = some t; rw [List.getElem?_eq_getElem hi, he])).1
  have MX : ∀ x ∈ r.map Ix.px, MayX (l.map Tb.pt) x := fun x hx => by
    obtain ⟨i, hi, he⟩ := List.mem_iff_getElem.1 hx
    exact (hmay.2.2.2 i hi x (by show (r.map Ix.px)[i]? = some x; rw [List.getElem?_eq_getElem hi, he])).1
  have hn8 := u8_of (z := (n : Int)) (by omega) (by omega)
  have hm8 := u8_of (z := (m : Int)) (by omega) (by omega)
  have MAY : Hid (∀ W, Below w.heap.size w W → Calls Try.prog 37 #[.agg #[.slice A n c, .slice B m d]] W (RetB W (.bool true))) := Lib.hid fun W hW => (may_any12 A n c l B m d r W (hk.below hW)).mono fun e w' ⟨b, he, hi, hb⟩ => ⟨by rw [he, hi.2 hmay], hb⟩
  have HC := Lib.hid (And.intro hk (And.intro hlp (And.intro hrp (And.intro MT (And.intro MX (And.intro hn8 hm8))))))
  clear hk hlp hrp MT MX hmay hn8 hm8
  go_enter Try.func18, Try.ntmps18
  go_wp2_with fail
  refine (MAY.out _ (ball (Below.refl _ _) _)).mono ?_
  rintro e w1 ⟨rfl, hb1⟩
  have hbk1 : Blk w1 w.heap.size 25 #[.slice A n c, .slice B m d] := (Blk.new _ _ _).below hb1 (by simp)
  have hbw1 := bto0 (ball (Below.refl w.heap.size w) (.cells #[.slice A n c, .slice B m d] 25)) hb1
  have a0 : w1.cell? ⟨w.heap.size, 0, none⟩ = some (.slice A n c) := hbk1.cell 0
  have a1 : w1.cell? ⟨w.heap.size, 1, none⟩ = some (.slice B m d) := hbk1.cell 1
  have a0' : ∀ o, (w1.alloc o).cell? ⟨w.heap.size, 0, none⟩ = some (.slice A n c) := fun o => Lib.cell?_alloc_some _ a0
  have own1 : Own (w1.alloc (.cells #[.int .u8 (n : Int)] 5)) w1.heap.size (.slice (some ⟨w1.heap.size, 0, none⟩) 1 1) (putL (l.map Tb.pt) 0) := by
    have h : Own (w1.alloc (.cells #[.int .u8 (n : Int)] 5)) w1.heap.size (.slice (some ⟨w1.heap.size, 0, none⟩) 1 1) [UInt8.ofNat (n : Int).toNat] := Own.new (l := [UInt8.ofNat (n : Int).toNat]) (by
      have e : (#[.int .u8 (n : Int)] : Array Value) = bV [UInt8.ofNat (n : Int).toNat] := by
        show _ = #[Value.int .u8 ((UInt8.ofNat (n : Int).toNat).toNat : Int)]
        rw [← HC.out.2.2.2.2.2.1.1]
      rw [← e]
      exact Blk.new _ _ _) (by simp [maxLen]) (Nat.le_refl _) rfl
    have e2 : putL (l.map Tb.pt) 0 = [UInt8.ofNat (n : Int).toNat] := by unfold putL oneB; rw [HC.out.2.1]; simp
    rwa [e2]
  have H1 := Lib.hid (And.intro hbw1 (And.intro hbk1 (And.intro own1 (HC.out.1.below hbw1))))
  have lt1 := hbk1.lt
  clear hb1 hbk1 hbw1 own1 MAY
  go_wp2
  go_loopw [4, 20] (fun u v wr => ∃ i : Nat, i ≤ n ∧ v = .int .i64 i ∧ Own wr w1.heap.size u (putL (l.map Tb.pt) i) ∧ Keeps w1.heap.size w1 wr) (fun _ v _ => n - (intOf v).toNat)
  case atStart => exact ⟨0, by omega, rfl, H1.out.2.2.1, Keeps.alloc_ (Nat.le_refl _) _⟩
  case round =>
    obtain ⟨wo, rfl⟩ : ∃ wo : World, wo = wr := ⟨_, rfl⟩
    obtain ⟨i, hi, rfl, own, kp⟩ := hrel
    have q0 : (0 : Int) ≤ (i : Int) := by omega
    have hbk := kp.blk _ _ _ (by decide) H1.out.2.1
    have b0 : wo.cell? ⟨w.heap.size, 0, none⟩ = some (.slice A n c) := hbk.cell 0
    have b1 : wo.cell? ⟨w.heap.size, 1, none⟩ = some (.slice B m d) := hbk.cell 1
    have hbo := kp.size
    clear a0 a1 a0'
    by_cases hlt : i < n
    · have q1 : (i : Int) < (n : Int) := by omega
      obtain ⟨ad, q, hA, hab, hq, d0, d1, d2, d3, d4⟩ := (H1.out.2.2.2.hr.below kp.low).tb_ hlt
      subst hA
      have hpq : (l.map Tb.pt)[i]? = some q.pt := by rw [List.getElem?_map, hq]; rfl
      have hmt := HC.out.2.2.2.1 _ (List.mem_of_getElem? hpq)
      have hq0 := (H1.out.2.2.2.hl q (List.mem_of_getElem? hq)).1.2.2.1.below kp.low
      have hst : putL (l.map Tb.pt) (i + 1) = putL (l.map Tb.pt) i ++ tabB q.pt := by unfold putL; rw [flat_take12 tabB hpq]; simp only [List.append_assoc]
      have hll := putL_len HC.out.2.2.2.1 i (by omega)
      have HQ := Lib.hid (And.intro hmt (And.intro hq0 (And.intro hst (And.intro hll (And.intro own kp)))))
      clear hpq hmt hq0 hst hll own kp hq hbk
      go_wp2_with fail
      refine (putTable_any _ _ q _ w1.heap.size (HQ.out.2.2.2.2.1.alloc _) (by simp; omega) (by have := HQ.out.2.2.2.1; omega) (HQ.out.2.1.below (⟨rfl, rfl, rfl, by simp, fun g hg => Below.heap_alloc _ _ _ (by omega)⟩)) HQ.out.1).mono ?_
      rintro e w2 ⟨v2, rfl, own2, kp2⟩
      have H2 := Lib.hid (And.intro own2 (HQ.out.2.2.2.2.2.trans ((Keeps.alloc_ hbo _).trans kp2)))
      clear own2 kp2
      go_wp2
      exact ⟨⟨i + 1, by omega, by go_num, by rw [HQ.out.2.2.1]; exact H2.out.1, H2.out.2⟩, by simp [intOf]; omega⟩
    · obtain rfl : n = i := by omega
      have hll := putL_len HC.out.2.2.2.1 n (by omega)
      have H3 := Lib.hid (And.intro own (And.intro kp (And.intro hbk hll)))
      have hlt3 := hbk.lt
      clear own kp hbk hll
      go_wp2_with (at_builtin; refine wpList_pushB rfl _ _ rfl w1.heap.size _ (putL (l.map Tb.pt) n) (UInt8.ofNat (m : Int).toNat) _ (by first | rfl | (simp; done)) H3.out.1 _ (by first | rfl | (simp; done)) (by simp) (by first | exact HC.out.2.2.2.2.2.2.1 | exact HC.out.2.2.2.2.2.2.2) (by have := H3.out.2.2.2; omega) hbo ?_; intro v4 w4 own4 kp4; have B4 := kp4.blk _ _ _ (by decide) H3.out.2.2.1; have c4 : w4.cell? ⟨w.heap.size, 1, none⟩ = some (.slice B m d) := B4.cell 1; have H4 := Lib.hid (And.intro own4 (H3.out.2.1.trans kp4)); clear own4 kp4 B4)
      obtain ⟨w9, rfl⟩ : ∃ w9 : World, w9 = wo := ⟨_, rfl⟩
      go_loopw [4, 38] (fun u v wr => ∃ i : Nat, i ≤ m ∧ v = .int .i64 i ∧ Own wr w1.heap.size u (putX (l.map Tb.pt) (r.map Ix.px) i) ∧ Keeps w1.heap.size w1 wr) (fun _ v _ => m - (intOf v).toNat)
      case atStart =>
        refine ⟨0, by omega, rfl, ?_, H4.out.2⟩
        have h := H4.out.1
        have e : putL (l.map Tb.pt) n ++ [UInt8.ofNat (m : Int).toNat] = putX (l.map Tb.pt) (r.map Ix.px) 0 := by
          unfold putX oneB
          rw [HC.out.2.1, HC.out.2.2.1]
          simp
        rwa [e] at h
      case round =>
        clear b0 b1 c4 hi q0
        obtain ⟨wo, rfl⟩ : ∃ wo : World, wo = wr := ⟨_, rfl⟩
        obtain ⟨i, hi, rfl, own, kp⟩ := hrel
        have q0 : (0 : Int) ≤ (i : Int) := by omega
        have hbk := kp.blk _ _ _ (by decide) H1.out.2.1
        have b1 : wo.cell? ⟨w.heap.size, 1, none⟩ = some (.slice B m d) := hbk.cell 1
        have hbo := kp.size
        by_cases hlt : i < m
        · have q1 : (i : Int) < (m : Int) := by omega
          obtain ⟨ad, q, hA, hab, hq, d0, d1, d2, d3, d4, d5, d6⟩ := (H1.out.2.2.2.hx.below kp.low).ix_ hlt
          subst hA
          have hpq : (r.map Ix.px)[i]? = some q.px := by rw [List.getElem?_map, hq]; rfl
          have hmt := HC.out.2.2.2.2.1 _ (List.mem_of_getElem? hpq)
          have hq0 := H1.out.2.2.2.hix q (List.mem_of_getElem? hq)
          have hst : putX (l.map Tb.pt) (r.map Ix.px) (i + 1) = putX (l.map Tb.pt) (r.map Ix.px) i ++ idxB q.px := by unfold putX; rw [flat_take12 idxB hpq]; simp only [List.append_assoc]
          have hll := putX_len HC.out.2.2.2.1 HC.out.2.2.2.2.1 (by rw [HC.out.2.1]; omega) i (by omega)
          have hrow := hmt.row (fun t ht => (HC.out.2.2.2.1 t ht).2.2.1)
          have htb : q.tb < 256 := by have := hmt.2.2.1; change q.tb < ((l.map Tb.pt).length : Int) at this; rw [HC.out.2.1] at this; omega
          have hbl : Below w1.heap.size w1 (wo.alloc (.cells #[.string q.nm, .int .i64 q.tb, .slice q.A q.n q.c, .int .u32 q.root, .int .i64 q.lv, .int .i64 q.hi, .slice q.B q.m q.e] 67)) := ball kp.low _
          have HQ := Lib.hid (And.intro hmt (And.intro (hq0.2.1.below hbl) (And.intro (hq0.2.2.1.below hbl) (And.intro hst (And.intro hll (And.intro hrow (And.intro htb (And.intro own kp))))))))
          clear hpq hmt hq0 hst hll hrow htb own kp hq hbk hbl
          go_wp2_with fail
          refine (putIndex_any _ _ q (l.map Tb.pt) _ w1.heap.size (HQ.out.2.2.2.2.2.2.2.1.alloc _) (by simp; omega) (by have := HQ.out.2.2.2.2.1; omega) HQ.out.2.1 HQ.out.2.2.1 HQ.out.1 HQ.out.2.2.2.2.2.1 HQ.out.2.2.2.2.2.2.1).mono ?_
          rintro e w2 ⟨v2, rfl, own2, kp2⟩
          have H2 := Lib.hid (And.intro own2 (HQ.out.2.2.2.2.2.2.2.2.trans ((Keeps.alloc_ hbo _).trans kp2)))
          clear own2 kp2
          go_wp2
          exact ⟨⟨i + 1, by omega, by go_num, by rw [HQ.out.2.2.2.1]; exact H2.out.1, H2.out.2⟩, by simp [intOf]; omega⟩
        · obtain rfl : m = i := by omega
          have hE : putX (l.map Tb.pt) (r.map Ix.px) m = bookB (pbk l r) := by
            unfold putX bookB putL pbk
            rw [List.take_of_length_le (Nat.le_refl _), List.take_of_length_le (by rw [HC.out.2.2.1]; exact Nat.le_refl _)]
          rw [hE] at own
          obtain ⟨A2, c2, rfl, _⟩ := own.form
          have H9 := Lib.hid (And.intro own kp)
          clear own kp hE hbk
          go_wp2
          go_ret2
          exact ⟨A2, _, c2, rfl, H9.out.1.less H1.out.1.size, bto0 H1.out.1 H9.out.2.low⟩
theorem put_no (A : Option Addr) (n c : Nat) (l : List Tb) (B : Option Addr) (m d : Nat) (r : List Ix) (w : World) (hk : BkIn w A n c l B m d r) (hmay : ¬ MayB (pbk l r)) :
    Calls Try.prog 18 #[.agg #[.slice A n c, .slice B m d]] w (RetB w (.tuple #[.slice none 0 0, .int .i64 1])) := by
  have MAY : Hid (∀ W, Below w.heap.size w W → Calls Try.prog 37 #[.agg #[.slice A n c, .slice B m d]] W (RetB W (.bool false))) := Lib.hid fun W hW => (may_any12 A n c l B m d r W (hk.below hW)).mono fun e w' ⟨b, he, hi, hb⟩ => ⟨by rw [he]; cases b; rfl; exact absurd (hi.1 rfl) hmay, hb⟩
  clear hk hmay
  go_enter Try.func18, Try.ntmps18
  go_wp2_with fail
  refine (MAY.out _ (ball (Below.refl _ _) _)).mono ?_
  rintro e w1 ⟨rfl, hb1⟩
  have hbw := bto0 (ball (Below.refl w.heap.size w) (.cells #[.slice A n c, .slice B m d] 25)) hb1
  clear hb1
  go_wp2
  go_ret2
  exact ⟨rfl, hbw⟩
end
end Go.Proofs.Ytjlpfhioacphkaa
/-
  Same: of two12 books.
-/
namespace Go.Proofs.Ytjlpfhioacphkaa
section
set_option linter.unusedSimpArgs false
set_option linter.unusedVariables false
open Go.RowKit

set_option maxRecDepth 100000 in
set_option maxHeartbeats 2000000 in
theorem eqT_any (A : Option Addr) (n c : Nat) (l : List Tb) (B : Option Addr) (m d : Nat) (r : List Tb) (w : World) (hl : Reads w w.heap.size 5 A n (vTb l)) (hr : Reads w w.heap.size 5 B m (vTb r)) (hlo : ∀ t ∈ l, TbOk w w.heap.size t) (hro : ∀ t ∈ r, TbOk w w.heap.size t) (hn : n ≤ maxLen) (hm : m ≤ maxLen) :
    Calls Try.prog 27 #[.slice A n c, .slice B m d, .func (.func 28) #[] #[]] w (RetM w (l.map Tb.pt = r.map Tb.pt)) := by
  have hln : l.length = n := by have := hl.1; rw [vTb_len] at this; omega
  have hrn : r.length = m := by have := hr.1; rw [vTb_len] at this; omega
  unfold maxLen at hn hm
  have nI : (n : Int) ≤ 9223372036854775807 := by omega
  have mI : (m : Int) ≤ 9223372036854775807 := by omega
  have HC := Lib.hid (And.intro hl (And.intro hr (And.intro hln (And.intro hrn (And.intro hlo hro)))))
  clear hl hr hln hrn hn hm hlo hro
  by_cases hnm : n = m
  · subst hnm
    have e1 : ((n : Int) != (n : Int)) = false := by simp
    go_enter Try.func27, Try.ntmps27
    go_wp2
    go_loopw [17] (fun v wr => ∃ i : Nat, i ≤ n ∧ v = .int .i64 i ∧ Below w.heap.size w wr ∧ ∀ j, j < i → ∀ a b, (l.map Tb.pt)[j]? = some a → (r.map Tb.pt)[j]? = some b → a = b) (fun v _ => n - (intOf v).toNat)
    case atStart => exact ⟨0, by omega, rfl, Below.refl _ _, fun j hj => by omega⟩
    case round =>
      obtain ⟨wo, rfl⟩ : ∃ wo : World, wo = wr := ⟨_, rfl⟩
      obtain ⟨i, hi, rfl, hb, hg⟩ := hrel
      have q0 : (0 : Int) ≤ (i : Int) := by omega
      by_cases hlt : i < n
      · have q1 : (i : Int) < (n : Int) := by omega
        obtain ⟨ad, x, hA, hab, hx0, d0, d1, d2, d3, d4⟩ := (HC.out.1.below hb).tb_ hlt
        obtain ⟨ad2, y, hB, hab2, hy0, g0, g1, g2, g3, g4⟩ := (HC.out.2.1.below hb).tb_ hlt
        have hx : (l.map Tb.pt)[i]? = some (Tb.pt x) := by rw [List.getElem?_map, hx0]; rfl
        have hy : (r.map Tb.pt)[i]? = some (Tb.pt y) := by rw [List.getElem?_map, hy0]; rfl
        subst hA hB
        have SM : Hid (∀ W, Below wo.heap.size wo W → Calls Try.prog 28 #[x.agg, y.agg] W (RetM W (Tb.pt x = Tb.pt y))) := Lib.hid fun W hW => sameTable_any x y W (TbOk.mv (HC.out.2.2.2.2.1 x (List.mem_of_getElem? hx0)) (bto0 hb hW)) (TbOk.mv (HC.out.2.2.2.2.2 y (List.mem_of_getElem? hy0)) (bto0 hb hW))
        have g0' : ∀ o, (wo.alloc o).cell? (ad2.add (i * 5)) = some (.string y.nm) := fun o => Lib.cell?_alloc_some _ g0
        have g1' : ∀ o, (wo.alloc o).cell? ⟨(ad2.add (i * 5)).block, (ad2.add (i * 5)).off + 1, none⟩ = some (.slice y.A y.n y.c) := fun o => Lib.cell?_alloc_some _ g1
        have g2' : ∀ o, (wo.alloc o).cell? ⟨(ad2.add (i * 5)).block, (ad2.add (i * 5)).off + 2, none⟩ = some (.int .u32 y.f) := fun o => Lib.cell?_alloc_some _ g2
        have g3' : ∀ o, (wo.alloc o).cell? ⟨(ad2.add (i * 5)).block, (ad2.add (i * 5)).off + 3, none⟩ = some (.int .i64 y.r) := fun o => Lib.cell?_alloc_some _ g3
        have g4' : ∀ o, (wo.alloc o).cell? ⟨(ad2.add (i * 5)).block, (ad2.add (i * 5)).off + 4, none⟩ = some (.int .i64 y.p) := fun o => Lib.cell?_alloc_some _ g4
        have HG := Lib.hid (And.intro hx (And.intro hy (And.intro hb hg)))
        have hbz := hb.size
        have hwo : w.heap.size < wo.heap.size + 1 := by omega
        clear hx hy hb hg hx0 hy0
        go_wp2_with (first | (go_at_call 28; (with_reducible refine (SM.out _ (by with_reducible repeat (first | exact Below.refl _ _ | refine Below.drew ?_ | refine bdr ?_ _ | refine ball ?_ _))).mono ?_); rintro e w1 ⟨b, rfl, hbb, hb1⟩))
        · have hbf : b = false := by simpa using ‹(!b) = true›
          subst hbf
          go_ret
          exact ⟨false, rfl, ⟨fun h => (by cases h), fun h => (by
            have h1 := HG.out.1
            rw [h, HG.out.2.1] at h1
            exact absurd (hbb.2 (Option.some.inj h1).symm) (by decide))⟩, bto0 (bto0 HG.out.2.2.1 (by with_reducible repeat (first | exact Below.refl _ _ | refine Below.drew ?_ | refine bdr ?_ _ | refine ball ?_ _))) hb1⟩
        · have hbf : b = true := by simpa using ‹(!b) = false›
          subst hbf
          exact ⟨⟨i + 1, by omega, by go_num, bto0 (bto0 HG.out.2.2.1 (by with_reducible repeat (first | exact Below.refl _ _ | refine Below.drew ?_ | refine bdr ?_ _ | refine ball ?_ _))) hb1, fun j hj a b ha hb => by
            by_cases hji : j < i
            · exact HG.out.2.2.2 j hji a b ha hb
            · obtain rfl : j = i := by omega
              rw [HG.out.1] at ha
              rw [HG.out.2.1] at hb
              cases ha
              cases hb
              exact hbb.1 (by first | rfl | trivial)⟩, by simp [intOf]; omega⟩
      · obtain rfl : i = n := by omega
        have HL := Lib.hid (list_eq (by rw [List.length_map, List.length_map]; exact HC.out.2.2.1.trans HC.out.2.2.2.1.symm) fun j hj => hg j (by rw [List.length_map] at hj; rw [← HC.out.2.2.1]; exact hj))
        clear hg
        go_wp2
        go_ret
        exact ⟨true, rfl, ⟨fun _ => HL.out, fun _ => rfl⟩, hb⟩
  · have e1 : ((n : Int) != (m : Int)) = true := by simp; omega
    have HX : Hid (l.map Tb.pt ≠ r.map Tb.pt) := Lib.hid fun h => hnm (by have h1 := congrArg List.length h; rw [List.length_map, List.length_map] at h1; rw [← HC.out.2.2.1, ← HC.out.2.2.2.1]; exact h1)
    go_enter Try.func27, Try.ntmps27
    go_wp2
    go_ret
    exact ⟨false, rfl, ⟨fun h => (by cases h), fun h => absurd h HX.out⟩, Below.refl _ _⟩
set_option maxRecDepth 100000 in
set_option maxHeartbeats 2000000 in
theorem eqX_any (A : Option Addr) (n c : Nat) (l : List Ix) (B : Option Addr) (m d : Nat) (r : List Ix) (w : World) (hl : Reads w w.heap.size 7 A n (vIx l)) (hr : Reads w w.heap.size 7 B m (vIx r)) (hlo : ∀ t ∈ l, IxIn w w.heap.size t) (hro : ∀ t ∈ r, IxIn w w.heap.size t) (hn : n ≤ maxLen) (hm : m ≤ maxLen) :
    Calls Try.prog 29 #[.slice A n c, .slice B m d, .func (.func 30) #[] #[]] w (RetM w (l.map Ix.px = r.map Ix.px)) := by
  have hln : l.length = n := by have := hl.1; rw [vIx_len] at this; omega
  have hrn : r.length = m := by have := hr.1; rw [vIx_len] at this; omega
  unfold maxLen at hn hm
  have nI : (n : Int) ≤ 9223372036854775807 := by omega
  have mI : (m : Int) ≤ 9223372036854775807 := by omega
  have HC := Lib.hid (And.intro hl (And.intro hr (And.intro hln (And.intro hrn (And.intro hlo hro)))))
  clear hl hr hln hrn hn hm hlo hro
  by_cases hnm : n = m
  · subst hnm
    have e1 : ((n : Int) != (n : Int)) = false := by simp
    go_enter Try.func29, Try.ntmps29
    go_wp2
    go_loopw [17] (fun v wr => ∃ i : Nat, i ≤ n ∧ v = .int .i64 i ∧ Below w.heap.size w wr ∧ ∀ j, j < i → ∀ a b, (l.map Ix.px)[j]? = some a → (r.map Ix.px)[j]? = some b → a = b) (fun v _ => n - (intOf v).toNat)
    case atStart => exact ⟨0, by omega, rfl, Below.refl _ _, fun j hj => by omega⟩
    case round =>
      obtain ⟨wo, rfl⟩ : ∃ wo : World, wo = wr := ⟨_, rfl⟩
      obtain ⟨i, hi, rfl, hb, hg⟩ := hrel
      have q0 : (0 : Int) ≤ (i : Int) := by omega
      by_cases hlt : i < n
      · have q1 : (i : Int) < (n : Int) := by omega
        obtain ⟨ad, x, hA, hab, hx0, d0, d1, d2, d3, d4, d5, d6⟩ := (HC.out.1.below hb).ix_ hlt
        obtain ⟨ad2, y, hB, hab2, hy0, g0, g1, g2, g3, g4, g5, g6⟩ := (HC.out.2.1.below hb).ix_ hlt
        have hx : (l.map Ix.px)[i]? = some (Ix.px x) := by rw [List.getElem?_map, hx0]; rfl
        have hy : (r.map Ix.px)[i]? = some (Ix.px y) := by rw [List.getElem?_map, hy0]; rfl
        subst hA hB
        have SM : Hid (∀ W, Below wo.heap.size wo W → Calls Try.prog 30 #[x.agg, y.agg] W (RetM W (Ix.px x = Ix.px y))) := Lib.hid fun W hW => sameIndex_any x y W (IxIn.mv (HC.out.2.2.2.2.1 x (List.mem_of_getElem? hx0)) (bto0 hb hW)) (IxIn.mv (HC.out.2.2.2.2.2 y (List.mem_of_getElem? hy0)) (bto0 hb hW))
        have g0' : ∀ o, (wo.alloc o).cell? (ad2.add (i * 7)) = some (.string y.nm) := fun o => Lib.cell?_alloc_some _ g0
        have g1' : ∀ o, (wo.alloc o).cell? ⟨(ad2.add (i * 7)).block, (ad2.add (i * 7)).off + 1, none⟩ = some (.int .i64 y.tb) := fun o => Lib.cell?_alloc_some _ g1
        have g2' : ∀ o, (wo.alloc o).cell? ⟨(ad2.add (i * 7)).block, (ad2.add (i * 7)).off + 2, none⟩ = some (.slice y.A y.n y.c) := fun o => Lib.cell?_alloc_some _ g2
        have g3' : ∀ o, (wo.alloc o).cell? ⟨(ad2.add (i * 7)).block, (ad2.add (i * 7)).off + 3, none⟩ = some (.int .u32 y.root) := fun o => Lib.cell?_alloc_some _ g3
        have g4' : ∀ o, (wo.alloc o).cell? ⟨(ad2.add (i * 7)).block, (ad2.add (i * 7)).off + 4, none⟩ = some (.int .i64 y.lv) := fun o => Lib.cell?_alloc_some _ g4
        have g5' : ∀ o, (wo.alloc o).cell? ⟨(ad2.add (i * 7)).block, (ad2.add (i * 7)).off + 5, none⟩ = some (.int .i64 y.hi) := fun o => Lib.cell?_alloc_some _ g5
        have g6' : ∀ o, (wo.alloc o).cell? ⟨(ad2.add (i * 7)).block, (ad2.add (i * 7)).off + 6, none⟩ = some (.slice y.B y.m y.e) := fun o => Lib.cell?_alloc_some _ g6
        have HG := Lib.hid (And.intro hx (And.intro hy (And.intro hb hg)))
        have hbz := hb.size
        have hwo : w.heap.size < wo.heap.size + 1 := by omega
        clear hx hy hb hg hx0 hy0
        go_wp2_with (first | (go_at_call 30; (with_reducible refine (SM.out _ (by with_reducible repeat (first | exact Below.refl _ _ | refine Below.drew ?_ | refine bdr ?_ _ | refine ball ?_ _))).mono ?_); rintro e w1 ⟨b, rfl, hbb, hb1⟩))
        · have hbf : b = false := by simpa using ‹(!b) = true›
          subst hbf
          go_ret
          exact ⟨false, rfl, ⟨fun h => (by cases h), fun h => (by
            have h1 := HG.out.1
            rw [h, HG.out.2.1] at h1
            exact absurd (hbb.2 (Option.some.inj h1).symm) (by decide))⟩, bto0 (bto0 HG.out.2.2.1 (by with_reducible repeat (first | exact Below.refl _ _ | refine Below.drew ?_ | refine bdr ?_ _ | refine ball ?_ _))) hb1⟩
        · have hbf : b = true := by simpa using ‹(!b) = false›
          subst hbf
          exact ⟨⟨i + 1, by omega, by go_num, bto0 (bto0 HG.out.2.2.1 (by with_reducible repeat (first | exact Below.refl _ _ | refine Below.drew ?_ | refine bdr ?_ _ | refine ball ?_ _))) hb1, fun j hj a b ha hb => by
            by_cases hji : j < i
            · exact HG.out.2.2.2 j hji a b ha hb
            · obtain rfl : j = i := by omega
              rw [HG.out.1] at ha
              rw [HG.out.2.1] at hb
              cases ha
              cases hb
              exact hbb.1 (by first | rfl | trivial)⟩, by simp [intOf]; omega⟩
      · obtain rfl : i = n := by omega
        have HL := Lib.hid (list_eq (by rw [List.length_map, List.length_map]; exact HC.out.2.2.1.trans HC.out.2.2.2.1.symm) fun j hj => hg j (by rw [List.length_map] at hj; rw [← HC.out.2.2.1]; exact hj))
        clear hg
        go_wp2
        go_ret
        exact ⟨true, rfl, ⟨fun _ => HL.out, fun _ => rfl⟩, hb⟩
  · have e1 : ((n : Int) != (m : Int)) = true := by simp; omega
    have HX : Hid (l.map Ix.px ≠ r.map Ix.px) := Lib.hid fun h => hnm (by have h1 := congrArg List.length h; rw [List.length_map, List.length_map] at h1; rw [← HC.out.2.2.1, ← HC.out.2.2.2.1]; exact h1)
    go_enter Try.func29, Try.ntmps29
    go_wp2
    go_ret
    exact ⟨false, rfl, ⟨fun h => (by cases h), fun h => absurd h HX.out⟩, Below.refl _ _⟩
theorem same_any12 (A : Option Addr) (n c : Nat) (l : List Tb) (B : Option Addr) (m d : Nat) (r : List Ix) (A' : Option Addr) (n' c' : Nat) (l' : List Tb) (B' : Option Addr) (m' d' : Nat) (r' : List Ix) (w : World) (hk : BkIn w A n c l B m d r) (hk' : BkIn w A' n' c' l' B' m' d' r') :
    Calls Try.prog 14 #[.agg #[.slice A n c, .slice B m d], .agg #[.slice A' n' c', .slice B' m' d']] w (RetM w (pbk l r = pbk l' r')) := by
  have ET : Hid (∀ W, Below w.heap.size w W → Calls Try.prog 27 #[.slice A n c, .slice A' n' c', .func (.func 28) #[] #[]] W (RetM W (l.map Tb.pt = l'.map Tb.pt))) := Lib.hid fun W hW => eqT_any A n c l A' n' c' l' W (hk.below hW).hr (hk'.below hW).hr (hk.below hW).hl (hk'.below hW).hl (Nat.le_trans hk.hn.1 hk.hn.2) (Nat.le_trans hk'.hn.1 hk'.hn.2)
  have EX : Hid (∀ W, Below w.heap.size w W → Calls Try.prog 29 #[.slice B m d, .slice B' m' d', .func (.func 30) #[] #[]] W (RetM W (r.map Ix.px = r'.map Ix.px))) := Lib.hid fun W hW => eqX_any B m d r B' m' d' r' W (hk.below hW).hx (hk'.below hW).hx (hk.below hW).hix (hk'.below hW).hix (Nat.le_trans hk.hm.1 hk.hm.2) (Nat.le_trans hk'.hm.1 hk'.hm.2)
  have hE : pbk l r = pbk l' r' ↔ (l.map Tb.pt = l'.map Tb.pt ∧ r.map Ix.px = r'.map Ix.px) := by
    unfold pbk
    rw [PB12.mk.injEq]
  have HE := Lib.hid hE
  clear hk hk' hE
  go_enter Try.func14, Try.ntmps14
  go_wp2_with fail
  refine (ET.out _ (by with_reducible repeat (first | exact Below.refl _ _ | refine ball ?_ _))).mono ?_
  rintro e w1 ⟨b, rfl, hbb, hb1⟩
  have hz1 := hb1.size
  (try simp at hz1)
  have P : Blk w1 (w.heap.size) 25 #[.slice A n c, .slice B m d] := blkOf hb1 (by (try simp) <;> omega) (by with_reducible repeat (first | exact Blk.newAt (by simp) | exact Blk.newAt12 (by simp) | refine Blk.drew ?_ | refine Blk.alloc ?_ _))
  have P_0 : (w1).cell? ⟨w.heap.size, 0, none⟩ = some (.slice A n c) := P.cell 0
  have P_1 : (w1).cell? ⟨w.heap.size, 1, none⟩ = some (.slice B m d) := P.cell 1
  have Q : Blk w1 (w.heap.size + 1) 25 #[.slice A' n' c', .slice B' m' d'] := blkOf hb1 (by (try simp) <;> omega) (by with_reducible repeat (first | exact Blk.newAt (by simp) | exact Blk.newAt12 (by simp) | refine Blk.drew ?_ | refine Blk.alloc ?_ _))
  have Q_0 : (w1).cell? ⟨w.heap.size + 1, 0, none⟩ = some (.slice A' n' c') := Q.cell 0
  have Q_1 : (w1).cell? ⟨w.heap.size + 1, 1, none⟩ = some (.slice B' m' d') := Q.cell 1
  have hbw : Below w.heap.size w w1 := bto0 (by with_reducible repeat (first | exact Below.refl _ _ | refine ball ?_ _)) hb1
  have HB := Lib.hid (And.intro hbb hbw)
  clear P Q hb1 hbb hbw
  cases b with
  | false =>
    go_wp2
    go_ret
    exact ⟨false, rfl, ⟨fun h => (by cases h), fun h => absurd (HB.out.1.2 (HE.out.1 h).1) (by decide)⟩, HB.out.2⟩
  | true =>
    go_wp2_with fail
    refine (EX.out _ HB.out.2).mono ?_
    rintro e w2 ⟨b, rfl, hbb, hb2⟩
    have HB2 := Lib.hid (And.intro hbb hb2)
    clear hbb hb2
    go_wp2
    go_ret
    exact ⟨b, rfl, ⟨fun h => HE.out.2 ⟨HB.out.1.1 (by first | rfl | trivial), HB2.out.1.1 h⟩, fun h => HB2.out.1.2 (HE.out.1 h).2⟩, bto0 HB.out.2 HB2.out.2⟩
end
end Go.Proofs.Ytjlpfhioacphkaa
