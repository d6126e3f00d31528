
/-
  The law ExplainAnswer: its walk.
-/
import Derived.Test.YtblpflobpffjnaaDoorWt
import Derived.Deep.RegionHeld3
set_option linter.unusedSimpArgs false
set_option linter.unusedVariables false
namespace Go.Proofs.YtblpflobpffjnaaDoor
open Go.RowKit

def sumN : List (List UInt8) → Int
  | [] => 0
  | x :: r => (1 + min (x.length : Int) 9000) + sumN r
theorem sumN_snoc : ∀ (l : List (List UInt8)) (x : List UInt8), sumN (l ++ [x]) = sumN l + (1 + min (x.length : Int) 9000)
  | [], x => by simp [sumN]
  | y :: r, x => by
    rw [List.cons_append, sumN, sumN, sumN_snoc r x]
    omega
theorem sumN_bd : ∀ l : List (List UInt8), (l.length : Int) ≤ sumN l ∧ sumN l ≤ 9001 * (l.length : Int)
  | [] => by simp [sumN]
  | x :: r => by
    have h := sumN_bd r
    rw [sumN]
    simp only [List.length_cons]
    omega
theorem sumN_mem : ∀ {l : List (List UInt8)} {x : List UInt8}, x ∈ l → 1 + min (x.length : Int) 9000 ≤ sumN l
  | y :: r, x, h => by
    have hb := sumN_bd r
    rw [sumN]
    rcases List.mem_cons.1 h with rfl | h
    · omega
    · have := sumN_mem h
      omega

set_option maxRecDepth 100000 in
set_option maxHeartbeats 4000000 in
theorem explainAnswer_any (NA : Option Addr) (nn nc : Nat) (names : List (List UInt8)) (RA : Option Addr) (rn rc : Nat) (rows : List Rw) (w : World) (hv : VM w) (hN : Reads w w.heap.size 1 NA nn (vStr names)) (hl : ∀ x ∈ names, x.length ≤ maxLen) (hnn : nn ≤ 8796093022208)
    (hR : Reads w w.heap.size 1 RA rn (vRw rows)) (he : ∀ r ∈ rows, Reads w w.heap.size 3 r.A r.n (vV r.l) ∧ r.n ≤ maxLen ∧ ∀ v ∈ r.l, v.ok) (hrn : rn ≤ maxLen) :
    Calls Tryd.prog 4 #[.agg #[.slice NA nn nc, .slice RA rn rc]] w (RetB w (.bool true)) := by
  have hln : names.length = nn := by have := hN.1; rw [vStr_len] at this; omega
  have rI : (rn : Int) ≤ 9223372036854775807 := by unfold maxLen at hrn; omega
  have nI : (nn : Int) ≤ 8796093022208 := by omega
  have HV := Lib.hid fun (W : World) (hb : Below w.heap.size w W) => hv.below0 hb
  have HF := Lib.hid fun (W : World) (hb : Below w.heap.size w W) => fixed30_any W (hv.below0 hb).t
  have HN := Lib.hid fun (W : World) (hb : Below w.heap.size w W) => hN.below hb
  have HG := Lib.hid fun (W : World) (hb : Below w.heap.size w W) (g : Nat) (hg : W.cell? ⟨g, 0, none⟩ = some (.slice RA rn rc)) => great13_any g RA rn rc rows W hg ((hR.below hb).more hb.size) (fun r hr => ⟨((he r hr).1.below hb).more hb.size, (he r hr).2.1, fun v hv => ((he r hr).2.2 v hv).2.2⟩) hrn
  have HAI := Lib.hid fun (W : World) (hb : Below w.heap.size w W) (h1 : sumN names ≤ 9000) (h2 : rn ≤ 300) (h3 : ∀ r ∈ rows, grV 0 r.l = false) => (show AnsIn W W.heap.size NA nn names RA rn rows from
    ⟨(hN.below hb).more hb.size, (hR.below hb).more hb.size, fun r hr => ⟨((he r hr).1.below hb).more hb.size, by
      have hs := (grV_small (Int.le_refl 0) (h3 r hr)).2
      have hl := (he r hr).1.1
      rw [vV_len] at hl
      omega, fun v hv => ⟨((he r hr).2.2 v hv).2.1.1, ((he r hr).2.2 v hv).2.1.2, (grV_small (Int.le_refl 0) (h3 r hr)).1 v hv⟩⟩, by
      have := (sumN_bd names).1
      rw [hln] at this
      omega, fun x hx => by
      have := sumN_mem hx
      omega, h2⟩)
  have HLN := Lib.hid hln
  have HLM := Lib.hid hl
  have HB0 := Lib.hid (And.intro (ball (Below.refl w.heap.size w) (.cells #[.slice NA nn nc, .slice RA rn rc] 42)) (Blk.new w 42 #[.slice NA nn nc, .slice RA rn rc]))
  clear hv hN hR he hln hrn hl hnn
  go_enter Tryd.func4, Tryd.ntmps4
  go_wp2
  go_loopw [3, 9] (fun u v wr => ∃ k : Nat, k ≤ nn ∧ v = .int .i64 k ∧ u = .int .i64 (sumN (names.take k)) ∧ Below w.heap.size w wr ∧ Blk wr w.heap.size 42 #[.slice NA nn nc, .slice RA rn rc]) (fun _ v _ => nn - (intOf v).toNat)
  case atStart => exact ⟨0, Nat.zero_le _, rfl, rfl, HB0.out.1, HB0.out.2⟩
  case round =>
    obtain ⟨k, hk, rfl, rfl, hb, hB⟩ := hrel
    have k0 : (0 : Int) ≤ (k : Int) := by omega
    have b0 : wr.cell? ⟨w.heap.size, 0, none⟩ = some (.slice NA nn nc) := hB.cell 0
    have b1 : wr.cell? ⟨w.heap.size, 1, none⟩ = some (.slice RA rn rc) := hB.cell 1
    have hbd := sumN_bd (names.take k)
    have htl : (names.take k).length = k := by rw [List.length_take, HLN.out]; omega
    rw [htl] at hbd
    by_cases hlt : k < nn
    · have k1 : (k : Int) < (nn : Int) := by omega
      obtain ⟨ad, x, rfl, hab, hx, d0⟩ := (HN.out wr hb).strs hlt
      have hxm := HLM.out x (List.mem_of_getElem? hx)
      have hst : Hid (sumN (names.take (k + 1)) = sumN (names.take k) + (1 + min ((str x).size : Int) 9000)) := Lib.hid (by rw [List.take_add_one, hx]; show sumN (names.take k ++ [x]) = _; rw [sumN_snoc, str_size])
      have xI : ((str x).size : Int) ≤ 9223372036854775807 := by rw [str_size]; unfold maxLen at hxm; omega
      have HX := Lib.hid (And.intro hb hB)
      generalize sumN (names.take k) = S at *
      clear hx hxm htl hb hB
      go_wp2
      go_roundw
      case rel => exact ⟨k + 1, by omega, by go_num, by rw [hst.out], HX.out.1, HX.out.2⟩
      case measure => simp [intOf]; omega
    · obtain rfl : nn = k := by omega
      have hfin : names.take nn = names := List.take_of_length_le (by rw [HLN.out]; omega)
      rw [hfin] at hbd
      rw [hfin]
      have HX := Lib.hid (And.intro hb hB)
      clear hfin htl hB
      by_cases hs : 9000 < sumN names
      · clear hbd
        generalize sumN names = S at *
        go_wp2_with fail
        refine (HF.out _ HX.out.1).mono ?_
        rintro e w2 ⟨rfl, hb2⟩
        go_wp2
        go_ret
        exact ⟨rfl, bto0 HX.out.1 hb2⟩
      · have hs' : sumN names ≤ 9000 := by omega
        by_cases hr3 : 300 < rn
        · have r3 : (300 : Int) < (rn : Int) := by omega
          clear hbd hr3
          generalize sumN names = S at *
          go_wp2_with fail
          refine (HF.out _ HX.out.1).mono ?_
          rintro e w2 ⟨rfl, hb2⟩
          go_wp2
          go_ret
          exact ⟨rfl, bto0 HX.out.1 hb2⟩
        · have r3 : (rn : Int) ≤ 300 := by omega
          have HA2 := Lib.hid fun (W : World) (hb : Below w.heap.size w W) (h3 : ∀ r ∈ rows, grV 0 r.l = false) => HAI.out W hb hs' (by omega) h3
          clear hbd hr3
          generalize sumN names = S at *
          obtain ⟨WG, hWG⟩ : ∃ WG, wr.alloc (.cells #[.slice RA rn rc] 40) = WG := ⟨_, rfl⟩
          have hbG : Below w.heap.size w WG := hWG ▸ ball hb _
          have hgc : WG.cell? ⟨wr.heap.size, 0, none⟩ = some (.slice RA rn rc) := by rw [← hWG]; exact (Blk.new wr 40 #[.slice RA rn rc]).cell 0
          have hBG : Blk WG w.heap.size 42 #[.slice NA nn nc, .slice RA rn rc] := hWG ▸ HX.out.2.alloc _
          have HGG := Lib.hid (HG.out WG hbG wr.heap.size hgc)
          have HZ := Lib.hid (And.intro hbG hBG)
          clear hbG hgc hBG hb
          go_wp2_with fail
          refine HGG.out.mono ?_
          rintro e w1 ⟨b, rfl, hb1, hgr⟩
          have hbw1 := bto0 HZ.out.1 hb1
          have hB1 := HZ.out.2.below hb1 HZ.out.2.lt
          clear b0 b1
          cases b with
          | true =>
            clear hgr
            go_wp2_with fail
            refine (HF.out _ hbw1).mono ?_
            rintro e w2 ⟨rfl, hb2⟩
            go_wp2
            go_ret
            exact ⟨rfl, bto0 hbw1 hb2⟩
          | false =>
            have hgr' := hgr rfl
            have HP1 := Lib.hid fun (W : World) (hb : Below w.heap.size w W) => answer_any NA nn nc names RA rn rc rows W (HV.out W hb) (HA2.out W hb hgr')
            have HP2 := Lib.hid fun (W : World) (hb : Below w.heap.size w W) => ranswer_any NA nn nc names RA rn rc rows W (HA2.out W hb hgr')
            generalize str (ansT names rows) = T at *
            have hTT : (T.toList == T.toList) = true := by simp
            have hS := Lib.hid fun (W : World) (hb : Below w1.heap.size w1 W) => (show W.cell? ⟨w.heap.size, 0, none⟩ = some (.slice NA nn nc) ∧ W.cell? ⟨w.heap.size, 1, none⟩ = some (.slice RA rn rc) ∧ Below w1.heap.size w1 W from ⟨(hb.cell (by have := hB1.lt; exact this)).trans (hB1.cell 0), (hb.cell (by have := hB1.lt; exact this)).trans (hB1.cell 1), hb⟩)
            have HW1 := Lib.hid hbw1
            clear hgr hgr' hB1 hbw1 hb1
            go_wp2
            go_region_held3 (fun W => W.cell? ⟨w.heap.size, 0, none⟩ = some (.slice NA nn nc) ∧ W.cell? ⟨w.heap.size, 1, none⟩ = some (.slice RA rn rc) ∧ Below w1.heap.size w1 W)
              (first | exact hS.out _ (by (with_reducible repeat (first | exact Below.refl _ _ | exact hb4 | exact hb3 | exact hb2 | refine bto0 ?_ hb4 | refine bto0 ?_ hb3 | refine bto0 ?_ hb2 | refine bdr ?_ _ | refine Below.drew ?_ | refine ball ?_ _))) | assumption)
              (first
                | (go_at_call 7; (with_reducible refine (HF.out _ (bto0 HW1.out (by (with_reducible repeat (first | exact Below.refl _ _ | exact hb4 | exact hb3 | exact hb2 | refine bto0 ?_ hb4 | refine bto0 ?_ hb3 | refine bto0 ?_ hb2 | refine bdr ?_ _ | refine Below.drew ?_ | refine ball ?_ _))))).mono ?_); rintro e w2 ⟨rfl, hb2⟩)
                | (go_at_call 11; (with_reducible refine (HP1.out _ (bto0 HW1.out (by (with_reducible repeat (first | exact Below.refl _ _ | exact hb4 | exact hb3 | exact hb2 | refine bto0 ?_ hb4 | refine bto0 ?_ hb3 | refine bto0 ?_ hb2 | refine bdr ?_ _ | refine Below.drew ?_ | refine ball ?_ _))))).mono ?_); rintro e w3 ⟨rfl, hb3⟩)
                | (go_at_call 12; (with_reducible refine (HP2.out _ (bto0 HW1.out (by (with_reducible repeat (first | exact Below.refl _ _ | exact hb4 | exact hb3 | exact hb2 | refine bto0 ?_ hb4 | refine bto0 ?_ hb3 | refine bto0 ?_ hb2 | refine bdr ?_ _ | refine Below.drew ?_ | refine ball ?_ _))))).mono ?_); rintro e w4 ⟨rfl, hb4⟩))
            go_wp2
            go_ret
            exact ⟨ret_bool (by simp), bto0 HW1.out (by (with_reducible repeat (first | exact Below.refl _ _ | exact hb4 | exact hb3 | exact hb2 | refine bto0 ?_ hb4 | refine bto0 ?_ hb3 | refine bto0 ?_ hb2 | refine bdr ?_ _ | refine Below.drew ?_ | refine ball ?_ _)))⟩
end Go.Proofs.YtblpflobpffjnaaDoor
