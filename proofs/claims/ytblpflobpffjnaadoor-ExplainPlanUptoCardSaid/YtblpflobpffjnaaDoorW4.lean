
/-
  The reference's Plan.
-/
import Derived.Test.YtblpflobpffjnaaDoorWl
import Derived.Test.YtblpflobpffjnaaDoorW3
set_option linter.unusedSimpArgs false
set_option linter.unusedVariables false
namespace Go.Proofs.YtblpflobpffjnaaDoor
open Go.RowKit

section
variable {w : World} {Bd : Nat} {A : Option Addr} {n : Nat} {tbs : List Tb} {B : Option Addr} {m : Nat} {ixs : List Ix} {K : Option Addr} {kn : Nat} {ks : List Int}
set_option maxRecDepth 100000 in
set_option maxHeartbeats 4000000 in
theorem rplan_any (E : EnvB w Bd A n tbs B m ixs K kn ks) (hBd : Bd ≤ w.heap.size) (c d kc : Nat) (v0 v2 v3 v4 v5 v6 v7 v8 v9 v10 : Value) (P : Option Addr) (pn pc : Nat) (sps : List Sp) (srt : Bool)
    (hr : Reads w w.heap.size 11 P pn (vSp sps)) (hok : ∀ x ∈ sps, x.ok) (hn : pn ≤ 50) :
    Calls Tryd.prog 9 #[.agg #[.slice A n c, .slice B m d], .agg #[v0, .slice K kn kc, v2, v3, v4, v5, v6, v7, v8, v9, v10], .agg #[.slice P pn pc, .bool srt]] w (RetB w (.string (str (planT tbs ks ixs sps srt)))) := by
  have hln : sps.length = pn := by have := hr.1; rw [vSp_len] at this; omega
  have pI : (pn : Int) ≤ 50 := by omega
  obtain ⟨WA, hWA⟩ : ∃ WA, ((w.alloc (.cells #[.slice A n c, .slice B m d] 25)).alloc (.cells #[v0, .slice K kn kc, v2, v3, v4, v5, v6, v7, v8, v9, v10] 32)).alloc (.cells #[.slice P pn pc, .bool srt] 35) = WA := ⟨_, rfl⟩
  have hbA : Below w.heap.size w WA := hWA ▸ ball (ball (ball (Below.refl w.heap.size w) _) _) _
  have B0 : Blk WA w.heap.size 25 #[.slice A n c, .slice B m d] := hWA ▸ ((Blk.new w _ _).alloc _).alloc _
  have B1 : Blk WA (w.heap.size + 1) 32 #[v0, .slice K kn kc, v2, v3, v4, v5, v6, v7, v8, v9, v10] := by
    have h := Blk.new (w.alloc (.cells #[.slice A n c, .slice B m d] 25)) 32 #[v0, .slice K kn kc, v2, v3, v4, v5, v6, v7, v8, v9, v10]
    rw [alloc_size] at h
    exact hWA ▸ h.alloc _
  have B2 : Blk WA (w.heap.size + 1 + 1) 35 #[.slice P pn pc, .bool srt] := by
    have h := Blk.new ((w.alloc (.cells #[.slice A n c, .slice B m d] 25)).alloc (.cells #[v0, .slice K kn kc, v2, v3, v4, v5, v6, v7, v8, v9, v10] 32)) 35 #[.slice P pn pc, .bool srt]
    rw [alloc_size, alloc_size] at h
    exact hWA ▸ h
  have hzA : w.heap.size + 1 + 1 + 1 = WA.heap.size := by rw [← hWA, alloc_size, alloc_size, alloc_size]
  have HRD := Lib.hid fun (W : World) (hb : Below WA.heap.size WA W) => hr.below (bto0 hbA hb)
  have HST := Lib.hid fun (x : Sp) (hx : x.ok) (W : World) (hb : Below WA.heap.size WA W) => rstep30_any (E.below ((bto0 hbA hb).mono hBd)) (Nat.le_trans hBd (bto0 hbA hb).size) c d kc v0 v2 v3 v4 v5 v6 v7 v8 v9 v10 x hx
  have hS := Lib.hid fun (W : World) (hb : Below WA.heap.size WA W) => (show W.cell? ⟨w.heap.size, 0, none⟩ = some (.slice A n c) ∧ W.cell? ⟨w.heap.size, 1, none⟩ = some (.slice B m d) ∧ W.cell? ⟨w.heap.size + 1, 0, none⟩ = some (v0) ∧ W.cell? ⟨w.heap.size + 1, 1, none⟩ = some (.slice K kn kc) ∧ W.cell? ⟨w.heap.size + 1, 2, none⟩ = some (v2) ∧ W.cell? ⟨w.heap.size + 1, 3, none⟩ = some (v3) ∧ W.cell? ⟨w.heap.size + 1, 4, none⟩ = some (v4) ∧ W.cell? ⟨w.heap.size + 1, 5, none⟩ = some (v5) ∧ W.cell? ⟨w.heap.size + 1, 6, none⟩ = some (v6) ∧ W.cell? ⟨w.heap.size + 1, 7, none⟩ = some (v7) ∧ W.cell? ⟨w.heap.size + 1, 8, none⟩ = some (v8) ∧ W.cell? ⟨w.heap.size + 1, 9, none⟩ = some (v9) ∧ W.cell? ⟨w.heap.size + 1, 10, none⟩ = some (v10) ∧ W.cell? ⟨w.heap.size + 1 + 1, 0, none⟩ = some (.slice P pn pc) ∧ W.cell? ⟨w.heap.size + 1 + 1, 1, none⟩ = some (.bool srt) from
    ⟨(hb.cell (by simp <;> omega)).trans (B0.cell 0), (hb.cell (by simp <;> omega)).trans (B0.cell 1), (hb.cell (by simp <;> omega)).trans (B1.cell 0), (hb.cell (by simp <;> omega)).trans (B1.cell 1), (hb.cell (by simp <;> omega)).trans (B1.cell 2), (hb.cell (by simp <;> omega)).trans (B1.cell 3), (hb.cell (by simp <;> omega)).trans (B1.cell 4), (hb.cell (by simp <;> omega)).trans (B1.cell 5), (hb.cell (by simp <;> omega)).trans (B1.cell 6), (hb.cell (by simp <;> omega)).trans (B1.cell 7), (hb.cell (by simp <;> omega)).trans (B1.cell 8), (hb.cell (by simp <;> omega)).trans (B1.cell 9), (hb.cell (by simp <;> omega)).trans (B1.cell 10), (hb.cell (by simp <;> omega)).trans (B2.cell 0), (hb.cell (by simp <;> omega)).trans (B2.cell 1)⟩)
  have HBA := Lib.hid hbA
  have HOK := Lib.hid hok
  have HLN := Lib.hid hln
  have HTN := Lib.hid (And.intro E.tn E.xn)
  have HP := Lib.hid (show planT tbs ks ixs sps srt = sps.flatMap (stepT tbs ks ixs) ++ (if srt = true then [115, 111, 114, 116, 10] else []) from rfl)
  clear E B0 B1 B2 hbA hok hln hr hn
  have nu : w.heap.size < WA.heap.size := by omega
  have nu1 : w.heap.size + 1 < WA.heap.size := by omega
  have nu2 : w.heap.size + 1 + 1 < WA.heap.size := by omega
  clear hzA
  obtain ⟨f0, f1, f2, f3, f4, f5, f6, f7, f8, f9, f10, f11, f12, f13, f14⟩ := hS.out _ (Below.refl _ _)
  go_enter Tryd.func9, Tryd.ntmps9
  go_wp2
  clear f0 f1 f2 f3 f4 f5 f6 f7 f8 f9 f10 f11 f12 f13 f14
  go_loopw [7, 12] (fun sv kv wr => ∃ k : Nat, k ≤ pn ∧ kv = .int .i64 k ∧ sv = .string (str ((sps.take k).flatMap (stepT tbs ks ixs))) ∧ Below WA.heap.size WA wr) (fun _ kv _ => pn - (intOf kv).toNat)
  case atStart => exact ⟨0, Nat.zero_le _, rfl, rfl, Below.refl _ _⟩
  case round =>
    obtain ⟨k, hk, rfl, rfl, hb⟩ := hrel
    have k0 : (0 : Int) ≤ (k : Int) := by omega
    have hzr := hb.size
    have g0 : w.heap.size < wr.heap.size := by omega
    have g1 : w.heap.size + 1 < wr.heap.size := by omega
    have g2 : w.heap.size + 1 + 1 < wr.heap.size := by omega
    obtain ⟨f0, f1, f2, f3, f4, f5, f6, f7, f8, f9, f10, f11, f12, f13, f14⟩ := hS.out wr hb
    have hlb := flat_bound (stepT tbs ks ixs) 9439001 (sps.take k) fun x hx => by
      have := join30_bd (ks := ks) HTN.out.1 HTN.out.2 (HOK.out x (List.mem_of_mem_take hx))
      unfold stepT
      rw [List.length_append, List.length_cons, List.length_nil]
      omega
    have hlt2 : (sps.take k).length ≤ 50 := by rw [List.length_take, HLN.out]; omega
    have hlb2 : ((sps.take k).flatMap (stepT tbs ks ixs)).length ≤ 50 * 9439001 := Nat.le_trans hlb (Nat.mul_le_mul_right _ hlt2)
    clear hlb hlt2
    by_cases hlt : k < pn
    · have k1 : (k : Int) < (pn : Int) := by omega
      obtain ⟨ad, x, rfl, hab, hx, d0, dall⟩ := (HRD.out wr hb).sp_ hlt
      have d1 := dall 0 _ rfl
      have d2 := dall 1 _ rfl
      have d3 := dall 2 _ rfl
      have d4 := dall 3 _ rfl
      have d5 := dall 4 _ rfl
      have d6 := dall 5 _ rfl
      have d7 := dall 6 _ rfl
      have d8 := dall 7 _ rfl
      have d9 := dall 8 _ rfl
      have d10 := dall 9 _ rfl
      have hxm := List.mem_of_getElem? hx
      have hnx := flat_take (stepT tbs ks ixs) hx
      have hsl : (stepT tbs ks ixs x).length ≤ 9439001 := by
        have := join30_bd (ks := ks) HTN.out.1 HTN.out.2 (HOK.out x hxm)
        unfold stepT
        rw [List.length_append, List.length_cons, List.length_nil]
        omega
      have HSX := Lib.hid (HST.out x (HOK.out x hxm))
      unfold Sp.agg at HSX
      have HNX := Lib.hid hnx
      clear dall hx hxm hnx
      generalize stepT tbs ks ixs x = SX at *
      generalize hL : (sps.take k).flatMap (stepT tbs ks ixs) = L at *
      clear hL
      have hSS := Lib.hid fun (W : World) (hb : Below wr.heap.size wr W) => (show W.cell? (ad.add (k * 11)) = some (.int .i64 x.tb) ∧ W.cell? ⟨(ad.add (k * 11)).block, (ad.add (k * 11)).off + 1, none⟩ = some (.int .u8 x.m) ∧ W.cell? ⟨(ad.add (k * 11)).block, (ad.add (k * 11)).off + 2, none⟩ = some (.int .u8 x.pk) ∧ W.cell? ⟨(ad.add (k * 11)).block, (ad.add (k * 11)).off + 3, none⟩ = some (.int .i64 x.pi) ∧ W.cell? ⟨(ad.add (k * 11)).block, (ad.add (k * 11)).off + 4, none⟩ = some (.slice x.rA x.rn x.rc) ∧ W.cell? ⟨(ad.add (k * 11)).block, (ad.add (k * 11)).off + 5, none⟩ = some (.slice x.cA x.cn x.cc) ∧ W.cell? ⟨(ad.add (k * 11)).block, (ad.add (k * 11)).off + 6, none⟩ = some (.int .i64 x.po) ∧ W.cell? ⟨(ad.add (k * 11)).block, (ad.add (k * 11)).off + 7, none⟩ = some (.slice x.aA x.an x.ac) ∧ W.cell? ⟨(ad.add (k * 11)).block, (ad.add (k * 11)).off + 8, none⟩ = some (.slice x.mA x.mn x.mc) ∧ W.cell? ⟨(ad.add (k * 11)).block, (ad.add (k * 11)).off + 9, none⟩ = some (.int .i64 x.ix) ∧ W.cell? ⟨(ad.add (k * 11)).block, (ad.add (k * 11)).off + 10, none⟩ = some (.int .i64 x.jn) ∧ Below wr.heap.size wr W from ⟨(hb.cell (by rw [block_of_add]; omega)).trans d0, (hb.cell (p := ⟨(ad.add (k * 11)).block, (ad.add (k * 11)).off + 1, none⟩) (by simp only [block_of_add]; omega)).trans d1, (hb.cell (p := ⟨(ad.add (k * 11)).block, (ad.add (k * 11)).off + 2, none⟩) (by simp only [block_of_add]; omega)).trans d2, (hb.cell (p := ⟨(ad.add (k * 11)).block, (ad.add (k * 11)).off + 3, none⟩) (by simp only [block_of_add]; omega)).trans d3, (hb.cell (p := ⟨(ad.add (k * 11)).block, (ad.add (k * 11)).off + 4, none⟩) (by simp only [block_of_add]; omega)).trans d4, (hb.cell (p := ⟨(ad.add (k * 11)).block, (ad.add (k * 11)).off + 5, none⟩) (by simp only [block_of_add]; omega)).trans d5, (hb.cell (p := ⟨(ad.add (k * 11)).block, (ad.add (k * 11)).off + 6, none⟩) (by simp only [block_of_add]; omega)).trans d6, (hb.cell (p := ⟨(ad.add (k * 11)).block, (ad.add (k * 11)).off + 7, none⟩) (by simp only [block_of_add]; omega)).trans d7, (hb.cell (p := ⟨(ad.add (k * 11)).block, (ad.add (k * 11)).off + 8, none⟩) (by simp only [block_of_add]; omega)).trans d8, (hb.cell (p := ⟨(ad.add (k * 11)).block, (ad.add (k * 11)).off + 9, none⟩) (by simp only [block_of_add]; omega)).trans d9, (hb.cell (p := ⟨(ad.add (k * 11)).block, (ad.add (k * 11)).off + 10, none⟩) (by simp only [block_of_add]; omega)).trans d10, hb⟩)
      have hS2 := Lib.hid fun (W : World) (hb2 : Below wr.heap.size wr W) => hS.out W (bto0 hb hb2)
      have HB := Lib.hid hb
      have o1 : ¬ 9223372036854775807 < (str L).size + (str SX).size := by rw [str_size, str_size]; omega
      have e1 : str L ++ str SX = str (L ++ SX) := str_app30 L SX
      clear hb
      go_wp2
      go_region_held3 (fun W => (W.cell? ⟨w.heap.size, 0, none⟩ = some (.slice A n c) ∧ W.cell? ⟨w.heap.size, 1, none⟩ = some (.slice B m d) ∧ W.cell? ⟨w.heap.size + 1, 0, none⟩ = some (v0) ∧ W.cell? ⟨w.heap.size + 1, 1, none⟩ = some (.slice K kn kc) ∧ W.cell? ⟨w.heap.size + 1, 2, none⟩ = some (v2) ∧ W.cell? ⟨w.heap.size + 1, 3, none⟩ = some (v3) ∧ W.cell? ⟨w.heap.size + 1, 4, none⟩ = some (v4) ∧ W.cell? ⟨w.heap.size + 1, 5, none⟩ = some (v5) ∧ W.cell? ⟨w.heap.size + 1, 6, none⟩ = some (v6) ∧ W.cell? ⟨w.heap.size + 1, 7, none⟩ = some (v7) ∧ W.cell? ⟨w.heap.size + 1, 8, none⟩ = some (v8) ∧ W.cell? ⟨w.heap.size + 1, 9, none⟩ = some (v9) ∧ W.cell? ⟨w.heap.size + 1, 10, none⟩ = some (v10) ∧ W.cell? ⟨w.heap.size + 1 + 1, 0, none⟩ = some (.slice (some ad) pn pc) ∧ W.cell? ⟨w.heap.size + 1 + 1, 1, none⟩ = some (.bool srt)) ∧ (W.cell? (ad.add (k * 11)) = some (.int .i64 x.tb) ∧ W.cell? ⟨(ad.add (k * 11)).block, (ad.add (k * 11)).off + 1, none⟩ = some (.int .u8 x.m) ∧ W.cell? ⟨(ad.add (k * 11)).block, (ad.add (k * 11)).off + 2, none⟩ = some (.int .u8 x.pk) ∧ W.cell? ⟨(ad.add (k * 11)).block, (ad.add (k * 11)).off + 3, none⟩ = some (.int .i64 x.pi) ∧ W.cell? ⟨(ad.add (k * 11)).block, (ad.add (k * 11)).off + 4, none⟩ = some (.slice x.rA x.rn x.rc) ∧ W.cell? ⟨(ad.add (k * 11)).block, (ad.add (k * 11)).off + 5, none⟩ = some (.slice x.cA x.cn x.cc) ∧ W.cell? ⟨(ad.add (k * 11)).block, (ad.add (k * 11)).off + 6, none⟩ = some (.int .i64 x.po) ∧ W.cell? ⟨(ad.add (k * 11)).block, (ad.add (k * 11)).off + 7, none⟩ = some (.slice x.aA x.an x.ac) ∧ W.cell? ⟨(ad.add (k * 11)).block, (ad.add (k * 11)).off + 8, none⟩ = some (.slice x.mA x.mn x.mc) ∧ W.cell? ⟨(ad.add (k * 11)).block, (ad.add (k * 11)).off + 9, none⟩ = some (.int .i64 x.ix) ∧ W.cell? ⟨(ad.add (k * 11)).block, (ad.add (k * 11)).off + 10, none⟩ = some (.int .i64 x.jn) ∧ Below wr.heap.size wr W))
        (first | exact ⟨hS2.out _ (by (with_reducible repeat (first | exact Below.refl _ _ | exact hb1 | refine bto0 ?_ hb1 | refine bdr ?_ _ | refine Below.drew ?_ | refine ball ?_ _))), hSS.out _ (by (with_reducible repeat (first | exact Below.refl _ _ | exact hb1 | refine bto0 ?_ hb1 | refine bdr ?_ _ | refine Below.drew ?_ | refine ball ?_ _)))⟩ | assumption)
        (first
          | (go_at_call 23; (with_reducible refine (HSX.out _ (bto0 HB.out (by (with_reducible repeat (first | exact Below.refl _ _ | exact hb1 | refine bto0 ?_ hb1 | refine bdr ?_ _ | refine Below.drew ?_ | refine ball ?_ _))))).mono ?_); rintro e w1 ⟨rfl, hb1⟩))
      have hbw : Below WA.heap.size WA w1 := bto0 HB.out (by (with_reducible repeat (first | exact Below.refl _ _ | exact hb1 | refine bto0 ?_ hb1 | refine bdr ?_ _ | refine Below.drew ?_ | refine ball ?_ _)))
      go_wp2
      go_roundw
      case rel => exact ⟨k + 1, by omega, by go_num, by rw [HNX.out], hbw⟩
      case measure => simp [intOf]; omega
    · obtain rfl : pn = k := by omega
      have hfin : Hid ((sps.take pn).flatMap (stepT tbs ks ixs) = sps.flatMap (stepT tbs ks ixs)) := Lib.hid (by rw [List.take_of_length_le (by rw [HLN.out]; omega)])
      rw [hfin.out] at hlb2 ⊢
      generalize sps.flatMap (stepT tbs ks ixs) = L at *
      have o1 : ¬ 9223372036854775807 < (str L).size + 5 := by rw [str_size]; omega
      have e1 : str L ++ (⟨#[115, 111, 114, 116, 10]⟩ : ByteArray) = str (L ++ [115, 111, 114, 116, 10]) := str_app30 L [115, 111, 114, 116, 10]
      cases srt
      · go_wp2
        go_ret
        exact ⟨by rw [HP.out]; simp, bto0 HBA.out hb⟩
      · go_wp2
        go_ret
        exact ⟨by rw [HP.out]; rfl, bto0 HBA.out hb⟩
end
end Go.Proofs.YtblpflobpffjnaaDoor
