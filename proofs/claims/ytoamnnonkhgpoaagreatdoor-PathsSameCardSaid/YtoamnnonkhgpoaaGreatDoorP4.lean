/-
  Are two paths the same? The program's Same; the reference's Like, Same.
-/
import Derived.Test.YtoamnnonkhgpoaaGreatDoorP3
set_option linter.unusedSimpArgs false
set_option linter.unusedVariables false
namespace Go.Proofs.YtoamnnonkhgpoaaGreatDoor
open Go.RowKit

theorem bltp {B : Nat} {w w' : World} {g : Nat} {t : TypeId} {cs : Array Value} (hb : Below B w w') (hg : g < B) (h : Blk w g t cs) : Blk w' g t cs := h.below hb hg
theorem newp {w : World} {t : TypeId} {cs : Array Value} {g : Nat} (h : g = w.heap.size) : Blk (w.alloc (.cells cs t)) g t cs := by subst h; exact Blk.new _ _ _
def SP (p q : Pt) : Prop := p.k = q.k ∧ p.ix = q.ix ∧ p.ot = q.ot ∧ p.rg = q.rg ∧ p.cs = q.cs ∧ p.al = q.al ∧ p.mo = q.mo
def LP (p q : Pt) : Prop := p.k = q.k ∧ p.ix = q.ix ∧ p.ot = q.ot ∧ p.cs = q.cs ∧ p.mo = q.mo
theorem rg_len {w : World} {B : Nat} {A : Option Addr} {n : Nat} {l : List Rg} (h : Reads w B 3 A n (vRg l)) : l.length = n := by have := h.1; rw [vRg_len] at this; omega

set_option maxRecDepth 100000 in
set_option maxHeartbeats 16000000 in
theorem same22_any (p q : Pt) (w : World) (hp : PtIn w w.heap.size p) (hq : PtIn w w.heap.size q) : Calls Tryz.prog 7 #[p.agg, q.agg] w (RetM w (SP p q)) := by
  have HP := Lib.hid fun (W : World) (hb : Below w.heap.size w W) => hp.below hb
  have HQ := Lib.hid fun (W : World) (hb : Below w.heap.size w W) => hq.below hb
  have hSP : SP p q ↔ (p.k = q.k ∧ p.ix = q.ix ∧ p.ot = q.ot ∧ p.rg = q.rg ∧ p.cs = q.cs ∧ p.al = q.al ∧ p.mo = q.mo) := Iff.rfl
  have HSP := Lib.hid hSP
  have hlr := rg_len hp.rg
  have hlr2 := rg_len hq.rg
  have hla := rg_len hp.al
  have hla2 := rg_len hq.al
  obtain ⟨k0, ix0, RA0, rn0, rc0, CA0, cn0, cc0, ot0, AA0, an0, ac0, MA0, mn0, mc0, rg0, cs0, al0, mo0⟩ := p
  obtain ⟨k1, ix1, RA1, rn1, rc1, CA1, cn1, cc1, ot1, AA1, an1, ac1, MA1, mn1, mc1, rg1, cs1, al1, mo1⟩ := q
  simp only [Pt.agg] at *
  have hb0 : Below w.heap.size w ((w.alloc (.cells #[.int .u8 k0, .int .i64 ix0, .slice RA0 rn0 rc0, .slice CA0 cn0 cc0, .int .i64 ot0, .slice AA0 an0 ac0, .slice MA0 mn0 mc0] 29)).alloc (.cells #[.int .u8 k1, .int .i64 ix1, .slice RA1 rn1 rc1, .slice CA1 cn1 cc1, .int .i64 ot1, .slice AA1 an1 ac1, .slice MA1 mn1 mc1] 29)) := ball (ball (Below.refl _ _) _) _
  have HB : Hid (∀ W, Below ((w.alloc (.cells #[.int .u8 k0, .int .i64 ix0, .slice RA0 rn0 rc0, .slice CA0 cn0 cc0, .int .i64 ot0, .slice AA0 an0 ac0, .slice MA0 mn0 mc0] 29)).alloc (.cells #[.int .u8 k1, .int .i64 ix1, .slice RA1 rn1 rc1, .slice CA1 cn1 cc1, .int .i64 ot1, .slice AA1 an1 ac1, .slice MA1 mn1 mc1] 29)).heap.size ((w.alloc (.cells #[.int .u8 k0, .int .i64 ix0, .slice RA0 rn0 rc0, .slice CA0 cn0 cc0, .int .i64 ot0, .slice AA0 an0 ac0, .slice MA0 mn0 mc0] 29)).alloc (.cells #[.int .u8 k1, .int .i64 ix1, .slice RA1 rn1 rc1, .slice CA1 cn1 cc1, .int .i64 ot1, .slice AA1 an1 ac1, .slice MA1 mn1 mc1] 29)) W → (W.cell? ⟨w.heap.size, 0, none⟩ = some (.int .u8 k0) ∧ W.cell? ⟨w.heap.size, 1, none⟩ = some (.int .i64 ix0) ∧ W.cell? ⟨w.heap.size, 2, none⟩ = some (.slice RA0 rn0 rc0) ∧ W.cell? ⟨w.heap.size, 3, none⟩ = some (.slice CA0 cn0 cc0) ∧ W.cell? ⟨w.heap.size, 4, none⟩ = some (.int .i64 ot0) ∧ W.cell? ⟨w.heap.size, 5, none⟩ = some (.slice AA0 an0 ac0) ∧ W.cell? ⟨w.heap.size, 6, none⟩ = some (.slice MA0 mn0 mc0) ∧ W.cell? ⟨w.heap.size + 1, 0, none⟩ = some (.int .u8 k1) ∧ W.cell? ⟨w.heap.size + 1, 1, none⟩ = some (.int .i64 ix1) ∧ W.cell? ⟨w.heap.size + 1, 2, none⟩ = some (.slice RA1 rn1 rc1) ∧ W.cell? ⟨w.heap.size + 1, 3, none⟩ = some (.slice CA1 cn1 cc1) ∧ W.cell? ⟨w.heap.size + 1, 4, none⟩ = some (.int .i64 ot1) ∧ W.cell? ⟨w.heap.size + 1, 5, none⟩ = some (.slice AA1 an1 ac1) ∧ W.cell? ⟨w.heap.size + 1, 6, none⟩ = some (.slice MA1 mn1 mc1)) ∧ Below w.heap.size w W) := by
    refine Lib.hid fun W hW => ?_
    have hX : Blk W w.heap.size 29 #[.int .u8 k0, .int .i64 ix0, .slice RA0 rn0 rc0, .slice CA0 cn0 cc0, .int .i64 ot0, .slice AA0 an0 ac0, .slice MA0 mn0 mc0] := bltp hW (by simp only [alloc_size]; omega) ((Blk.new _ _ _).alloc _)
    have hY : Blk W (w.heap.size + 1) 29 #[.int .u8 k1, .int .i64 ix1, .slice RA1 rn1 rc1, .slice CA1 cn1 cc1, .int .i64 ot1, .slice AA1 an1 ac1, .slice MA1 mn1 mc1] := bltp hW (by simp only [alloc_size]; omega) (newp (by simp))
    exact ⟨⟨hX.cell 0, hX.cell 1, hX.cell 2, hX.cell 3, hX.cell 4, hX.cell 5, hX.cell 6, hY.cell 0, hY.cell 1, hY.cell 2, hY.cell 3, hY.cell 4, hY.cell 5, hY.cell 6⟩, bto0 hb0 hW⟩
  clear hp hq hSP
  by_cases hk : k0 = k1
  rotate_left
  · have ek : (k0 == k1) = false := by simpa using hk
    have HN := Lib.hid hk
    clear hk
    go_enter Tryz.func7, Tryz.ntmps7
    go_wp2
    go_ret
    exact ⟨false, rfl, ⟨fun h => (by cases h), fun h => absurd (HSP.out.1 h) (fun h => HN.out h.1)⟩, hb0⟩
  have ek : (k0 == k1) = true := by simpa using hk
  have Hk := Lib.hid hk
  clear hk
  by_cases hix : ix0 = ix1
  rotate_left
  · have eix : (ix0 == ix1) = false := by simpa using hix
    have HN := Lib.hid hix
    clear hix
    go_enter Tryz.func7, Tryz.ntmps7
    go_wp2
    go_ret
    exact ⟨false, rfl, ⟨fun h => (by cases h), fun h => absurd (HSP.out.1 h) (fun h => HN.out h.2.1)⟩, hb0⟩
  have eix : (ix0 == ix1) = true := by simpa using hix
  have Hix := Lib.hid hix
  clear hix
  by_cases hot : ot0 = ot1
  rotate_left
  · have eot : (ot0 == ot1) = false := by simpa using hot
    have HN := Lib.hid hot
    clear hot
    go_enter Tryz.func7, Tryz.ntmps7
    go_wp2
    go_ret
    exact ⟨false, rfl, ⟨fun h => (by cases h), fun h => absurd (HSP.out.1 h) (fun h => HN.out h.2.2.1)⟩, hb0⟩
  have eot : (ot0 == ot1) = true := by simpa using hot
  have Hot := Lib.hid hot
  clear hot
  go_enter Tryz.func7, Tryz.ntmps7
  go_wp2_with fail
  refine (eqr_any _ _ _ _ _ _ _ _ _ (HP.out _ hb0).rg (HQ.out _ hb0).rg (Nat.le_trans (HP.out _ hb0).rn.1 (HP.out _ hb0).rn.2) (Nat.le_trans (HQ.out _ hb0).rn.1 (HQ.out _ hb0).rn.2)).mono ?_
  rintro e w1 ⟨b1, rfl, hi1, hb1⟩
  have HI1 := Lib.hid hi1
  clear hi1
  have hB1 : Below ((w.alloc (.cells #[.int .u8 k0, .int .i64 ix0, .slice RA0 rn0 rc0, .slice CA0 cn0 cc0, .int .i64 ot0, .slice AA0 an0 ac0, .slice MA0 mn0 mc0] 29)).alloc (.cells #[.int .u8 k1, .int .i64 ix1, .slice RA1 rn1 rc1, .slice CA1 cn1 cc1, .int .i64 ot1, .slice AA1 an1 ac1, .slice MA1 mn1 mc1] 29)).heap.size ((w.alloc (.cells #[.int .u8 k0, .int .i64 ix0, .slice RA0 rn0 rc0, .slice CA0 cn0 cc0, .int .i64 ot0, .slice AA0 an0 ac0, .slice MA0 mn0 mc0] 29)).alloc (.cells #[.int .u8 k1, .int .i64 ix1, .slice RA1 rn1 rc1, .slice CA1 cn1 cc1, .int .i64 ot1, .slice AA1 an1 ac1, .slice MA1 mn1 mc1] 29)) w1 := bto0 (Below.refl _ _) hb1
  obtain ⟨⟨x0, x1, x2, x3, x4, x5, x6, y0, y1, y2, y3, y4, y5, y6⟩, hw1⟩ := HB.out _ hB1
  have hz1 : w.heap.size + 1 < w1.heap.size := by (have := hB1.size); simp only [alloc_size] at this; omega
  cases b1
  · go_wp2
    go_ret
    exact ⟨false, rfl, ⟨fun h => (by cases h), fun h => absurd (HSP.out.1 h) (fun h => (by have := HI1.out.2 (h.2.2.2.1); cases this))⟩, hw1⟩
  have H1 := Lib.hid (HI1.out.1 rfl)
  go_wp2_with fail
  refine (eqi_any _ _ _ _ _ _ _ _ _ (HP.out _ hw1).cs (HQ.out _ hw1).cs (Nat.le_trans (HP.out _ hw1).cn.1 (HP.out _ hw1).cn.2) (Nat.le_trans (HQ.out _ hw1).cn.1 (HQ.out _ hw1).cn.2)).mono ?_
  rintro e w2 ⟨b2, rfl, hi2, hb2⟩
  clear x0 x1 x2 x3 x4 x5 x6 y0 y1 y2 y3 y4 y5 y6
  have HI2 := Lib.hid hi2
  clear hi2
  have hB2 : Below ((w.alloc (.cells #[.int .u8 k0, .int .i64 ix0, .slice RA0 rn0 rc0, .slice CA0 cn0 cc0, .int .i64 ot0, .slice AA0 an0 ac0, .slice MA0 mn0 mc0] 29)).alloc (.cells #[.int .u8 k1, .int .i64 ix1, .slice RA1 rn1 rc1, .slice CA1 cn1 cc1, .int .i64 ot1, .slice AA1 an1 ac1, .slice MA1 mn1 mc1] 29)).heap.size ((w.alloc (.cells #[.int .u8 k0, .int .i64 ix0, .slice RA0 rn0 rc0, .slice CA0 cn0 cc0, .int .i64 ot0, .slice AA0 an0 ac0, .slice MA0 mn0 mc0] 29)).alloc (.cells #[.int .u8 k1, .int .i64 ix1, .slice RA1 rn1 rc1, .slice CA1 cn1 cc1, .int .i64 ot1, .slice AA1 an1 ac1, .slice MA1 mn1 mc1] 29)) w2 := bto0 hB1 hb2
  obtain ⟨⟨x0, x1, x2, x3, x4, x5, x6, y0, y1, y2, y3, y4, y5, y6⟩, hw2⟩ := HB.out _ hB2
  have hz2 : w.heap.size + 1 < w2.heap.size := by (have := hB2.size); simp only [alloc_size] at this; omega
  cases b2
  · go_wp2
    go_ret
    exact ⟨false, rfl, ⟨fun h => (by cases h), fun h => absurd (HSP.out.1 h) (fun h => (by have := HI2.out.2 (h.2.2.2.2.1); cases this))⟩, hw2⟩
  have H2 := Lib.hid (HI2.out.1 rfl)
  go_wp2_with fail
  refine (eqr_any _ _ _ _ _ _ _ _ _ (HP.out _ hw2).al (HQ.out _ hw2).al (Nat.le_trans (HP.out _ hw2).an.1 (HP.out _ hw2).an.2) (Nat.le_trans (HQ.out _ hw2).an.1 (HQ.out _ hw2).an.2)).mono ?_
  rintro e w3 ⟨b3, rfl, hi3, hb3⟩
  clear x0 x1 x2 x3 x4 x5 x6 y0 y1 y2 y3 y4 y5 y6
  have HI3 := Lib.hid hi3
  clear hi3
  have hB3 : Below ((w.alloc (.cells #[.int .u8 k0, .int .i64 ix0, .slice RA0 rn0 rc0, .slice CA0 cn0 cc0, .int .i64 ot0, .slice AA0 an0 ac0, .slice MA0 mn0 mc0] 29)).alloc (.cells #[.int .u8 k1, .int .i64 ix1, .slice RA1 rn1 rc1, .slice CA1 cn1 cc1, .int .i64 ot1, .slice AA1 an1 ac1, .slice MA1 mn1 mc1] 29)).heap.size ((w.alloc (.cells #[.int .u8 k0, .int .i64 ix0, .slice RA0 rn0 rc0, .slice CA0 cn0 cc0, .int .i64 ot0, .slice AA0 an0 ac0, .slice MA0 mn0 mc0] 29)).alloc (.cells #[.int .u8 k1, .int .i64 ix1, .slice RA1 rn1 rc1, .slice CA1 cn1 cc1, .int .i64 ot1, .slice AA1 an1 ac1, .slice MA1 mn1 mc1] 29)) w3 := bto0 hB2 hb3
  obtain ⟨⟨x0, x1, x2, x3, x4, x5, x6, y0, y1, y2, y3, y4, y5, y6⟩, hw3⟩ := HB.out _ hB3
  have hz3 : w.heap.size + 1 < w3.heap.size := by (have := hB3.size); simp only [alloc_size] at this; omega
  cases b3
  · go_wp2
    go_ret
    exact ⟨false, rfl, ⟨fun h => (by cases h), fun h => absurd (HSP.out.1 h) (fun h => (by have := HI3.out.2 (h.2.2.2.2.2.1); cases this))⟩, hw3⟩
  have H3 := Lib.hid (HI3.out.1 rfl)
  go_wp2_with fail
  refine (eqi_any _ _ _ _ _ _ _ _ _ (HP.out _ hw3).mo (HQ.out _ hw3).mo (Nat.le_trans (HP.out _ hw3).mn.1 (HP.out _ hw3).mn.2) (Nat.le_trans (HQ.out _ hw3).mn.1 (HQ.out _ hw3).mn.2)).mono ?_
  rintro e w4 ⟨b4, rfl, hi4, hb4⟩
  clear x0 x1 x2 x3 x4 x5 x6 y0 y1 y2 y3 y4 y5 y6
  have HI4 := Lib.hid hi4
  clear hi4
  have hB4 : Below ((w.alloc (.cells #[.int .u8 k0, .int .i64 ix0, .slice RA0 rn0 rc0, .slice CA0 cn0 cc0, .int .i64 ot0, .slice AA0 an0 ac0, .slice MA0 mn0 mc0] 29)).alloc (.cells #[.int .u8 k1, .int .i64 ix1, .slice RA1 rn1 rc1, .slice CA1 cn1 cc1, .int .i64 ot1, .slice AA1 an1 ac1, .slice MA1 mn1 mc1] 29)).heap.size ((w.alloc (.cells #[.int .u8 k0, .int .i64 ix0, .slice RA0 rn0 rc0, .slice CA0 cn0 cc0, .int .i64 ot0, .slice AA0 an0 ac0, .slice MA0 mn0 mc0] 29)).alloc (.cells #[.int .u8 k1, .int .i64 ix1, .slice RA1 rn1 rc1, .slice CA1 cn1 cc1, .int .i64 ot1, .slice AA1 an1 ac1, .slice MA1 mn1 mc1] 29)) w4 := bto0 hB3 hb4
  obtain ⟨⟨x0, x1, x2, x3, x4, x5, x6, y0, y1, y2, y3, y4, y5, y6⟩, hw4⟩ := HB.out _ hB4
  have hz4 : w.heap.size + 1 < w4.heap.size := by (have := hB4.size); simp only [alloc_size] at this; omega
  cases b4
  · go_wp2
    go_ret
    exact ⟨false, rfl, ⟨fun h => (by cases h), fun h => absurd (HSP.out.1 h) (fun h => (by have := HI4.out.2 (h.2.2.2.2.2.2); cases this))⟩, hw4⟩
  have H4 := Lib.hid (HI4.out.1 rfl)
  go_wp2
  go_ret
  exact ⟨true, rfl, ⟨fun _ => HSP.out.2 ⟨Hk.out, Hix.out, Hot.out, H1.out, H2.out, H3.out, H4.out⟩, fun _ => rfl⟩, hw4⟩

set_option maxRecDepth 100000 in
set_option maxHeartbeats 16000000 in
theorem like22_any (p q : Pt) (w : World) (hp : PtIn w w.heap.size p) (hq : PtIn w w.heap.size q) : Calls Tryz.prog 16 #[p.agg, q.agg] w (RetM w (LP p q)) := by
  have HP := Lib.hid fun (W : World) (hb : Below w.heap.size w W) => hp.below hb
  have HQ := Lib.hid fun (W : World) (hb : Below w.heap.size w W) => hq.below hb
  have hSP : LP p q ↔ (p.k = q.k ∧ p.ix = q.ix ∧ p.ot = q.ot ∧ p.cs = q.cs ∧ p.mo = q.mo) := Iff.rfl
  have HSP := Lib.hid hSP
  have hlr := rg_len hp.rg
  have hlr2 := rg_len hq.rg
  have hla := rg_len hp.al
  have hla2 := rg_len hq.al
  obtain ⟨k0, ix0, RA0, rn0, rc0, CA0, cn0, cc0, ot0, AA0, an0, ac0, MA0, mn0, mc0, rg0, cs0, al0, mo0⟩ := p
  obtain ⟨k1, ix1, RA1, rn1, rc1, CA1, cn1, cc1, ot1, AA1, an1, ac1, MA1, mn1, mc1, rg1, cs1, al1, mo1⟩ := q
  simp only [Pt.agg] at *
  have hb0 : Below w.heap.size w ((w.alloc (.cells #[.int .u8 k0, .int .i64 ix0, .slice RA0 rn0 rc0, .slice CA0 cn0 cc0, .int .i64 ot0, .slice AA0 an0 ac0, .slice MA0 mn0 mc0] 29)).alloc (.cells #[.int .u8 k1, .int .i64 ix1, .slice RA1 rn1 rc1, .slice CA1 cn1 cc1, .int .i64 ot1, .slice AA1 an1 ac1, .slice MA1 mn1 mc1] 29)) := ball (ball (Below.refl _ _) _) _
  have HB : Hid (∀ W, Below ((w.alloc (.cells #[.int .u8 k0, .int .i64 ix0, .slice RA0 rn0 rc0, .slice CA0 cn0 cc0, .int .i64 ot0, .slice AA0 an0 ac0, .slice MA0 mn0 mc0] 29)).alloc (.cells #[.int .u8 k1, .int .i64 ix1, .slice RA1 rn1 rc1, .slice CA1 cn1 cc1, .int .i64 ot1, .slice AA1 an1 ac1, .slice MA1 mn1 mc1] 29)).heap.size ((w.alloc (.cells #[.int .u8 k0, .int .i64 ix0, .slice RA0 rn0 rc0, .slice CA0 cn0 cc0, .int .i64 ot0, .slice AA0 an0 ac0, .slice MA0 mn0 mc0] 29)).alloc (.cells #[.int .u8 k1, .int .i64 ix1, .slice RA1 rn1 rc1, .slice CA1 cn1 cc1, .int .i64 ot1, .slice AA1 an1 ac1, .slice MA1 mn1 mc1] 29)) W → (W.cell? ⟨w.heap.size, 0, none⟩ = some (.int .u8 k0) ∧ W.cell? ⟨w.heap.size, 1, none⟩ = some (.int .i64 ix0) ∧ W.cell? ⟨w.heap.size, 2, none⟩ = some (.slice RA0 rn0 rc0) ∧ W.cell? ⟨w.heap.size, 3, none⟩ = some (.slice CA0 cn0 cc0) ∧ W.cell? ⟨w.heap.size, 4, none⟩ = some (.int .i64 ot0) ∧ W.cell? ⟨w.heap.size, 5, none⟩ = some (.slice AA0 an0 ac0) ∧ W.cell? ⟨w.heap.size, 6, none⟩ = some (.slice MA0 mn0 mc0) ∧ W.cell? ⟨w.heap.size + 1, 0, none⟩ = some (.int .u8 k1) ∧ W.cell? ⟨w.heap.size + 1, 1, none⟩ = some (.int .i64 ix1) ∧ W.cell? ⟨w.heap.size + 1, 2, none⟩ = some (.slice RA1 rn1 rc1) ∧ W.cell? ⟨w.heap.size + 1, 3, none⟩ = some (.slice CA1 cn1 cc1) ∧ W.cell? ⟨w.heap.size + 1, 4, none⟩ = some (.int .i64 ot1) ∧ W.cell? ⟨w.heap.size + 1, 5, none⟩ = some (.slice AA1 an1 ac1) ∧ W.cell? ⟨w.heap.size + 1, 6, none⟩ = some (.slice MA1 mn1 mc1)) ∧ Below w.heap.size w W) := by
    refine Lib.hid fun W hW => ?_
    have hX : Blk W w.heap.size 29 #[.int .u8 k0, .int .i64 ix0, .slice RA0 rn0 rc0, .slice CA0 cn0 cc0, .int .i64 ot0, .slice AA0 an0 ac0, .slice MA0 mn0 mc0] := bltp hW (by simp only [alloc_size]; omega) ((Blk.new _ _ _).alloc _)
    have hY : Blk W (w.heap.size + 1) 29 #[.int .u8 k1, .int .i64 ix1, .slice RA1 rn1 rc1, .slice CA1 cn1 cc1, .int .i64 ot1, .slice AA1 an1 ac1, .slice MA1 mn1 mc1] := bltp hW (by simp only [alloc_size]; omega) (newp (by simp))
    exact ⟨⟨hX.cell 0, hX.cell 1, hX.cell 2, hX.cell 3, hX.cell 4, hX.cell 5, hX.cell 6, hY.cell 0, hY.cell 1, hY.cell 2, hY.cell 3, hY.cell 4, hY.cell 5, hY.cell 6⟩, bto0 hb0 hW⟩
  clear hp hq hSP
  by_cases hk : k0 = k1
  rotate_left
  · have ek : (k0 == k1) = false := by simpa using hk
    have HN := Lib.hid hk
    clear hk
    go_enter Tryz.func16, Tryz.ntmps16
    go_wp2
    go_ret
    exact ⟨false, rfl, ⟨fun h => (by cases h), fun h => absurd (HSP.out.1 h) (fun h => HN.out h.1)⟩, hb0⟩
  have ek : (k0 == k1) = true := by simpa using hk
  have Hk := Lib.hid hk
  clear hk
  by_cases hix : ix0 = ix1
  rotate_left
  · have eix : (ix0 == ix1) = false := by simpa using hix
    have HN := Lib.hid hix
    clear hix
    go_enter Tryz.func16, Tryz.ntmps16
    go_wp2
    go_ret
    exact ⟨false, rfl, ⟨fun h => (by cases h), fun h => absurd (HSP.out.1 h) (fun h => HN.out h.2.1)⟩, hb0⟩
  have eix : (ix0 == ix1) = true := by simpa using hix
  have Hix := Lib.hid hix
  clear hix
  by_cases hot : ot0 = ot1
  rotate_left
  · have eot : (ot0 == ot1) = false := by simpa using hot
    have HN := Lib.hid hot
    clear hot
    go_enter Tryz.func16, Tryz.ntmps16
    go_wp2
    go_ret
    exact ⟨false, rfl, ⟨fun h => (by cases h), fun h => absurd (HSP.out.1 h) (fun h => HN.out h.2.2.1)⟩, hb0⟩
  have eot : (ot0 == ot1) = true := by simpa using hot
  have Hot := Lib.hid hot
  clear hot
  go_enter Tryz.func16, Tryz.ntmps16
  go_wp2_with fail
  refine (eqs_any _ _ _ _ _ _ _ _ _ (HP.out _ hb0).cs (HQ.out _ hb0).cs (Nat.le_trans (HP.out _ hb0).cn.1 (HP.out _ hb0).cn.2) (Nat.le_trans (HQ.out _ hb0).cn.1 (HQ.out _ hb0).cn.2)).mono ?_
  rintro e w1 ⟨b1, rfl, hi1, hb1⟩
  have HI1 := Lib.hid hi1
  clear hi1
  have hB1 : Below ((w.alloc (.cells #[.int .u8 k0, .int .i64 ix0, .slice RA0 rn0 rc0, .slice CA0 cn0 cc0, .int .i64 ot0, .slice AA0 an0 ac0, .slice MA0 mn0 mc0] 29)).alloc (.cells #[.int .u8 k1, .int .i64 ix1, .slice RA1 rn1 rc1, .slice CA1 cn1 cc1, .int .i64 ot1, .slice AA1 an1 ac1, .slice MA1 mn1 mc1] 29)).heap.size ((w.alloc (.cells #[.int .u8 k0, .int .i64 ix0, .slice RA0 rn0 rc0, .slice CA0 cn0 cc0, .int .i64 ot0, .slice AA0 an0 ac0, .slice MA0 mn0 mc0] 29)).alloc (.cells #[.int .u8 k1, .int .i64 ix1, .slice RA1 rn1 rc1, .slice CA1 cn1 cc1, .int .i64 ot1, .slice AA1 an1 ac1, .slice MA1 mn1 mc1] 29)) w1 := bto0 (Below.refl _ _) hb1
  obtain ⟨⟨x0, x1, x2, x3, x4, x5, x6, y0, y1, y2, y3, y4, y5, y6⟩, hw1⟩ := HB.out _ hB1
  have hz1 : w.heap.size + 1 < w1.heap.size := by (have := hB1.size); simp only [alloc_size] at this; omega
  cases b1
  · go_wp2
    go_ret
    exact ⟨false, rfl, ⟨fun h => (by cases h), fun h => absurd (HSP.out.1 h) (fun h => (by have := HI1.out.2 (h.2.2.2.1); cases this))⟩, hw1⟩
  have H1 := Lib.hid (HI1.out.1 rfl)
  go_wp2_with fail
  refine (eqs_any _ _ _ _ _ _ _ _ _ (HP.out _ hw1).mo (HQ.out _ hw1).mo (Nat.le_trans (HP.out _ hw1).mn.1 (HP.out _ hw1).mn.2) (Nat.le_trans (HQ.out _ hw1).mn.1 (HQ.out _ hw1).mn.2)).mono ?_
  rintro e w2 ⟨b2, rfl, hi2, hb2⟩
  clear x0 x1 x2 x3 x4 x5 x6 y0 y1 y2 y3 y4 y5 y6
  have HI2 := Lib.hid hi2
  clear hi2
  have hB2 : Below ((w.alloc (.cells #[.int .u8 k0, .int .i64 ix0, .slice RA0 rn0 rc0, .slice CA0 cn0 cc0, .int .i64 ot0, .slice AA0 an0 ac0, .slice MA0 mn0 mc0] 29)).alloc (.cells #[.int .u8 k1, .int .i64 ix1, .slice RA1 rn1 rc1, .slice CA1 cn1 cc1, .int .i64 ot1, .slice AA1 an1 ac1, .slice MA1 mn1 mc1] 29)).heap.size ((w.alloc (.cells #[.int .u8 k0, .int .i64 ix0, .slice RA0 rn0 rc0, .slice CA0 cn0 cc0, .int .i64 ot0, .slice AA0 an0 ac0, .slice MA0 mn0 mc0] 29)).alloc (.cells #[.int .u8 k1, .int .i64 ix1, .slice RA1 rn1 rc1, .slice CA1 cn1 cc1, .int .i64 ot1, .slice AA1 an1 ac1, .slice MA1 mn1 mc1] 29)) w2 := bto0 hB1 hb2
  obtain ⟨⟨x0, x1, x2, x3, x4, x5, x6, y0, y1, y2, y3, y4, y5, y6⟩, hw2⟩ := HB.out _ hB2
  have hz2 : w.heap.size + 1 < w2.heap.size := by (have := hB2.size); simp only [alloc_size] at this; omega
  cases b2
  · go_wp2
    go_ret
    exact ⟨false, rfl, ⟨fun h => (by cases h), fun h => absurd (HSP.out.1 h) (fun h => (by have := HI2.out.2 (h.2.2.2.2); cases this))⟩, hw2⟩
  have H2 := Lib.hid (HI2.out.1 rfl)
  go_wp2
  go_ret
  exact ⟨true, rfl, ⟨fun _ => HSP.out.2 ⟨Hk.out, Hix.out, Hot.out, H1.out, H2.out⟩, fun _ => rfl⟩, hw2⟩

end Go.Proofs.YtoamnnonkhgpoaaGreatDoor
