/-
  Are two paths the same? The reference's Same.
-/
import Derived.Test.YtoamnnonkhgpoaaGreatDoorP4
set_option linter.unusedSimpArgs false
set_option linter.unusedVariables false
namespace Go.Proofs.YtoamnnonkhgpoaaGreatDoor
open Go.RowKit

set_option maxRecDepth 100000 in
set_option maxHeartbeats 16000000 in
theorem rsame22_any (p q : Pt) (w : World) (hp : PtIn w w.heap.size p) (hq : PtIn w w.heap.size q) : Calls Tryz.prog 8 #[p.agg, q.agg] w (RetM w (SP p q)) := by
  have HP := Lib.hid fun (W : World) (hb : Below w.heap.size w W) => hp.below hb
  have HQ := Lib.hid fun (W : World) (hb : Below w.heap.size w W) => hq.below hb
  have HLK := Lib.hid fun (W : World) (hb : Below w.heap.size w W) => like22_any p q W (hp.below hb) (hq.below hb)
  have hLP : LP p q ↔ (p.k = q.k ∧ p.ix = q.ix ∧ p.ot = q.ot ∧ p.cs = q.cs ∧ p.mo = q.mo) := Iff.rfl
  have HLP := Lib.hid hLP
  have hnr := Nat.le_trans hp.rn.1 hp.rn.2
  have hna := Nat.le_trans hp.an.1 hp.an.2
  have hnr2 := Nat.le_trans hq.rn.1 hq.rn.2
  have hna2 := Nat.le_trans hq.an.1 hq.an.2
  have hSP : SP p q ↔ (p.k = q.k ∧ p.ix = q.ix ∧ p.ot = q.ot ∧ p.rg = q.rg ∧ p.cs = q.cs ∧ p.al = q.al ∧ p.mo = q.mo) := Iff.rfl
  have HSP := Lib.hid hSP
  have hlr := rg_len hp.rg
  have hlr2 := rg_len hq.rg
  have hla := rg_len hp.al
  have hla2 := rg_len hq.al
  obtain ⟨k0, ix0, RA0, rn0, rc0, CA0, cn0, cc0, ot0, AA0, an0, ac0, MA0, mn0, mc0, rg0, cs0, al0, mo0⟩ := p
  obtain ⟨k1, ix1, RA1, rn1, rc1, CA1, cn1, cc1, ot1, AA1, an1, ac1, MA1, mn1, mc1, rg1, cs1, al1, mo1⟩ := q
  simp only [Pt.agg] at *
  have hb0 : Below w.heap.size w ((w.alloc (.cells #[.int .u8 k0, .int .i64 ix0, .slice RA0 rn0 rc0, .slice CA0 cn0 cc0, .int .i64 ot0, .slice AA0 an0 ac0, .slice MA0 mn0 mc0] 29)).alloc (.cells #[.int .u8 k1, .int .i64 ix1, .slice RA1 rn1 rc1, .slice CA1 cn1 cc1, .int .i64 ot1, .slice AA1 an1 ac1, .slice MA1 mn1 mc1] 29)) := ball (ball (Below.refl _ _) _) _
  have HB : Hid (∀ W, Below ((w.alloc (.cells #[.int .u8 k0, .int .i64 ix0, .slice RA0 rn0 rc0, .slice CA0 cn0 cc0, .int .i64 ot0, .slice AA0 an0 ac0, .slice MA0 mn0 mc0] 29)).alloc (.cells #[.int .u8 k1, .int .i64 ix1, .slice RA1 rn1 rc1, .slice CA1 cn1 cc1, .int .i64 ot1, .slice AA1 an1 ac1, .slice MA1 mn1 mc1] 29)).heap.size ((w.alloc (.cells #[.int .u8 k0, .int .i64 ix0, .slice RA0 rn0 rc0, .slice CA0 cn0 cc0, .int .i64 ot0, .slice AA0 an0 ac0, .slice MA0 mn0 mc0] 29)).alloc (.cells #[.int .u8 k1, .int .i64 ix1, .slice RA1 rn1 rc1, .slice CA1 cn1 cc1, .int .i64 ot1, .slice AA1 an1 ac1, .slice MA1 mn1 mc1] 29)) W → (W.cell? ⟨w.heap.size, 0, none⟩ = some (.int .u8 k0) ∧ W.cell? ⟨w.heap.size, 1, none⟩ = some (.int .i64 ix0) ∧ W.cell? ⟨w.heap.size, 2, none⟩ = some (.slice RA0 rn0 rc0) ∧ W.cell? ⟨w.heap.size, 3, none⟩ = some (.slice CA0 cn0 cc0) ∧ W.cell? ⟨w.heap.size, 4, none⟩ = some (.int .i64 ot0) ∧ W.cell? ⟨w.heap.size, 5, none⟩ = some (.slice AA0 an0 ac0) ∧ W.cell? ⟨w.heap.size, 6, none⟩ = some (.slice MA0 mn0 mc0) ∧ W.cell? ⟨w.heap.size + 1, 0, none⟩ = some (.int .u8 k1) ∧ W.cell? ⟨w.heap.size + 1, 1, none⟩ = some (.int .i64 ix1) ∧ W.cell? ⟨w.heap.size + 1, 2, none⟩ = some (.slice RA1 rn1 rc1) ∧ W.cell? ⟨w.heap.size + 1, 3, none⟩ = some (.slice CA1 cn1 cc1) ∧ W.cell? ⟨w.heap.size + 1, 4, none⟩ = some (.int .i64 ot1) ∧ W.cell? ⟨w.heap.size + 1, 5, none⟩ = some (.slice AA1 an1 ac1) ∧ W.cell? ⟨w.heap.size + 1, 6, none⟩ = some (.slice MA1 mn1 mc1)) ∧ Below w.heap.size w W) := by
    refine Lib.hid fun W hW => ?_
    have hX : Blk W w.heap.size 29 #[.int .u8 k0, .int .i64 ix0, .slice RA0 rn0 rc0, .slice CA0 cn0 cc0, .int .i64 ot0, .slice AA0 an0 ac0, .slice MA0 mn0 mc0] := bltp hW (by simp only [alloc_size]; omega) ((Blk.new _ _ _).alloc _)
    have hY : Blk W (w.heap.size + 1) 29 #[.int .u8 k1, .int .i64 ix1, .slice RA1 rn1 rc1, .slice CA1 cn1 cc1, .int .i64 ot1, .slice AA1 an1 ac1, .slice MA1 mn1 mc1] := bltp hW (by simp only [alloc_size]; omega) (newp (by simp))
    exact ⟨⟨hX.cell 0, hX.cell 1, hX.cell 2, hX.cell 3, hX.cell 4, hX.cell 5, hX.cell 6, hY.cell 0, hY.cell 1, hY.cell 2, hY.cell 3, hY.cell 4, hY.cell 5, hY.cell 6⟩, bto0 hb0 hW⟩
  clear hp hq hSP hLP
  unfold maxLen at hnr hna hnr2 hna2
  go_enter Tryz.func8, Tryz.ntmps8
  go_wp2_with fail
  refine (HLK.out _ hb0).mono ?_
  rintro e w1 ⟨b, rfl, hi, hb1⟩
  have HI := Lib.hid hi
  clear hi
  obtain ⟨⟨x0, x1, x2, x3, x4, x5, x6, y0, y1, y2, y3, y4, y5, y6⟩, hw1⟩ := HB.out _ hb1
  have hz1 : w.heap.size + 1 < w1.heap.size := by (have := hb1.size); simp only [alloc_size] at this; omega
  cases b
  · go_wp2
    go_ret
    exact ⟨false, rfl, ⟨fun h => (by cases h), fun h => by (have h := HSP.out.1 h; have := HI.out.2 (HLP.out.2 ⟨h.1, h.2.1, h.2.2.1, h.2.2.2.2.1, h.2.2.2.2.2.2⟩); cases this)⟩, hw1⟩
  have HL := Lib.hid (HLP.out.1 (HI.out.1 rfl))
  clear HI HLK
  have HLN := Lib.hid (And.intro hlr (And.intro hlr2 (And.intro hla hla2)))
  clear hlr hlr2 hla hla2
  have nr : (rn0 : Int) ≤ 9223372036854775807 := by omega
  have na : (an0 : Int) ≤ 9223372036854775807 := by omega
  have nr2 : (rn1 : Int) ≤ 9223372036854775807 := by omega
  have na2 : (an1 : Int) ≤ 9223372036854775807 := by omega
  clear hnr hna hnr2 hna2
  by_cases hr : rn0 = rn1
  rotate_left
  · have er : ((rn0 : Int) != (rn1 : Int)) = true := by simp; omega
    have HN := Lib.hid hr
    clear hr
    go_wp2
    go_ret
    exact ⟨false, rfl, ⟨fun h => (by cases h), fun h => absurd (congrArg List.length (HSP.out.1 h).2.2.2.1) (by rw [HLN.out.1, HLN.out.2.1]; exact HN.out)⟩, hw1⟩
  by_cases ha : an0 = an1
  rotate_left
  · have er : ((rn0 : Int) != (rn1 : Int)) = false := by simp; omega
    have ea : ((an0 : Int) != (an1 : Int)) = true := by simp; omega
    have HN := Lib.hid ha
    clear ha hr
    go_wp2
    go_ret
    exact ⟨false, rfl, ⟨fun h => (by cases h), fun h => absurd (congrArg List.length (HSP.out.1 h).2.2.2.2.2.1) (by rw [HLN.out.2.2.1, HLN.out.2.2.2]; exact HN.out)⟩, hw1⟩
  subst hr
  subst ha
  have er : ((rn0 : Int) != (rn0 : Int)) = false := by simp
  have ea : ((an0 : Int) != (an0 : Int)) = false := by simp
  go_wp2_with fail
  clear x0 x1 x2 x3 x4 x5 x6 y0 y1 y2 y3 y4 y5 y6
  go_loopw [32] (fun v wr => ∃ i : Nat, i ≤ rn0 ∧ v = .int .i64 i ∧ Below w1.heap.size w1 wr ∧ ∀ j, j < i → ∀ a b, rg0[j]? = some a → rg1[j]? = some b → a = b) (fun v _ => rn0 - (intOf v).toNat)
  case atStart => exact ⟨0, by omega, rfl, Below.refl _ _, fun j hj => by omega⟩
  case round =>
    obtain ⟨i, hi, rfl, hb, hg⟩ := hrel
    have q0 : (0 : Int) ≤ (i : Int) := by omega
    have hbr := bto0 hb1 hb
    obtain ⟨⟨x0, x1, x2, x3, x4, x5, x6, y0, y1, y2, y3, y4, y5, y6⟩, hwr⟩ := HB.out _ hbr
    have hz2 : w.heap.size + 1 < wr.heap.size := by (have := hb.size); omega
    by_cases hlt : i < rn0
    · have q1 : (i : Int) < (rn0 : Int) := by omega
      obtain ⟨ad, x, hA, hab, hx, f0, f1, f2⟩ := (HP.out _ hwr).rg.rg_ hlt
      obtain ⟨ad2, y, hBB, hab2, hy, g0, g1, g2⟩ := (HQ.out _ hwr).rg.rg_ hlt
      simp only at hA hBB hx hy
      subst hA hBB
      have HG := Lib.hid (And.intro hx (And.intro hy (And.intro hb hg)))
      clear hx hy hb hg
      obtain ⟨xn, xk, xd⟩ := x
      obtain ⟨yn, yk, yd⟩ := y
      simp only at f0 f1 f2 g0 g1 g2
      by_cases hall : (xn.data.toList = yn.data.toList ∧ xk.data.toList = yk.data.toList) ∧ xd = yd
      · obtain ⟨⟨h1, h2⟩, rfl⟩ := hall
        obtain rfl : xn = yn := nm_bytes _ _ (by rw [ByteArray.toList_eq, ByteArray.toList_eq]; exact h1)
        obtain rfl : xk = yk := nm_bytes _ _ (by rw [ByteArray.toList_eq, ByteArray.toList_eq]; exact h2)
        clear h1 h2
        go_wp2
        go_quiet (fail)
        go_wp2
        exact ⟨⟨i + 1, by omega, by go_num, bdr HG.out.2.2.1 _, fun j hj a b ha hb => by
          by_cases hji : j < i
          · exact HG.out.2.2.2 j hji a b ha hb
          · obtain rfl : j = i := by omega
            rw [HG.out.1] at ha
            rw [HG.out.2.1] at hb
            cases ha
            cases hb
            rfl⟩, by simp [intOf]; omega⟩
      · have HX : Hid (rg0 ≠ rg1) := Lib.hid fun h => hall (by
          have h1 := HG.out.1
          rw [h, HG.out.2.1] at h1
          have h2 := Option.some.inj h1
          simp only [Rg.mk.injEq] at h2
          exact ⟨⟨by rw [h2.1], by rw [h2.2.1]⟩, h2.2.2.symm⟩)
        have B1 : ∃ b : Bool, (xn.toList == yn.toList) = b ∧ (b = true → xn.data.toList = yn.data.toList) := by
          rcases nm_cases2 xn yn with ⟨h1, h2⟩ | ⟨h1, h2⟩
          · exact ⟨true, h2, fun _ => h1⟩
          · exact ⟨false, h2, fun h => by cases h⟩
        obtain ⟨b1, e1', c1⟩ := B1
        have B2 : ∃ b : Bool, (xk.toList == yk.toList) = b ∧ (b = true → xk.data.toList = yk.data.toList) := by
          rcases nm_cases2 xk yk with ⟨h1, h2⟩ | ⟨h1, h2⟩
          · exact ⟨true, h2, fun _ => h1⟩
          · exact ⟨false, h2, fun h => by cases h⟩
        obtain ⟨b2, e2, c2⟩ := B2
        obtain ⟨b3, e3, c3⟩ : ∃ b : Bool, (xd == yd) = b ∧ (b = true → xd = yd) := ⟨_, rfl, fun h => by simpa using h⟩
        have hno : (b1 && b2 && b3) = false := by
          cases hq : (b1 && b2 && b3) with
          | false => rfl
          | true =>
            simp only [Bool.and_eq_true] at hq
            exact absurd ⟨⟨c1 hq.1.1, c2 hq.1.2⟩, c3 hq.2⟩ hall
        clear hall c1 c2 c3
        cases b1 <;> cases b2 <;> cases b3
        all_goals first
          | (exfalso; revert hno; decide)
          | (clear hno
             go_wp2
             go_quiet (fail)
             go_wp2
             go_ret
             exact ⟨false, rfl, ⟨fun h => (by cases h), fun h => absurd (HSP.out.1 h).2.2.2.1 HX.out⟩, bdr hwr _⟩)
    · obtain rfl : rn0 = i := by omega
      have HE := Lib.hid (list_eq (l := rg0) (r := rg1) (by rw [HLN.out.1, HLN.out.2.1]) fun j hj => hg j (by rw [HLN.out.1] at hj; exact hj))
      clear hg
      have HE1 := HE
      go_wp2_with fail
      clear x0 x1 x2 x3 x4 x5 x6 y0 y1 y2 y3 y4 y5 y6
      obtain ⟨wo, hwo⟩ : ∃ wo : World, wo = wr := ⟨_, rfl⟩
      rw [← hwo] at hbr hwr hz2 ⊢
      have hbo := hbr
      have hzo := hz2
      clear hwo hb hbr hz1 hz2 hw1 hb1
      go_loopw [50] (fun v wr => ∃ i : Nat, i ≤ an0 ∧ v = .int .i64 i ∧ Below wo.heap.size wo wr ∧ ∀ j, j < i → ∀ a b, al0[j]? = some a → al1[j]? = some b → a = b) (fun v _ => an0 - (intOf v).toNat)
      case atStart => exact ⟨0, by omega, rfl, Below.refl _ _, fun j hj => by omega⟩
      case round =>
        obtain ⟨i, hi, rfl, hb, hg⟩ := hrel
        have q0 : (0 : Int) ≤ (i : Int) := by omega
        have hbr := bto0 hbo hb
        obtain ⟨⟨x0, x1, x2, x3, x4, x5, x6, y0, y1, y2, y3, y4, y5, y6⟩, hwr⟩ := HB.out _ hbr
        have hz2 : w.heap.size + 1 < wr.heap.size := by (have := hb.size); omega
        by_cases hlt : i < an0
        · have q1 : (i : Int) < (an0 : Int) := by omega
          obtain ⟨ad, x, hA, hab, hx, f0, f1, f2⟩ := (HP.out _ hwr).al.rg_ hlt
          obtain ⟨ad2, y, hBB, hab2, hy, g0, g1, g2⟩ := (HQ.out _ hwr).al.rg_ hlt
          simp only at hA hBB hx hy
          subst hA hBB
          have HG := Lib.hid (And.intro hx (And.intro hy (And.intro hb hg)))
          clear hx hy hb hg
          obtain ⟨xn, xk, xd⟩ := x
          obtain ⟨yn, yk, yd⟩ := y
          simp only at f0 f1 f2 g0 g1 g2
          by_cases hall : (xn.data.toList = yn.data.toList ∧ xk.data.toList = yk.data.toList) ∧ xd = yd
          · obtain ⟨⟨h1, h2⟩, rfl⟩ := hall
            obtain rfl : xn = yn := nm_bytes _ _ (by rw [ByteArray.toList_eq, ByteArray.toList_eq]; exact h1)
            obtain rfl : xk = yk := nm_bytes _ _ (by rw [ByteArray.toList_eq, ByteArray.toList_eq]; exact h2)
            clear h1 h2
            go_wp2
            go_quiet (fail)
            go_wp2
            exact ⟨⟨i + 1, by omega, by go_num, bdr HG.out.2.2.1 _, fun j hj a b ha hb => by
              by_cases hji : j < i
              · exact HG.out.2.2.2 j hji a b ha hb
              · obtain rfl : j = i := by omega
                rw [HG.out.1] at ha
                rw [HG.out.2.1] at hb
                cases ha
                cases hb
                rfl⟩, by simp [intOf]; omega⟩
          · have HX : Hid (al0 ≠ al1) := Lib.hid fun h => hall (by
              have h1 := HG.out.1
              rw [h, HG.out.2.1] at h1
              have h2 := Option.some.inj h1
              simp only [Rg.mk.injEq] at h2
              exact ⟨⟨by rw [h2.1], by rw [h2.2.1]⟩, h2.2.2.symm⟩)
            have B1 : ∃ b : Bool, (xn.toList == yn.toList) = b ∧ (b = true → xn.data.toList = yn.data.toList) := by
              rcases nm_cases2 xn yn with ⟨h1, h2⟩ | ⟨h1, h2⟩
              · exact ⟨true, h2, fun _ => h1⟩
              · exact ⟨false, h2, fun h => by cases h⟩
            obtain ⟨b1, e1', c1⟩ := B1
            have B2 : ∃ b : Bool, (xk.toList == yk.toList) = b ∧ (b = true → xk.data.toList = yk.data.toList) := by
              rcases nm_cases2 xk yk with ⟨h1, h2⟩ | ⟨h1, h2⟩
              · exact ⟨true, h2, fun _ => h1⟩
              · exact ⟨false, h2, fun h => by cases h⟩
            obtain ⟨b2, e2, c2⟩ := B2
            obtain ⟨b3, e3, c3⟩ : ∃ b : Bool, (xd == yd) = b ∧ (b = true → xd = yd) := ⟨_, rfl, fun h => by simpa using h⟩
            have hno : (b1 && b2 && b3) = false := by
              cases hq : (b1 && b2 && b3) with
              | false => rfl
              | true =>
                simp only [Bool.and_eq_true] at hq
                exact absurd ⟨⟨c1 hq.1.1, c2 hq.1.2⟩, c3 hq.2⟩ hall
            clear hall c1 c2 c3
            cases b1 <;> cases b2 <;> cases b3
            all_goals first
              | (exfalso; revert hno; decide)
              | (clear hno
                 go_wp2
                 go_quiet (fail)
                 go_wp2
                 go_ret
                 exact ⟨false, rfl, ⟨fun h => (by cases h), fun h => absurd (HSP.out.1 h).2.2.2.2.2.1 HX.out⟩, bdr hwr _⟩)
        · obtain rfl : an0 = i := by omega
          have HE := Lib.hid (list_eq (l := al0) (r := al1) (by rw [HLN.out.2.2.1, HLN.out.2.2.2]) fun j hj => hg j (by rw [HLN.out.2.2.1] at hj; exact hj))
          clear hg
          go_wp2
          go_ret
          exact ⟨true, rfl, ⟨fun _ => HSP.out.2 ⟨HL.out.1, HL.out.2.1, HL.out.2.2.1, HE1.out, HL.out.2.2.2.1, HE.out, HL.out.2.2.2.2⟩, fun _ => rfl⟩, hwr⟩
end Go.Proofs.YtoamnnonkhgpoaaGreatDoor
