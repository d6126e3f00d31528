/-
  B8 B9 B10 B11 B12 B13 B14 B15.
-/
import Derived.Test.YtebobcbaloddaaaGreatMobp
import Derived.Test.YtebobcbaloddaaaGreatMoaz
import Derived.Test.YtebobcbaloddaaaGreatMoak
import Derived.Test.YtebobcbaloddaaaGreatMobm
import Derived.Test.YtebobcbaloddaaaGreatMobg
import Derived.Deep.DeepCutAuto
import Derived.BigGuardPart
import Derived.Deep.RegionHeld3
import Derived.Deep.DrawnRows
import Derived.BigQuiet
import Derived.Test.YtebobcbaloddaaaGreatMozz
namespace Go.Proofs.YtebobcbaloddaaaGreat
section
set_option linter.unusedSimpArgs false
set_option linter.unusedVariables false
open Go.RowKit Go.Maps
def RetLv (w : World) (g gb gt n : Nat) (R : Lev) (e : Ending) (w' : World) : Prop :=
 DP w' g gb gt n R.1 R.2.1 ∧ Lf w w' gb gt ∧ ((∃ lv A c, R.2.2 = some lv ∧ e = .returned (.tuple #[.slice A lv.length c, .int .i64 0]) ∧ w'.ownsRow w.heap.size 68 4 (.slice A lv.length c) lv.length (vK lv) ∧ lv.length ≤ c) ∨
  (R.2.2 = none ∧ e = .returned (.tuple #[.slice none 0 0, .int .i64 7])))
theorem Tryz.infoCh : (Tryz.prog.info? 68).map (fun i => (i.zero, i.size, i.bytes)) = some (some (.agg #[.int .u32 0, .string ⟨#[]⟩, .int .u32 0, .int .u16 0]), 4, 32) := by kernel_rfl
set_option maxRecDepth 100000 in
set_option maxHeartbeats 8000000 in
theorem leaves_any {w : World} {g gb gt n : Nat} {ps : List (List UInt8)} {T : List Bool} (h : DP w g gb gt n ps T) (hn : n ≤ 10000) {A : Option Addr} {m c : Nat} {l : List En} (hr : Reads w w.heap.size 3 A m (vE l)) (hA : Apt A gb gt) (hok : ∀ e ∈ l, e.ok) (hm : mayEn l = true) (hm2 : m ≤ 100000) (hc : m ≤ c) (hc2 : c ≤ maxLen) :
 Calls Tryz.prog 26 #[.pointer (some ⟨g, 0, none⟩), .slice A m c] w (RetLv w g gb gt n (lfP l ps T)) := by
 obtain ⟨i0, hi0, hz0, hs0, hy0⟩ := int_info8 Tryz.infoCh
 have hlen : l.length = m := by have := hr.1; rw [vE_len] at this; omega
 have hlts := h.lts
 have PA := Lib.hid (partE_any A m c l w hr (may_small hm) (by omega) hc hc2)
 have GR := Lib.hid (grE_ok hm)
 have hgl := gs_le hm
 have hg1 := gs_ne fE l
 have HLP : Hid (lfP l ps T = if (tkP (ptL fE l).length T).2.2 then (lfK l (ptL fE l) (tkP (ptL fE l).length T).1 (ptL fE l).length ps, (tkP (ptL fE l).length T).2.1, some (lfLv l (ptL fE l) (tkP (ptL fE l).length T).1 (ptL fE l).length)) else (ps, (tkP (ptL fE l).length T).2.1, none)) := Lib.hid rfl
 have H0 := Lib.hid (And.intro h (And.intro hr (And.intro hA (And.intro hok hlen))))
 have hml := hlen
 rw [hlen] at hgl
 generalize ptL fE l = gs at *
 have hG : gs.length ≤ 100001 := by omega
 clear h hr hA hok hm hlen hgl hml
 go_enter Tryz.func26, Tryz.ntmps26
 go_wp2_with fail
 refine PA.out.mono ?_
 rintro e w1 ⟨Ag, cg, rfl, og, hcg, hb1⟩
 rw [gvL_len] at og hcg ⊢
 have hD1 := H0.out.1.lower hb1
 have TK := Lib.hid (btake_any hD1 hn gs.length (by omega))
 have H1 := Lib.hid (And.intro hb1 og)
 clear hb1 og hD1 PA
 go_wp2_with fail
 refine TK.out.mono ?_
 rintro e w2 ⟨hD2, hL2, hres⟩
 have I := tkI T gs.length
 have HTK := Lib.hid HLP.out
 generalize tkP gs.length T = st at *
 obtain ⟨pg, T1, bk⟩ := st
 simp only at *
 have hL02 := (Lf.of_below (gb := gb) (gt := gt) H1.out.1).trans hL2
 rcases hres with ⟨rfl, Ap, cp, rfl, op, hcp⟩ | ⟨rfl, rfl⟩
 · have hb1 := H1.out.1
   have rA2 := H0.out.2.1.lf hL02 H0.out.2.2.1
   have og2 := hL2.own H1.out.2 hlts.2.1 hlts.2.2
   have op2 := op
   have hpl : pg.length = gs.length := I.full rfl
   have hT1l : T1.length = n := hD2.hT
   have hz12 : w1.heap.size ≤ w2.heap.size := hL2.size
   have hz01 : w.heap.size ≤ w1.heap.size := hb1.size
   have H2 := Lib.hid (And.intro rA2 (And.intro og2 (And.intro op2 (And.intro I hL02))))
   have HD2 := Lib.hid hD2
   have HL := Lib.hid (And.intro hpl hT1l)
   clear rA2 og2 op2 op hD2 hL2 hL02 I hb1 H1 TK hpl hT1l
   go_wp2
   go_loopw [9, 30] (fun v i wr => ∃ k : Nat, k ≤ gs.length ∧ i = .int .i64 k ∧ DP wr g gb gt n (lfK l gs pg k ps) T1 ∧ Lf w2 wr gb gt ∧ wr.ownsRow w2.heap.size 68 4 v k (vK (lfLv l gs pg k))) (fun _ i _ => gs.length - (intOf i).toNat)
   case atStart => exact ⟨0, Nat.zero_le _, rfl, HD2.out, Lf.refl _ _ _, World.ownsRow_nil _ _ _ _⟩
   case round =>
    obtain ⟨k, hk, rfl, hD, hL, ho⟩ := hrel
    have hbs := hL.size
    have q0 : (0 : Int) ≤ (k : Int) := by omega
    obtain ⟨Av, cv, rfl, hcv⟩ := own_form ho
    by_cases hlt : k < gs.length
    · have q1 : (k : Int) < (gs.length : Int) := by omega
      have q1' : k < pg.length := by rw [HL.out.1]; exact hlt
      have q2 : (pg.length : Int) = (gs.length : Int) := by rw [HL.out.1]
      obtain ⟨g0, hg0⟩ : ∃ g0, gs[k]? = some g0 := ⟨_, List.getElem?_eq_getElem hlt⟩
      have G0 := GR.out g0 (List.mem_of_getElem? hg0)
      obtain ⟨p, hp⟩ : ∃ p, pg[k]? = some p := ⟨_, List.getElem?_eq_getElem q1'⟩
      have P0 := H2.out.2.2.2.1.at_ k p hp
      have hpn : p < n := by have := lt_of_at P0.2.1; simp only at this; rw [HL.out.2] at this; exact this
      obtain ⟨nx, hnx⟩ : ∃ nx, pg.getD (k + 1) 0 = nx := ⟨_, rfl⟩
      have hnxn : nx < 4294967296 := by
       by_cases hk1 : k + 1 < pg.length
       · obtain ⟨y, hy⟩ : ∃ y, pg[k + 1]? = some y := ⟨_, List.getElem?_eq_getElem hk1⟩
         rw [getD_of hy] at hnx
         subst hnx
         have := lt_of_at (H2.out.2.2.2.1.at_ (k + 1) y hy).2.1
         simp only at this
         rw [HL.out.2] at this
         omega
       · rw [getD_no (by omega)] at hnx; omega
      have hstep : Hid (lfK l gs pg (k + 1) ps = (lfK l gs pg k ps).set p (leafL nx (seg l g0)) ∧ lfLv l gs pg (k + 1) = lfLv l gs pg k ++ [(p, ((seg l g0).head?).getD enZ)] ∧ T1.set p true = T1) := by
       refine Lib.hid ⟨?_, ?_, set_same P0.2.1⟩
       · rw [lfK, getD_of hp, getD_of hg0, hnx]
       · rw [lfLv_succ, getD_of hp, getD_of hg0]
      have ogr := (hL.own H2.out.2.1 hlts.2.1 hlts.2.2)
      have opr := (hL.own H2.out.2.2.1 (by omega) (by omega))
      have rAr := H2.out.1.lf hL H0.out.2.2.1
      have rS := rAr.segE g0 G0.le.1 (by have := G0.le.2; rw [H0.out.2.2.2.2] at this; exact this)
      obtain ⟨ag, ug, rfl, _, hug, cg0⟩ := (Reads.of_own ogr).at_ hlt
      have hug2 : ug = gvS A c 3 g0 := by
       unfold gvL at hug
       rw [List.getElem?_map, hg0] at hug
       injection hug with hug
       exact hug.symm
      subst hug2
      obtain ⟨gl, hgl0⟩ : ∃ gl, g0.2 - g0.1 = gl := ⟨_, rfl⟩
      obtain ⟨GA, hGA⟩ : ∃ GA, (A.map fun ad => ad.add (g0.1 * 3)) = GA := ⟨_, rfl⟩
      obtain ⟨gc, hgc⟩ : ∃ gc, c - g0.1 = gc := ⟨_, rfl⟩
      obtain ⟨s, hs⟩ : ∃ s, seg l g0 = s := ⟨_, rfl⟩
      have hAS : Apt GA gb gt := by rw [← hGA]; exact H0.out.2.2.1.map _
      unfold gvS at cg0
      rw [hGA, hgl0, hgc] at cg0
      rw [hGA, hgl0, hs] at rS
      rw [hs] at hstep
      have hsum := G0.sum; have hmay := G0.may; have hmem := G0.mem
      rw [hs] at hsum hmay hmem
      have hsok : ∀ e ∈ s, e.ok := fun e he => H0.out.2.2.2.1 e (hmem e he)
      have hsl : s.length = gl := by have := rS.1; rw [vE_len] at this; omega
      obtain ⟨ap, x, rfl, _, hx, cp0⟩ := (Reads.of_own opr).num q1'
      have hxp : x = p := by rw [hp] at hx; injection hx with hx; exact hx.symm
      subst hxp
      have hglm : gl ≤ 100000 := by have := G0.le.2; rw [H0.out.2.2.2.2] at this; omega
      have HS := Lib.hid (And.intro hD (And.intro hL (And.intro ho (And.intro rS (And.intro hsum (And.intro hmay (And.intro hsok hsl)))))))
      have HO := Lib.hid (And.intro ogr opr)
      have HP := Lib.hid (And.intro P0 hp)
      have hnx' := Lib.hid hnx
      clear hD hL ho rS hsum hmay hsok hmem G0 rAr hug hgl0 hGA hgc hs hg0 hx hp P0 hnx ogr
      go_upto_if 39 with fail
      go_cut [12] (fun s12 wx => s12 = .int .u32 (nx : Int) ∧ wx = wr)
      case first =>
       by_cases hk1 : k + 1 < gs.length
       · obtain ⟨y, hy⟩ : ∃ y, pg[k + 1]? = some y := ⟨_, List.getElem?_eq_getElem (by rw [HL.out.1]; exact hk1)⟩
         have hyn : y = nx := by rw [← hnx'.out, getD_of hy]
         subst hyn
         obtain ⟨ap', x', e', _, hx', cp1⟩ := (Reads.of_own opr).num (k := k + 1) (by rw [HL.out.1]; exact hk1)
         cases e'
         have hxx : x' = y := by rw [hy] at hx'; injection hx' with hx'; exact hx'.symm
         subst hxx
         have hk1' : (k : Int) + 1 < (gs.length : Int) := by omega
         have hkp : k + 1 < pg.length := by rw [HL.out.1]; exact hk1
         have hadd : ap.add (k + 1) = ⟨ap.block, ap.off + (k + 1), none⟩ := by unfold Addr.add; rw [if_neg (by omega)]
         rw [hadd] at cp1
         clear hy hx' opr hadd
         go_wp2_with fail
         go_meet
         case rel => exact ⟨rfl, rfl⟩
       · have h0 : nx = 0 := by rw [← hnx'.out, getD_no (by rw [HL.out.1]; omega)]
         subst h0
         have hk1' : (gs.length : Int) ≤ (k : Int) + 1 := by omega
         clear opr
         go_wp2_with fail
         go_meet
         case rel => exact ⟨rfl, rfl⟩
      case rest =>
       obtain ⟨rfl, hwc⟩ := hcut
       subst wc
       clear opr
       have hbx := HS.out.1.lts
       obtain ⟨le, hle⟩ : ∃ le, (s.head?).getD enZ = le := ⟨_, rfl⟩
       rw [hle] at hstep
       have HLE := Lib.hid hle
       clear hle
       go_upto_if 52 with fail
       have rS := HS.out.2.2.2.1
       have hsl := HS.out.2.2.2.2.2.2.2
       have X0 := Blk.new wr 68 #[.int .u32 (x : Int), .string le.s, .int .u32 le.p, .int .u16 le.q]
       go_cut [] (fun wx => wx = wr.alloc (.cells #[.int .u32 (x : Int), .string le.s, .int .u32 le.p, .int .u16 le.q] 68))
       case first =>
        have hle := HLE.out
        clear HLE
        rcases s with _ | ⟨y, r⟩
        · have h0 : gl = 0 := by rw [← hsl]; rfl
          subst h0
          have e1 : enZ = le := hle
          subst e1
          clear hle hstep rS hsl
          go_wp2_with fail
          go_meet
          case rel => rfl
        · have h0 : 0 < gl := by rw [← hsl]; simp
          have h0' : (0 : Int) < (gl : Int) := by omega
          have e1 : y = le := hle
          subst e1
          obtain ⟨ad2, v2, rfl, hbk2, hv2, d0, d1, d2⟩ := rS.ent h0
          have hvy : y = v2 := by simpa using hv2
          subst hvy
          have ez : ad2.add (0 * 3) = ad2 := by simp [Addr.add]
          rw [ez] at d0 d1 d2
          have fr := X0
          clear ez
          clear hle hstep rS hsl hv2
          go_wp2_with fail
          go_meet
          case rel => rfl
       case rest =>
        have hne : w2.heap.size ≤ wr.heap.size := hbs
        subst hcut
        have hb3 := ball (Below.refl wr.heap.size wr) (.cells #[.int .u32 (x : Int), .string le.s, .int .u32 le.p, .int .u16 le.q] 68)
        have PL := Lib.hid (putLeaf_ok nx hnxn GA gl gc s (wr.alloc (.cells #[.int .u32 (x : Int), .string le.s, .int .u32 le.p, .int .u16 le.q] 68)) ((rS.below hb3).more hb3.size) HS.out.2.2.2.2.2.2.1 HS.out.2.2.2.2.2.1 HS.out.2.2.2.2.1)
        have L512 := Lib.hid (leafL_len nx s HS.out.2.2.2.2.1)
        have hD3 := HS.out.1.lower hb3
        have ho3 := HS.out.2.2.1.alloc (.cells #[.int .u32 (x : Int), .string le.s, .int .u32 le.p, .int .u16 le.q] 68)
        have hL3 := HS.out.2.1.trans (Lf.of_below (gb := gb) (gt := gt) hb3)
        have hzX : (wr.alloc (.cells #[.int .u32 (x : Int), .string le.s, .int .u32 le.p, .int .u16 le.q] 68)).heap.size = wr.heap.size + 1 := by simp
        obtain ⟨gX, hgX⟩ : ∃ gX, wr.heap.size = gX := ⟨_, rfl⟩
        rw [hgX] at X0 hzX hbx hne ⊢
        obtain ⟨WX, hWX⟩ : ∃ WX, (wr.alloc (.cells #[.int .u32 (x : Int), .string le.s, .int .u32 le.p, .int .u16 le.q] 68)) = WX := ⟨_, rfl⟩
        rw [hWX] at X0 PL hD3 ho3 hL3 hzX ⊢
        have HX := Lib.hid (And.intro hD3 (And.intro ho3 (And.intro hL3 (And.intro X0 hzX))))
        clear hWX X0 hD3 ho3 hL3 hb3 rS hsl hgX HLE hzX
        go_wp2_with fail
        refine PL.out.mono ?_
        rintro e w3 ⟨v3, rfl, o3, hb3⟩
        obtain ⟨A3, c3, rfl, hc3⟩ := own_form o3
        rw [L512.out] at hc3 ⊢
        have o3' : Own w3 WX.heap.size (.slice A3 512 c3) (leafL nx s) := by have := o3; rw [L512.out] at this; exact this
        obtain ⟨ga, tl, rfl, hga, hblk, _, _⟩ := o3'.open_ (by omega)
        have hD4 := HX.out.1.lower hb3
        have WR := Lib.hid (writeDP hD4 x hpn (by omega) ⟨ga, 0, none⟩ c3 w3.heap.size (leafL nx s) o3'.reads.1)
        have hX3 := HX.out.2.2.2.1.below hb3 HX.out.2.2.2.1.lt
        have hL4 := HX.out.2.2.1.trans (Lf.of_below (gb := gb) (gt := gt) hb3)
        have ho4 := own_below HX.out.2.1 hb3
        have c0 : w3.cell? ⟨gX, 0, none⟩ = some (.int .u32 (x : Int)) := hX3.cell 0
        have hz3 := hX3.lt
        have H3 := Lib.hid (And.intro hX3 (And.intro hL4 ho4))
        clear o3 o3' hblk hD4 hX3 hL4 ho4 hb3 PL
        go_wp2_with fail
        refine WR.out.mono ?_
        rintro e w4 ⟨rfl, lf4⟩
        have hL5 := H3.out.2.1.trans (Lf.of_left lf4)
        have ho5 := (Lf.of_left lf4).own H3.out.2.2 (by omega) (by omega)
        have hX5 : Blk w4 gX 68 #[.int .u32 (x : Int), .string le.s, .int .u32 le.p, .int .u16 le.q] := (lf4.2.2.1 gX (by omega) (by omega)).trans H3.out.1
        have hD5 := lf4.1
        rw [hstep.out.2.2, ← hstep.out.1] at hD5
        have d0 : w4.cell? ⟨gX, 0, none⟩ = some (.int .u32 (x : Int)) := hX5.cell 0
        have d1 : w4.cell? ⟨gX, 1, none⟩ = some (.string le.s) := hX5.cell 1
        have d2 : w4.cell? ⟨gX, 2, none⟩ = some (.int .u32 le.p) := hX5.cell 2
        have d3 : w4.cell? ⟨gX, 3, none⟩ = some (.int .u16 le.q) := hX5.cell 3
        have hz5 : w2.heap.size ≤ w4.heap.size := hL5.size
        have H5 := Lib.hid (And.intro hD5 (And.intro hL5 ho5))
        clear c0 lf4 hL5 ho5 hX5 hD5 WR H3
        go_wp2_with (at_builtin; refine wpList_pushR (news := kdC (x, le)) rfl (.tmp 71) (.tmp 73) 63 rfl w2.heap.size 68 i0 _ 4 32 Tryz.underlying63 hi0 hz0 hs0 hy0 rfl (by decide) _ k (vK (lfLv l gs pg k)) rfl H5.out.2.2 rfl _ rfl rfl rfl (by intro u hu; simp only [kdC, List.mem_cons, List.not_mem_nil, or_false] at hu; rcases hu with rfl | rfl | rfl | rfl <;> rfl) (by omega) (by omega) hz5 ?_; intro v6 w6 ho6 hg6 _; have hD6 := H5.out.1.push H5.out.2.2 hg6 (by decide) (by decide) (by decide); have hL6 := H5.out.2.1.push H5.out.2.2 (Nat.le_refl _) hg6; have H6 := Lib.hid (And.intro ho6 (And.intro hD6 hL6)); clear ho6 hg6 hD6 hL6)
        go_roundw
        case rel => exact ⟨k + 1, by omega, by go_num, H6.out.2.1, H6.out.2.2, by rw [hstep.out.2.1, vK_snoc]; exact H6.out.1⟩
        case measure => simp [intOf]; omega
    · obtain rfl : gs.length = k := by omega
      have H1 := Lib.hid (And.intro hD (And.intro hL (And.intro (ho.mono (Nat.le_trans hz01 hz12)) hcv)))
      clear hD hL ho
      go_wp2
      go_ret2
      rw [HTK.out]
      refine ⟨H1.out.1, H2.out.2.2.2.2.trans H1.out.2.1, .inl ⟨_, Av, cv, rfl, ?_, ?_, ?_⟩⟩
      · rw [lfLv_len]; rfl
      · rw [lfLv_len]; exact H1.out.2.2.1
      · rw [lfLv_len]; exact H1.out.2.2.2
 · have H2 := Lib.hid (And.intro hD2 hL02)
   clear hD2 hL2 hL02 I
   go_wp2
   go_ret2
   rw [HTK.out]
   exact ⟨H2.out.1, H2.out.2, .inr ⟨rfl, rfl⟩⟩
end
end Go.Proofs.YtebobcbaloddaaaGreat
namespace Go.Proofs.YtebobcbaloddaaaGreat
section
set_option linter.unusedSimpArgs false
set_option linter.unusedVariables false
open Go.RowKit Go.Maps
structure GrC (l : List Kd) (g : Nat × Nat) (c0 : Kd) (r : List Kd) : Prop where
 eq : seg l g = c0 :: r
 ne : r ≠ []
 sum : sumE (r.map Prod.snd) + 4 * r.length ≤ 500
 may : mayEn (r.map Prod.snd) = true
 le : g.1 ≤ g.2 ∧ g.2 ≤ l.length
 mem : ∀ x ∈ c0 :: r, x ∈ l
theorem szL_C (c : Kd) : ∀ r : List Kd, szL fC (c :: r) = 4 + (sumE (r.map Prod.snd) + 4 * r.length) := by
 intro r
 show fC c true + (r.map fun y => fC y false).sum = _
 have : ∀ r : List Kd, (r.map fun y => fC y false).sum = sumE (r.map Prod.snd) + 4 * r.length := by
  intro r
  induction r with
  | nil => rfl
  | cons x r ih =>
    unfold sumE at ih ⊢
    rw [List.map_cons, List.sum_cons, ih]
    simp [fC]; omega
 rw [this]; simp [fC]
theorem grC_ok {l : List Kd} (h : mayEn (l.map Prod.snd) = true) (h2 : 2 ≤ l.length) : ∀ g ∈ ptL fC l, ∃ c0 r, GrC l g c0 r := by
 intro g hg
 have hl : l ≠ [] := by rintro rfl; simp at h2
 have hsm : ∀ x ∈ l, x.2.s.size ≤ 200 := fun x hx => may_small h x.2 (List.mem_map_of_mem hx)
 obtain ⟨h1, h3, h4⟩ := ptL_ok (ptF_C hsm) szC_mono hl
 have hm := h1.mem g hg
 have hge : g.1 + 2 ≤ g.2 := by
  rcases h4 with h4 | h4
  · match hp : ptL fC l, h4 with
    | [g'], _ =>
      rw [hp] at hg h1
      rw [List.mem_singleton] at hg
      subst hg
      obtain ⟨e1, e2, e3⟩ := h1
      have : g.2 = l.length := e3
      omega
  · exact h4 g hg
 have hlen := seg_len (l := l) (g := g) (h3 g hg).2
 match hs : seg l g, hlen with
 | [], hlen => simp at hlen; omega
 | c0 :: r, hlen =>
   have hr : r ≠ [] := by rintro rfl; simp at hlen; omega
   have h5 := (h3 g hg).1
   rw [hs, szL_C] at h5
   refine ⟨c0, r, hs, hr, by omega, ?_, ⟨by omega, (h3 g hg).2⟩, fun x hx => mem_seg (g := g) (by rw [hs]; exact hx)⟩
   refine may_sub h ?_
   have : (c0 :: r).Sublist l := by rw [← hs]; exact seg_sub l g
   exact ((List.sublist_cons_self c0 r).trans this).map _
theorem gsC_le {l : List Kd} (h : mayEn (l.map Prod.snd) = true) (hl : l ≠ []) : (ptL fC l).length ≤ l.length := by
 have hsm : ∀ x ∈ l, x.2.s.size ≤ 200 := fun x hx => may_small h x.2 (List.mem_map_of_mem hx)
 obtain ⟨h1, _, _⟩ := ptL_ok (ptF_C hsm) szC_mono hl
 have : ∀ {a c : Nat} {gs : List (Nat × Nat)}, Chn a gs c → a + gs.length ≤ c := by
  intro a c gs
  induction gs generalizing a with
  | nil => intro h; cases h; simp
  | cons g gs ih => rintro ⟨e1, e2, e3⟩; have := ih e3; rw [List.length_cons]; omega
 have := this h1
 omega
theorem innL_len (c0 : Nat) (ps : List (En × Nat)) (n : Nat) (h : sumE (ps.map Prod.fst) + 4 * ps.length ≤ 500) : (innL c0 ps n).length = 512 := by
 unfold innL
 rw [List.length_append, List.length_append, List.length_append, List.length_take, headL_len, be_len, inB_len, List.length_replicate]
 omega
theorem zip_kd (r : List Kd) : (r.map Prod.snd).zip (r.map Prod.fst) = r.map fun c => (c.2, c.1) := by
 induction r with
 | nil => rfl
 | cons x r ih => rw [List.map_cons, List.map_cons, List.zip_cons_cons, ih]; rfl
def chJ (s : List Kd) (j : Nat) : List Nat := (s.take j).map Prod.fst
def spJ (s : List Kd) (j : Nat) : List En := ((s.take j).drop 1).map Prod.snd
theorem chJ_succ {s : List Kd} {j : Nat} {c : Kd} (h : s[j]? = some c) : chJ s (j + 1) = chJ s j ++ [c.1] := by unfold chJ; rw [List.take_add_one, h]; simp
theorem spJ_succ {s : List Kd} {j : Nat} {c : Kd} (h : s[j]? = some c) (h0 : 0 < j) : spJ s (j + 1) = spJ s j ++ [c.2] := by
 unfold spJ
 have hj := lt_of_at h
 rw [List.take_add_one, h, List.drop_append, List.length_take, Nat.min_eq_left (by omega), show 1 - j = 0 from by omega]; simp
theorem spJ_one (s : List Kd) : spJ s 1 = [] := by
 unfold spJ
 rw [List.drop_eq_nil_of_le (by rw [List.length_take]; omega)]; rfl
theorem DP.drew {w : World} {g gb gt n : Nat} {ps : List (List UInt8)} {T : List Bool} (h : DP w g gb gt n ps T) : DP w.drew g gb gt n ps T := ⟨⟨h.dk.d.drew, h.dk.b.drew, h.dk.t.drew, h.dk.hb, h.dk.ht⟩, h.full, h.hp⟩
theorem Lf.drew {w0 w : World} {gb gt : Nat} (h : Lf w0 w gb gt) : Lf w0 w.drew gb gt := ⟨fun B h1 h2 h3 => (h.below B h1 h2 h3).drew, h.heap, h.size⟩
set_option maxRecDepth 100000 in
set_option maxHeartbeats 8000000 in
theorem inner_any {w : World} {g gb gt n : Nat} {ps : List (List UInt8)} {T : List Bool} (h : DP w g gb gt n ps T) (hn : n ≤ 10000) {A : Option Addr} {m c : Nat} {l : List Kd} (hr : Reads w w.heap.size 4 A m (vK l)) (hA : Apt A gb gt) (hok : ∀ e ∈ l, e.2.ok ∧ e.1 < 4294967296) (hm : mayEn (l.map Prod.snd) = true) (h2l : 2 ≤ l.length) (hm2 : m ≤ 100001) (hc : m ≤ c) (hc2 : c ≤ maxLen) :
 Calls Tryz.prog 27 #[.pointer (some ⟨g, 0, none⟩), .slice A m c] w (RetLv w g gb gt n (inP' l ps T)) := by
 obtain ⟨i0, hi0, hz0, hs0, hy0⟩ := int_info8 Tryz.infoCh
 obtain ⟨i1, hi1, hz1, hs1, hy1⟩ := int_info8 Tryz.infoN
 obtain ⟨i2, hi2, hz2, hs2, hy2⟩ := int_info8 Tryz.infoE
 have hlen : l.length = m := by have := hr.1; rw [vK_len] at this; omega
 have hlts := h.lts
 have hsm : ∀ x ∈ l, x.2.s.size ≤ 200 := fun x hx => may_small hm x.2 (List.mem_map_of_mem hx)
 have PA := Lib.hid (partC_any A m c l w hr hsm (by omega) hc hc2)
 have GR := Lib.hid (grC_ok hm h2l)
 have hgl := gsC_le hm (by rintro rfl; simp at h2l)
 have hg1 := gs_ne fC l
 have HLP : Hid (inP' l ps T = if (tkP (ptL fC l).length T).2.2 then (inK l (ptL fC l) (tkP (ptL fC l).length T).1 (ptL fC l).length ps, (tkP (ptL fC l).length T).2.1, some (inLv l (ptL fC l) (tkP (ptL fC l).length T).1 (ptL fC l).length)) else (ps, (tkP (ptL fC l).length T).2.1, none)) := Lib.hid rfl
 have H0 := Lib.hid (And.intro h (And.intro hr (And.intro hA (And.intro hok hlen))))
 rw [hlen] at hgl
 generalize ptL fC l = gs at *
 have hG : gs.length ≤ 100001 := by omega
 clear h hr hA hok hm hlen hgl hsm h2l
 go_enter Tryz.func27, Tryz.ntmps27
 go_wp2_with fail
 refine PA.out.mono ?_
 rintro e w1 ⟨Ag, cg, rfl, og, hcg, hb1⟩
 rw [gvL_len] at og hcg ⊢
 have hD1 := H0.out.1.lower hb1
 have TK := Lib.hid (btake_any hD1 hn gs.length (by omega))
 have H1 := Lib.hid (And.intro hb1 og)
 clear hb1 og hD1 PA
 go_wp2_with fail
 refine TK.out.mono ?_
 rintro e w2 ⟨hD2, hL2, hres⟩
 have I := tkI T gs.length
 have HTK := Lib.hid HLP.out
 generalize tkP gs.length T = st at *
 obtain ⟨pg, T1, bk⟩ := st
 simp only at *
 have hL02 := (Lf.of_below (gb := gb) (gt := gt) H1.out.1).trans hL2
 rcases hres with ⟨rfl, Ap, cp, rfl, op, hcp⟩ | ⟨rfl, rfl⟩
 · have hb1 := H1.out.1
   have rA2 := H0.out.2.1.lf hL02 H0.out.2.2.1
   have og2 := hL2.own H1.out.2 hlts.2.1 hlts.2.2
   have op2 := op
   have hpl : pg.length = gs.length := I.full rfl
   have hT1l : T1.length = n := hD2.hT
   have hz12 : w1.heap.size ≤ w2.heap.size := hL2.size
   have hz01 : w.heap.size ≤ w1.heap.size := hb1.size
   have H2 := Lib.hid (And.intro rA2 (And.intro og2 (And.intro op2 (And.intro I hL02))))
   have HD2 := Lib.hid hD2
   have HL := Lib.hid (And.intro hpl hT1l)
   clear rA2 og2 op2 op hD2 hL2 hL02 I hb1 H1 TK hpl hT1l
   go_wp2
   go_loopw [9, 32] (fun v i wr => ∃ k : Nat, k ≤ gs.length ∧ i = .int .i64 k ∧ DP wr g gb gt n (inK l gs pg k ps) T1 ∧ Lf w2 wr gb gt ∧ wr.ownsRow w2.heap.size 68 4 v k (vK (inLv l gs pg k))) (fun _ i _ => gs.length - (intOf i).toNat)
   case atStart => exact ⟨0, Nat.zero_le _, rfl, HD2.out, Lf.refl _ _ _, World.ownsRow_nil _ _ _ _⟩
   case round =>
    obtain ⟨k, hk, rfl, hD, hL, ho⟩ := hrel
    have hbs := hL.size
    have q0 : (0 : Int) ≤ (k : Int) := by omega
    obtain ⟨Av, cv, rfl, hcv⟩ := own_form ho
    by_cases hlt : k < gs.length
    · have q1 : (k : Int) < (gs.length : Int) := by omega
      have q1' : k < pg.length := by rw [HL.out.1]; exact hlt
      have q2 : (pg.length : Int) = (gs.length : Int) := by rw [HL.out.1]
      obtain ⟨g0, hg0⟩ : ∃ g0, gs[k]? = some g0 := ⟨_, List.getElem?_eq_getElem hlt⟩
      obtain ⟨z0, zr, G0⟩ := GR.out g0 (List.mem_of_getElem? hg0)
      obtain ⟨p, hp⟩ : ∃ p, pg[k]? = some p := ⟨_, List.getElem?_eq_getElem q1'⟩
      have P0 := H2.out.2.2.2.1.at_ k p hp
      have hpn : p < n := by have := lt_of_at P0.2.1; simp only at this; rw [HL.out.2] at this; exact this
      have hstep : Hid (inK l gs pg (k + 1) ps = (inK l gs pg k ps).set p (innL z0.1 (zr.map fun c => (c.2, c.1)) zr.length) ∧ inLv l gs pg (k + 1) = inLv l gs pg k ++ [(p, z0.2)] ∧ T1.set p true = T1) := by
       refine Lib.hid ⟨?_, ?_, set_same P0.2.1⟩
       · rw [inK, getD_of hp, getD_of hg0, G0.eq]; rfl
       · rw [inLv_succ, getD_of hp, getD_of hg0, G0.eq]; rfl
      have ogr := (hL.own H2.out.2.1 hlts.2.1 hlts.2.2)
      have opr := (hL.own H2.out.2.2.1 (by omega) (by omega))
      have rAr := H2.out.1.lf hL H0.out.2.2.1
      have rS := rAr.segK g0 G0.le.1 (by have := G0.le.2; rw [H0.out.2.2.2.2] at this; exact this)
      obtain ⟨ag, ug, rfl, _, hug, cg0⟩ := (Reads.of_own ogr).at_ hlt
      have hug2 : ug = gvS A c 4 g0 := by
       unfold gvL at hug
       rw [List.getElem?_map, hg0] at hug
       injection hug with hug
       exact hug.symm
      subst hug2
      have hsl0 := seg_len (l := l) (g := g0) G0.le.2
      rw [G0.eq, List.length_cons] at hsl0
      obtain ⟨GA, hGA⟩ : ∃ GA, (A.map fun ad => ad.add (g0.1 * 4)) = GA := ⟨_, rfl⟩
      obtain ⟨gc, hgc⟩ : ∃ gc, c - g0.1 = gc := ⟨_, rfl⟩
      have hAS : Apt GA gb gt := by rw [← hGA]; exact H0.out.2.2.1.map _
      unfold gvS at cg0
      obtain ⟨K, hK⟩ : ∃ K, zr.length = K := ⟨_, rfl⟩
      rw [hK] at hsl0
      rw [hGA, ← hsl0, hgc] at cg0
      rw [hGA, ← hsl0, G0.eq] at rS
      have hsok : ∀ e ∈ z0 :: zr, e.2.ok ∧ e.1 < 4294967296 := fun e he => H0.out.2.2.2.1 e (G0.mem e he)
      obtain ⟨ap, x, rfl, _, hx, cp0⟩ := (Reads.of_own opr).num q1'
      have hxp : x = p := by rw [hp] at hx; injection hx with hx; exact hx.symm
      subst hxp
      have hKm : K + 1 ≤ 100001 := by have := G0.le.2; rw [H0.out.2.2.2.2] at this; omega
      have hK0 : 1 ≤ K := by rw [← hK]; exact List.length_pos_iff.2 G0.ne
      have HS := Lib.hid (And.intro hD (And.intro hL (And.intro ho (And.intro rS (And.intro G0.sum (And.intro G0.may (And.intro hsok hK)))))))
      have HO := Lib.hid (And.intro ogr opr)
      have hbx := hD.lts
      have HP := Lib.hid hp
      clear hD hL ho rS hsok G0 rAr hug hGA hgc hg0 hx hp P0 ogr opr hsl0 hK
      go_wp2
      rename World => wo
      go_loopw [12, 13, 39] (fun v12 v13 i wr => ∃ j : Nat, j ≤ K + 1 ∧ i = .int .i64 j ∧ Below wo.heap.size wo wr ∧ wr.ownsRow wo.heap.size 30 1 v12 j (vN (chJ (z0 :: zr) j)) ∧ wr.ownsRow wo.heap.size 37 3 v13 (j - 1) (vE (spJ (z0 :: zr) j))) (fun _ _ i _ => K + 1 - (intOf i).toNat)
      case atStart => exact ⟨0, Nat.zero_le _, rfl, Below.refl _ _, World.ownsRow_nil _ _ _ _, World.ownsRow_nil _ _ _ _⟩
      case round =>
       obtain ⟨j, hj, rfl, hbq, o12, o13⟩ := hrel
       have j0 : (0 : Int) ≤ (j : Int) := by omega
       have hzq := hbq.size
       obtain ⟨Ac, cc, rfl, hcc⟩ := own_form o12
       obtain ⟨As, sc, rfl, hsc⟩ := own_form o13
       by_cases hjl : j < K + 1
       · have j1 : (j : Int) < (K : Int) + 1 := by omega
         obtain ⟨ad, cj, rfl, _, hcj, u0, u1, u2, u3⟩ := (HS.out.2.2.2.1.below hbq).kd hjl
         have hch := Lib.hid (chJ_succ hcj)
         have X0 := Blk.new wr 68 #[.int .u32 (cj.1 : Int), .string cj.2.s, .int .u32 cj.2.p, .int .u16 cj.2.q]
         have hb0 := hbq.trans ((ball (Below.refl wr.heap.size wr) (.cells #[.int .u32 (cj.1 : Int), .string cj.2.s, .int .u32 cj.2.p, .int .u16 cj.2.q] 68)).mono hzq)
         have p12 := o12.alloc (.cells #[.int .u32 (cj.1 : Int), .string cj.2.s, .int .u32 cj.2.p, .int .u16 cj.2.q] 68)
         have p13 := o13.alloc (.cells #[.int .u32 (cj.1 : Int), .string cj.2.s, .int .u32 cj.2.p, .int .u16 cj.2.q] 68)
         have hzX : wo.heap.size ≤ (wr.alloc (.cells #[.int .u32 (cj.1 : Int), .string cj.2.s, .int .u32 cj.2.p, .int .u16 cj.2.q] 68)).heap.size := hb0.size
         have HX := Lib.hid (And.intro hb0 (And.intro p12 (And.intro p13 X0)))
         have hspj : Hid (0 < j → spJ (z0 :: zr) (j + 1) = spJ (z0 :: zr) j ++ [cj.2]) := Lib.hid fun h => spJ_succ hcj h
         clear hb0 p12 p13 X0 o12 o13 hcj
         by_cases hj0 : j = 0
         · have hjle : (j : Int) ≤ 0 := by omega
           have hjz := Lib.hid hj0
           clear hj0
           go_wp2_with (at_builtin; refine wpList_push1 rfl (.tmp 44) (.tmp 47) 73 rfl wo.heap.size 30 i1 (.int .u32 0) 4 Tryz.underlying73 hi1 hz1 hs1 hy1 rfl _ j (vN (chJ (z0 :: zr) j)) (.int .u32 (cj.1 : Int)) rfl HX.out.2.1 _ rfl (by simp) rfl (by omega) (by omega) hzX ?_; intro v5 w5 ho5 hg5; have b5 := below_grown HX.out.2.1 (Nat.le_refl _) hzX hg5 HX.out.1; have o5 := own_grown HX.out.2.1 HX.out.2.2.1 (by decide) hg5; have X5 := blk_grown HX.out.2.1 HX.out.2.2.2 (by decide) hg5; have H5 := Lib.hid (And.intro ho5 (And.intro b5 (And.intro o5 X5))); clear ho5 hg5 b5 o5 X5)
           go_roundw
           case rel =>
            refine ⟨j + 1, by omega, by go_num, H5.out.2.1, by rw [hch.out, vN_snoc]; exact H5.out.1, ?_⟩
            have h1 := H5.out.2.2.1
            have h2 := hjz.out
            subst h2
            rw [spJ_one]
            exact h1
           case measure => simp [intOf]; omega
         · have hj0' : (0 : Int) < (j : Int) := by omega
           have hjp : 0 < j := by omega
           have hsp := Lib.hid (hspj.out hjp)
           clear hspj
           go_wp2_with (at_builtin; first
            | (refine wpList_push1 rfl (.tmp 44) (.tmp 47) 73 rfl wo.heap.size 30 i1 (.int .u32 0) 4 Tryz.underlying73 hi1 hz1 hs1 hy1 rfl _ j (vN (chJ (z0 :: zr) j)) (.int .u32 (cj.1 : Int)) rfl HX.out.2.1 _ rfl (by simp) rfl (by omega) (by omega) hzX ?_; intro v5 w5 ho5 hg5; have b5 := below_grown HX.out.2.1 (Nat.le_refl _) hzX hg5 HX.out.1; have o5 := own_grown HX.out.2.1 HX.out.2.2.1 (by decide) hg5; have X5 := blk_grown HX.out.2.1 HX.out.2.2.2 (by decide) hg5; have c1 : w5.cell? ⟨wr.heap.size, 1, none⟩ = some (.string cj.2.s) := X5.cell 1; have c2 : w5.cell? ⟨wr.heap.size, 2, none⟩ = some (.int .u32 cj.2.p) := X5.cell 2; have c3 : w5.cell? ⟨wr.heap.size, 3, none⟩ = some (.int .u16 cj.2.q) := X5.cell 3; have z5 : wo.heap.size ≤ w5.heap.size := b5.size; have zX5 := X5.lt; have H5 := Lib.hid (And.intro ho5 (And.intro b5 o5)); clear ho5 hg5 b5 o5 X5)
            | (refine wpList_pushR (news := En.cells cj.2) rfl (.tmp 51) (.tmp 54) 22 rfl wo.heap.size 37 i2 _ 3 24 Tryz.underlying22 hi2 hz2 hs2 hy2 rfl (by decide) _ (j - 1) (vE (spJ (z0 :: zr) j)) rfl H5.out.2.2 rfl _ rfl rfl rfl (by intro u hu; simp only [En.cells, List.mem_cons, List.not_mem_nil, or_false] at hu; rcases hu with rfl | rfl | rfl <;> rfl) (by omega) (by omega) z5 ?_; intro v6 w6 ho6 hg6 _; have b6 := below_grown H5.out.2.2 (Nat.le_refl _) z5 hg6 H5.out.2.1; have o6 := own_grown H5.out.2.2 H5.out.1 (by decide) hg6; have H6 := Lib.hid (And.intro ho6 (And.intro b6 o6)); clear ho6 hg6 b6 o6))
           go_roundw
           case rel => exact ⟨j + 1, by omega, by go_num, H6.out.2.1, by rw [hch.out, vN_snoc]; exact H6.out.2.2, by rw [hsp.out, vE_snoc, show j + 1 - 1 = j - 1 + 1 from by omega]; exact H6.out.1⟩
           case measure => simp [intOf]; omega
       · have hjK : j = K + 1 := by omega
         subst hjK
         have hzl := HS.out.2.2.2.2.2.2.2
         have e1 : chJ (z0 :: zr) (K + 1) = z0.1 :: zr.map Prod.fst := by unfold chJ; rw [List.take_of_length_le (by simp; omega)]; rfl
         have e2 : spJ (z0 :: zr) (K + 1) = zr.map Prod.snd := by unfold spJ; rw [List.take_of_length_le (by simp; omega)]; rfl
         rw [e1] at o12
         rw [e2, show K + 1 - 1 = K from by omega] at o13
         have hsc' : K ≤ sc := by omega
         have hKs : K + 1 - 1 = K := by omega
         rw [hKs]
         have PI := putInner_ok Ac cc As K sc (zr.map Prod.snd) z0.1 (zr.map Prod.fst) wr (Reads.of_own o13) (Reads.of_own o12)
          (fun e he => by obtain ⟨c', hc', rfl⟩ := List.mem_map.1 he; exact (HS.out.2.2.2.2.2.2.1 c' (List.mem_cons_of_mem _ hc')).1)
          (fun e he => by
           rcases List.mem_cons.1 he with rfl | he
           · exact (HS.out.2.2.2.2.2.2.1 z0 (by simp)).2
           · obtain ⟨c', hc', rfl⟩ := List.mem_map.1 he; exact (HS.out.2.2.2.2.2.2.1 c' (List.mem_cons_of_mem _ hc')).2)
          (by omega) HS.out.2.2.2.2.2.1 (by rw [← hzl]; exact HS.out.2.2.2.2.1)
         rw [zip_kd] at PI
         have PI := Lib.hid PI
         have L512 : Hid ((innL z0.1 (zr.map fun c => (c.2, c.1)) K).length = 512) := by
          refine Lib.hid (innL_len _ _ _ ?_)
          rw [List.map_map, List.length_map]
          exact HS.out.2.2.2.2.1
         rw [hzl] at hstep
         have rS := HS.out.2.2.2.1.below hbq
         obtain ⟨ad, z0', rfl, _, hz0', u0, u1, u2, u3⟩ := rS.kd (k := 0) (by omega)
         have hzz : z0' = z0 := by simpa using hz0'.symm
         subst hzz
         have ez : ad.add (0 * 4) = ad := by simp [Addr.add]
         rw [ez] at u0 u1 u2 u3
         have hD3 := HS.out.1.lower hbq
         have hL3 := HS.out.2.1.trans (Lf.of_below (gb := gb) (gt := gt) hbq)
         have ho3 := own_below HS.out.2.2.1 hbq
         have opr3 := own_below HO.out.2 hbq
         have HX := Lib.hid (And.intro hD3 (And.intro hL3 (And.intro ho3 (And.intro opr3 rS))))
         have hzo := hbq.size
         clear hD3 hL3 ho3 opr3 rS o12 o13 e1 e2 hz0' ez hbq hKs u0 u1 u2 u3
         go_wp2_with fail
         refine PI.out.mono ?_
         rintro e w3 ⟨v3, rfl, o3, hb3⟩
         obtain ⟨A3, c3, rfl, hc3⟩ := own_form o3
         rw [L512.out] at hc3 ⊢
         have o3' : Own w3 wr.heap.size (.slice A3 512 c3) (innL z0'.1 (zr.map fun c => (c.2, c.1)) K) := by have := o3; rw [L512.out] at this; exact this
         obtain ⟨ga, tl, rfl, hga, hblk, _, _⟩ := o3'.open_ (by omega)
         have hD4 := HX.out.1.lower hb3
         have WR := Lib.hid (writeDP hD4 x hpn (by omega) ⟨ga, 0, none⟩ c3 w3.heap.size _ o3'.reads.1)
         have hL4 := HX.out.2.1.trans (Lf.of_below (gb := gb) (gt := gt) hb3)
         have ho4 := own_below HX.out.2.2.1 hb3
         have op4 := own_below HX.out.2.2.2.1 hb3
         obtain ⟨ap', x', e', _, hx', c0⟩ := (Reads.of_own op4).num q1'
         cases e'
         have hxx : x = x' := by have h1 := HP.out; rw [h1] at hx'; injection hx'
         subst hxx
         have rS4 := (HX.out.2.2.2.2.below (hb3.mono hzo)).more (Nat.le_trans hzo hb3.size)
         have H4 := Lib.hid (And.intro hL4 (And.intro ho4 (And.intro op4 rS4)))
         clear o3 o3' hblk hD4 hL4 ho4 op4 rS4 hx' PI
         go_wp2_with fail
         refine WR.out.mono ?_
         rintro e w4 ⟨rfl, lf4⟩
         have hL5 := H4.out.1.trans (Lf.of_left lf4)
         have ho5 := (Lf.of_left lf4).own H4.out.2.1 (by omega) (by omega)
         have op5 := (Lf.of_left lf4).own H4.out.2.2.1 (by omega) (by omega)
         have rS5 := H4.out.2.2.2.lf (Lf.of_left lf4) hAS
         have hD5 := lf4.1
         rw [hstep.out.2.2, ← hstep.out.1] at hD5
         obtain ⟨ad', z1, e', _, hz1', u0, u1, u2, u3⟩ := rS5.kd (k := 0) (by omega)
         cases e'
         have hzz : z0' = z1 := by simpa using hz1'
         subst hzz
         have ez : ad.add (0 * 4) = ad := by simp [Addr.add]
         rw [ez] at u0 u1 u2 u3
         obtain ⟨ap', x', e', _, hx', c1⟩ := (Reads.of_own op5).num q1'
         cases e'
         have hxx : x = x' := by have h1 := HP.out; rw [h1] at hx'; injection hx'
         subst hxx
         have hz5 : w2.heap.size ≤ w4.heap.size := hL5.size
         have H5 := Lib.hid (And.intro hD5 (And.intro hL5 ho5))
         clear c0 lf4 hL5 ho5 op5 rS5 hD5 WR H4 hz1' ez hx'
         go_wp2_with fail
         go_region_law (refine step_pushR (w := w4.drew) (news := kdC (x, z0'.2)) rfl (.tmp 73) (.tmp 83) 63 rfl w2.heap.size 68 i0 _ 4 32 Tryz.underlying63 hi0 hz0 hs0 hy0 rfl (by decide) (.slice Av k cv) k (vK (inLv l gs pg k)) (by simp [Act.eval, Act.put]) H5.out.2.2.drew rfl _ (by simp [Act.eval, Act.put]) rfl rfl (by intro u hu; simp only [kdC, List.mem_cons, List.not_mem_nil, or_false] at hu; rcases hu with rfl | rfl | rfl | rfl <;> rfl) (by omega) (by omega) hz5 ?_; intro v6 w6 ho6 hg6 _; have hD6 := DP.push (w := w4.drew) H5.out.1.drew H5.out.2.2.drew hg6 (by decide) (by decide) (by decide); have hL6 := Lf.push (w := w4.drew) H5.out.2.1.drew H5.out.2.2.drew (Nat.le_refl _) hg6; have H6 := Lib.hid (And.intro ho6 (And.intro hD6 hL6)); clear ho6 hg6 hD6 hL6)
         go_wp2
         try go_roundw
         all_goals first | exact ⟨⟨k + 1, by omega, by go_num, H6.out.2.1, H6.out.2.2, by rw [hstep.out.2.1, vK_snoc]; exact H6.out.1⟩, by simp [intOf]; omega⟩ | exact ⟨k + 1, by omega, by go_num, H6.out.2.1, H6.out.2.2, by rw [hstep.out.2.1, vK_snoc]; exact H6.out.1⟩ | (simp [intOf]; omega)
    · obtain rfl : gs.length = k := by omega
      have H1 := Lib.hid (And.intro hD (And.intro hL (And.intro (ho.mono (Nat.le_trans hz01 hz12)) hcv)))
      clear hD hL ho
      go_wp2
      go_ret2
      rw [HTK.out]
      refine ⟨H1.out.1, H2.out.2.2.2.2.trans H1.out.2.1, .inl ⟨_, Av, cv, rfl, ?_, ?_, ?_⟩⟩
      · rw [inLv_len]; rfl
      · rw [inLv_len]; exact H1.out.2.2.1
      · rw [inLv_len]; exact H1.out.2.2.2
 · have H2 := Lib.hid (And.intro hD2 hL02)
   clear hD2 hL2 hL02 I
   go_wp2
   go_ret2
   rw [HTK.out]
   exact ⟨H2.out.1, H2.out.2, .inr ⟨rfl, rfl⟩⟩
end
end Go.Proofs.YtebobcbaloddaaaGreat
namespace Go.Proofs.YtebobcbaloddaaaGreat
section
set_option linter.unusedSimpArgs false
set_option linter.unusedVariables false
open Go.RowKit Go.Maps
structure LvOk (n : Nat) (lv : List Kd) : Prop where
 pos : 1 ≤ lv.length
 ok : ∀ e ∈ lv, e.2.ok ∧ e.1 < n
 may : mayEn (lv.map Prod.snd) = true
theorem heads_sub {α : Type} (d : α) : ∀ L : List (List α), (∀ s ∈ L, s ≠ []) → (L.map fun s => s.head?.getD d).Sublist L.flatten
 | [], _ => List.Sublist.slnil
 | [] :: L, h => absurd rfl (h [] (by simp))
 | (x :: s) :: L, h => by
   rw [List.map_cons, List.flatten_cons]
   show (x :: _).Sublist (x :: (s ++ L.flatten))
   exact ((heads_sub d L fun t ht => h t (by simp [ht])).trans (List.sublist_append_right s L.flatten)).cons_cons x
theorem range_getD {α β : Type} (l : List α) (d : α) (f : α → β) : ((List.range l.length).map fun i => f (l.getD i d)) = l.map f := by
 apply List.ext_getElem?
 intro i
 rw [List.getElem?_map, List.getElem?_map]
 by_cases h : i < l.length
 · rw [List.getElem?_range h, List.getElem?_eq_getElem h]
   simp [List.getD, h]
 · rw [List.getElem?_eq_none (by simp; omega), List.getElem?_eq_none (by omega)]; rfl
theorem lfLv_snd (l : List En) (gs : List (Nat × Nat)) (pg : List Nat) : (lfLv l gs pg gs.length).map Prod.snd = gs.map fun g => ((seg l g).head?).getD enZ := by
 rw [← range_getD gs (0, 0) fun g => ((seg l g).head?).getD enZ]
 unfold lfLv
 rw [List.map_map]; rfl
theorem inLv_snd (l : List Kd) (gs : List (Nat × Nat)) (pg : List Nat) : (inLv l gs pg gs.length).map Prod.snd = gs.map fun g => (((seg l g).head?).map Prod.snd).getD enZ := by
 rw [← range_getD gs (0, 0) fun g => (((seg l g).head?).map Prod.snd).getD enZ]
 unfold inLv
 rw [List.map_map]; rfl
theorem lv_fst {gs : Nat} {pg : List Nat} {T : List Bool} {T1 : List Bool} {bk : Bool} (I : TkI T gs (pg, T1, bk)) (hp : pg.length = gs) {i : Nat} (hi : i < gs) : pg.getD i 0 < T.length := by
 obtain ⟨p, hp'⟩ : ∃ p, pg[i]? = some p := ⟨_, List.getElem?_eq_getElem (by omega)⟩
 rw [getD_of hp']
 exact (I.at_ i p hp').2.2
theorem enZ_may : mayEn [enZ] = true := by decide
theorem enZ_ok : enZ.ok := ⟨by decide, by decide, by decide⟩
theorem lfOk {l : List En} (hm : mayEn l = true) (hok : ∀ e ∈ l, e.ok) {ps : List (List UInt8)} {T : List Bool} {lv : List Kd} (h : (lfP l ps T).2.2 = some lv) : LvOk T.length lv ∧ lv.length = (ptL fE l).length := by
 unfold lfP at h
 have I := tkI T (ptL fE l).length
 split at h
 · rename_i hbk
   injection h with h
   subst h
   have hpl := I.full hbk
   refine ⟨⟨by rw [lfLv_len]; exact gs_ne fE l, ?_, ?_⟩, lfLv_len _ _ _ _⟩
   · intro e he
     unfold lfLv at he
     obtain ⟨i, hi, rfl⟩ := List.mem_map.1 he
     rw [List.mem_range] at hi
     refine ⟨?_, lv_fst I hpl hi⟩
     simp only
     cases hh : (seg l ((ptL fE l).getD i (0, 0))).head? with
     | none => exact enZ_ok
     | some x => exact hok x (mem_seg (List.mem_of_mem_head? hh))
   · rw [lfLv_snd]
     by_cases hl : l = []
     · subst hl; rw [ptL_nil]; simp [seg]; exact enZ_may
     · obtain ⟨h1, _, _⟩ := ptL_ok (ptF_E (may_small hm)) szE_mono hl
       have h2 := heads_sub enZ ((ptL fE l).map (seg l)) (by
        intro s hs
        obtain ⟨g, hg, rfl⟩ := List.mem_map.1 hs
        have h3 := h1.mem g hg
        intro e
        have := seg_len (l := l) (g := g) h3.2.2
        rw [e] at this; simp at this; omega)
       rw [h1.flat l (Nat.le_refl _), seg_all, List.map_map] at h2
       exact may_sub hm h2
 · cases h
theorem gs_half {l : List Kd} (hm : mayEn (l.map Prod.snd) = true) (h2 : 2 ≤ l.length) : 2 * (ptL fC l).length ≤ l.length := by
 have hl : l ≠ [] := by rintro rfl; simp at h2
 have hsm : ∀ x ∈ l, x.2.s.size ≤ 200 := fun x hx => may_small hm x.2 (List.mem_map_of_mem hx)
 obtain ⟨h1, _, _⟩ := ptL_ok (ptF_C hsm) szC_mono hl
 have hall : ∀ g ∈ ptL fC l, g.1 + 2 ≤ g.2 := by
  intro g hg
  obtain ⟨c0, r, G⟩ := grC_ok hm h2 g hg
  have := seg_len (l := l) (g := g) G.le.2
  rw [G.eq, List.length_cons] at this
  have := List.length_pos_iff.2 G.ne
  omega
 have key : ∀ {a c : Nat} {gs : List (Nat × Nat)}, Chn a gs c → (∀ g ∈ gs, g.1 + 2 ≤ g.2) → a + 2 * gs.length ≤ c := by
  intro a c gs
  induction gs generalizing a with
  | nil => intro h _; cases h; simp
  | cons g gs ih => rintro ⟨e1, e2, e3⟩ hg; have := ih e3 (fun x hx => hg x (by simp [hx])); have := hg g (by simp); rw [List.length_cons]; omega
 have := key h1 hall
 omega
theorem inOk {n : Nat} {l : List Kd} (hL : LvOk n l) (h2 : 2 ≤ l.length) {ps : List (List UInt8)} {T : List Bool} (hT : T.length = n) {lv : List Kd} (h : (inP' l ps T).2.2 = some lv) : LvOk n lv ∧ lv.length = (ptL fC l).length := by
 unfold inP' at h
 have I := tkI T (ptL fC l).length
 have hm := hL.may
 split at h
 · rename_i hbk
   injection h with h
   subst h
   have hpl := I.full hbk
   have GR := grC_ok hm h2
   refine ⟨⟨by rw [inLv_len]; exact gs_ne fC l, ?_, ?_⟩, inLv_len _ _ _ _⟩
   · intro e he
     unfold inLv at he
     obtain ⟨i, hi, rfl⟩ := List.mem_map.1 he
     rw [List.mem_range] at hi
     refine ⟨?_, by rw [← hT]; exact lv_fst I hpl hi⟩
     simp only
     cases hh : (seg l ((ptL fC l).getD i (0, 0))).head? with
     | none => exact enZ_ok
     | some x => exact (hL.ok x (mem_seg (List.mem_of_mem_head? hh))).1
   · rw [inLv_snd]
     have hl : l ≠ [] := by rintro rfl; simp at h2
     have hsm : ∀ x ∈ l, x.2.s.size ≤ 200 := fun x hx => may_small hm x.2 (List.mem_map_of_mem hx)
     obtain ⟨h1, _, _⟩ := ptL_ok (ptF_C hsm) szC_mono hl
     have h3 := heads_sub ((0, enZ) : Kd) ((ptL fC l).map (seg l)) (by
      intro s hs
      obtain ⟨g, hg, rfl⟩ := List.mem_map.1 hs
      obtain ⟨c0, r, G⟩ := GR g hg
      rw [G.eq]; simp)
     rw [h1.flat l (Nat.le_refl _), seg_all, List.map_map] at h3
     have h4 := h3.map Prod.snd
     rw [List.map_map] at h4
     refine may_sub hm ?_
     have e : ((ptL fC l).map fun g => (((seg l g).head?).map Prod.snd).getD enZ) = (ptL fC l).map (Prod.snd ∘ ((fun s : List Kd => s.head?.getD ((0, enZ) : Kd)) ∘ seg l)) := by
      apply List.map_congr_left
      intro g _
      simp only [Function.comp]
      cases (seg l g).head? <;> rfl
     rw [e]
     exact h4
 · cases h
end
end Go.Proofs.YtebobcbaloddaaaGreat
namespace Go.Proofs.YtebobcbaloddaaaGreat
section
set_option linter.unusedSimpArgs false
set_option linter.unusedVariables false
open Go.RowKit Go.Maps
def smallB (l : List En) : Bool := l.all fun e => decide (e.s.size ≤ 200)
theorem long_any (x : En) (w : World) : Calls Tryz.prog 25 #[x.agg] w (RetB w (.bool (decide (200 < x.s.size)))) := by
 obtain ⟨s, p, q⟩ := x
 unfold En.agg
 simp only
 have hb0 := ball (Below.refl w.heap.size w) (.cells #[.string s, .int .u32 p, .int .u16 q] 37)
 go_enter Tryz.func25, Tryz.ntmps25
 go_wp2
 go_ret
 exact ⟨ret_bool (by by_cases h : 200 < s.size <;> simp [h] <;> omega), hb0⟩
theorem smallB_take {l : List En} {k : Nat} {x : En} (h : l[k]? = some x) : smallB (l.take (k + 1)) = (smallB (l.take k) && decide (x.s.size ≤ 200)) := by
 unfold smallB; rw [List.take_add_one, h, List.all_append]; simp
theorem smallB_false {l : List En} {k : Nat} {x : En} (h : l[k]? = some x) (hx : 200 < x.s.size) : smallB l = false := by
 unfold smallB
 rw [Bool.eq_false_iff]
 intro h2
 rw [List.all_eq_true] at h2
 have := h2 x (List.mem_of_getElem? h)
 simp at this; omega
set_option maxRecDepth 100000 in
theorem indexE_any (A : Option Addr) (n c : Nat) (l : List En) (w : World) (hr : Reads w w.heap.size 3 A n (vE l)) (hn : n ≤ 1000000) :
 Calls Tryz.prog 45 #[.slice A n c, .func (.func 25) #[] #[]] w fun e w' => ∃ r : Int, e = .returned (.int .i64 r) ∧ Below w.heap.size w w' ∧ decide (0 ≤ r) = !(smallB l) := by
 have hnI : (n : Int) ≤ 1000000 := by omega
 have hl : l.length = n := by have := hr.1; rw [vE_len] at this; omega
 have Hl := Lib.hid hl; clear hl
 go_enter Tryz.func45, Tryz.ntmps45
 go_wp2_with fail
 go_loopw [8] (fun v wr => ∃ k : Nat, v = .int .i64 k ∧ k ≤ n ∧ smallB (l.take k) = true ∧ Below w.heap.size w wr) (fun v _ => n - (intOf v).toNat)
 case atStart => exact ⟨0, rfl, by omega, rfl, Below.refl _ _⟩
 case round =>
  obtain ⟨k, rfl, hk, hz, hb⟩ := hrel
  have g1 : (0 : Int) ≤ (k : Int) := by omega
  have Hz := Lib.hid hz; clear hz
  by_cases hki : k < n
  · have g2 : (k : Int) < (n : Int) := by omega
    obtain ⟨ad, x, rfl, _, hx, d0, d1, d2⟩ := (hr.below hb).ent hki
    have LO := Lib.hid fun W => long_any x W
    have Hx := Lib.hid hx; clear hx
    have Hb := Lib.hid hb; clear hb
    by_cases hx0 : 200 < x.s.size
    · have e1 : decide (200 < x.s.size) = true := decide_eq_true hx0
      rw [e1] at LO
      have HF : Hid (smallB l = false) := Lib.hid (smallB_false Hx.out hx0)
      clear e1 hx0
      obtain ⟨s, p, q⟩ := x
      unfold En.agg at LO
      simp only at *
      go_wp2_with fail
      refine (LO.out _).mono ?_
      rintro e w1 ⟨rfl, hb1⟩
      have hb2 := bto0 Hb.out hb1
      go_wp2
      go_ret
      exact ⟨(k : Int), rfl, hb2, by rw [HF.out]; simp⟩
    · have e1 : decide (200 < x.s.size) = false := decide_eq_false hx0
      rw [e1] at LO
      have HT : Hid (smallB (l.take (k + 1)) = true) := Lib.hid (by rw [smallB_take Hx.out, Hz.out]; simp; omega)
      clear e1 hx0
      obtain ⟨s, p, q⟩ := x
      unfold En.agg at LO
      simp only at *
      go_wp2_with fail
      refine (LO.out _).mono ?_
      rintro e w1 ⟨rfl, hb1⟩
      have hb2 := bto0 Hb.out hb1
      go_wp2
      go_roundw
      case rel => exact ⟨k + 1, by go_num, by omega, HT.out, hb2⟩
      case measure => simp [intOf]; omega
  · obtain rfl : n = k := by omega
    have e1 : l.take n = l := List.take_of_length_le (by rw [Hl.out]; exact Nat.le_refl _)
    have h2 := Hz.out
    rw [e1] at h2
    have H2 := Lib.hid h2; clear h2 e1
    go_wp2
    go_ret
    exact ⟨-1, rfl, hb, by rw [H2.out]; rfl⟩
theorem containsE_any (A : Option Addr) (n c : Nat) (l : List En) (w : World) (hr : Reads w w.heap.size 3 A n (vE l)) (hn : n ≤ 1000000) :
 Calls Tryz.prog 24 #[.slice A n c, .func (.func 25) #[] #[]] w (RetB w (.bool (!(smallB l)))) := by
 have I := Lib.hid (indexE_any A n c l w hr hn)
 clear hr
 go_enter Tryz.func24, Tryz.ntmps24
 go_wp2_with fail
 refine I.out.mono ?_
 rintro e w' ⟨r, rfl, hb, hq⟩
 have Hq := Lib.hid hq; clear hq
 go_wp2
 go_ret
 exact ⟨ret_bool (by rw [← Hq.out]), hb⟩
theorem may_both (l : List En) : mayEn l = (smallB l && riseE l) := rfl
end
end Go.Proofs.YtebobcbaloddaaaGreat
namespace Go.Proofs.YtebobcbaloddaaaGreat
section
set_option linter.unusedSimpArgs false
set_option linter.unusedVariables false
open Go.RowKit Go.Maps
def RetBd (w : World) (g gb gt n : Nat) (R : Bd) (e : Ending) (w' : World) : Prop :=
 DP w' g gb gt n R.1 R.2.1 ∧ Lf w w' gb gt ∧ ((∃ root, R.2.2 = some root ∧ e = .returned (.tuple #[.int .u32 (root : Int), .int .i64 0])) ∨ (R.2.2 = none ∧ e = .returned (.tuple #[.int .u32 0, .int .i64 7])))
def slN : Value → Nat
 | .slice _ n _ => n
 | _ => 0
theorem upP_none (f : Nat) (ps : List (List UInt8)) (T : List Bool) : upP f (ps, T, none) = (ps, T, none) := by cases f <;> rfl
theorem lfP_T (l : List En) (ps : List (List UInt8)) (T : List Bool) : (lfP l ps T).2.1.length = T.length := by
 unfold lfP; split <;> exact (tkI T _).len
def BdI (w : World) (g gb gt n : Nat) (R : Bd) (v6 v7 : Value) (wr : World) : Prop :=
 ∃ (ps : List (List UInt8)) (T : List Bool) (r : Option (List Kd)) (f : Nat), R = upP f (ps, T, r) ∧ DP wr g gb gt n ps T ∧ Lf w wr gb gt ∧
   ((∃ lv A c, r = some lv ∧ v6 = .slice A lv.length c ∧ v7 = .int .i64 0 ∧ wr.ownsRow w.heap.size 68 4 (.slice A lv.length c) lv.length (vK lv) ∧ lv.length ≤ c ∧ LvOk n lv ∧ lv.length + 1 ≤ f ∧ lv.length ≤ 100001) ∨
     (r = none ∧ v6 = .slice none 0 0 ∧ v7 = .int .i64 7))
set_option maxRecDepth 100000 in
set_option maxHeartbeats 8000000 in
theorem build_any {w : World} {g gb gt n : Nat} {ps : List (List UInt8)} {T : List Bool} (h : DP w g gb gt n ps T) (hn : n ≤ 10000) {A : Option Addr} {m c : Nat} {l : List En} (hr : Reads w w.heap.size 3 A m (vE l)) (hA : Apt A gb gt) (hok : ∀ e ∈ l, e.ok) (hm : mayEn l = true) (hm2 : m ≤ 100000) (hc : m ≤ c) (hc2 : c ≤ maxLen) :
 Calls Tryz.prog 11 #[.pointer (some ⟨g, 0, none⟩), .slice A m c] w (RetBd w g gb gt n (bdP l ps T)) := by
 have RI := Lib.hid (riseE_any A m c l w hr (by omega))
 have CO := Lib.hid fun (W : World) (hb : Below w.heap.size w W) => containsE_any A m c l W ((hr.below hb).more hb.size) (by omega)
 have LV := Lib.hid fun (W : World) (hb : Below w.heap.size w W) => leaves_any (h.lower hb) hn ((hr.below hb).more hb.size) hA hok hm hm2 hc hc2
 have hTl := h.hT
 have hlen : l.length = m := by have := hr.1; rw [vE_len] at this; omega
 have HOK : Hid (∀ lv, (lfP l ps T).2.2 = some lv → LvOk n lv ∧ lv.length + 1 ≤ l.length + 2 ∧ lv.length ≤ 100001) := Lib.hid fun lv hlv => by
  obtain ⟨h1, h2⟩ := lfOk hm hok hlv
  rw [hTl] at h1
  have := gs_le hm
  exact ⟨h1, by omega, by omega⟩
 have h1 : riseE l = true ∧ smallB l = true := by rw [may_both, Bool.and_eq_true] at hm; exact ⟨hm.2, hm.1⟩
 have hlts := h.lts
 rw [h1.1] at RI
 rw [h1.2] at CO
 have HB : Hid (bdP l ps T = upP (l.length + 2) (lfP l ps T)) := Lib.hid rfl
 have hT0 := lfP_T l ps T
 clear h hr hA hok hm h1
 generalize lfP l ps T = R0 at *
 generalize bdP l ps T = R at *
 obtain ⟨ps0, T0, r0⟩ := R0
 simp only at *
 go_enter Tryz.func11, Tryz.ntmps11
 go_wp2_with fail
 refine RI.out.mono ?_
 rintro e w1 ⟨rfl, hb1⟩
 have CO1 := Lib.hid (CO.out _ hb1)
 clear CO RI
 go_wp2_with fail
 refine CO1.out.mono ?_
 rintro e w2 ⟨rfl, hb2⟩
 have hb3 := bto0 hb1 hb2
 have LV1 := Lib.hid (LV.out _ hb3)
 have hz2 := hb3.size
 clear hb1 hb2 CO1 LV
 go_wp2_with fail
 refine LV1.out.mono ?_
 rintro e w3 ⟨hD, hL, hres⟩
 have hL3 := (Lf.of_below (gb := gb) (gt := gt) hb3).trans hL
 have HI : Hid (∃ v6 v7, e = .returned (.tuple #[v6, v7]) ∧ BdI w g gb gt n R v6 v7 w3) := by
  refine Lib.hid ?_
  simp only at hD hres
  rcases hres with ⟨lv, A3, c3, hlv, rfl, ho, hc3⟩ | ⟨hno, rfl⟩
  · obtain ⟨k1, k2, k3⟩ := HOK.out lv hlv
    exact ⟨_, _, rfl, ps0, T0, r0, l.length + 2, HB.out, hD, hL3, .inl ⟨lv, A3, c3, hlv, rfl, rfl, ho.mono hz2, hc3, k1, k2, k3⟩⟩
  · exact ⟨_, _, rfl, ps0, T0, r0, l.length + 2, HB.out, hD, hL3, .inr ⟨hno, rfl, rfl⟩⟩
 clear hD hL hres hL3 LV1 HOK HB hb3
 obtain ⟨v6, v7, rfl, hI⟩ := HI.out
 have HI2 := Lib.hid hI
 clear HI hI
 go_wp2
 go_loopw [6, 7] (fun u6 u7 wr => BdI w g gb gt n R u6 u7 wr) (fun u6 _ _ => slN u6)
 case atStart => exact HI2.out
 case round =>
  obtain ⟨ps1, T1, r1, f, hR, hD, hL, hcase⟩ := hrel
  have hzr := hL.size
  rcases hcase with ⟨lv, A3, c3, rfl, rfl, rfl, ho, hc3, hok, hf, hl1⟩ | ⟨rfl, rfl, rfl⟩
  · have hT1 := hD.hT
    obtain ⟨L, hL0⟩ : ∃ L, lv.length = L := ⟨_, rfl⟩
    by_cases h2 : 1 < L
    · have g1 : (1 : Int) < (L : Int) := by omega
      obtain ⟨f', rfl⟩ : ∃ f', f = f' + 1 := ⟨f - 1, by omega⟩
      have hR2 : R = upP f' (inP' lv ps1 T1) := by rw [hR, upP, if_neg (by omega)]
      have hnx : Hid (∀ lv', (inP' lv ps1 T1).2.2 = some lv' → LvOk n lv' ∧ lv'.length + 1 ≤ f' ∧ lv'.length ≤ 100001 ∧ lv'.length < L) := Lib.hid fun lv' h' => by
       obtain ⟨k1, k2⟩ := inOk hok (by omega) hT1 h'
       have := gs_half hok.may (by omega)
       exact ⟨k1, by omega, by omega, by omega⟩
      have hR3 := Lib.hid hR2
      have hApt : Apt A3 gb gt := by
       rintro ad rfl
       have := own_hi ho ad rfl
       exact ⟨by omega, by omega⟩
      have hLm : L ≤ maxLen := by unfold maxLen; omega
      have hc3m : c3 ≤ maxLen := own_cap ho
      have IN := Lib.hid (inner_any hD hn (Reads.of_own ho) hApt (fun e he => ⟨(hok.ok e he).1, by have := (hok.ok e he).2; omega⟩) hok.may (by omega) hl1 hc3 hc3m)
      rw [hL0] at IN hc3 ⊢
      have H1 := Lib.hid (And.intro hD hL)
      generalize inP' lv ps1 T1 = R1 at *
      obtain ⟨ps2, T2, r2⟩ := R1
      simp only at *
      have HL0 := Lib.hid hL0
      clear hR hR2 hD hL ho hok hf hl1 hApt hT1 hL0 hLm hc3m
      go_wp2_with fail
      refine IN.out.mono ?_
      rintro e w4 ⟨hD4, hL4, hres⟩
      have hL5 := H1.out.2.trans hL4
      have HI : Hid (∃ v6 v7, e = .returned (.tuple #[v6, v7]) ∧ BdI w g gb gt n R v6 v7 w4 ∧ slN v6 < L) := by
       refine Lib.hid ?_
       simp only at hD4 hres
       rcases hres with ⟨lv', A4, c4, hlv, rfl, ho4, hc4⟩ | ⟨hno, rfl⟩
       · obtain ⟨k1, k2, k3, k4⟩ := hnx.out lv' hlv
         exact ⟨_, _, rfl, ⟨ps2, T2, r2, f', hR3.out, hD4, hL5, .inl ⟨lv', A4, c4, hlv, rfl, rfl, ho4.mono hzr, hc4, k1, k2, k3⟩⟩, k4⟩
       · exact ⟨_, _, rfl, ⟨ps2, T2, r2, f', hR3.out, hD4, hL5, .inr ⟨hno, rfl, rfl⟩⟩, by show 0 < L; omega⟩
      clear hD4 hL4 hres hL5 IN hnx hR3
      obtain ⟨v6', v7', rfl, hI⟩ := HI.out
      have HI3 := Lib.hid hI
      clear HI hI
      go_wp2
      go_roundw
      case rel => exact HI3.out.1
      case measure => exact HI3.out.2
    · have hL1 : L = 1 := by have := hok.pos; omega
      obtain ⟨f', rfl⟩ : ∃ f', f = f' + 1 := ⟨f - 1, by omega⟩
      obtain ⟨ad, v, rfl, _, hv, u0, u1, u2, u3⟩ := (Reads.of_own ho).kd (k := 0) (by omega)
      have ez : ad.add (0 * 4) = ad := by simp [Addr.add]
      rw [ez] at u0 u1 u2 u3
      have hR2 : R = (ps1, T1, some v.1) := by
       rw [hR, upP, if_pos (by omega)]
       have : lv.head? = some v := by rw [List.head?_eq_getElem?]; exact hv
       rw [this]; rfl
      have H1 := Lib.hid (And.intro hD (And.intro hL hR2))
      rw [hL0, hL1] at hc3 ⊢
      clear hR hR2 hD hL ho hok hf hl1 hv hT1 hL0
      go_wp2
      go_ret2
      rw [H1.out.2.2]
      exact ⟨H1.out.1, H1.out.2.1, .inl ⟨v.1, rfl, rfl⟩⟩
  · have H1 := Lib.hid (And.intro hD (And.intro hL hR))
    clear hD hL hR
    go_wp2
    go_ret2
    rw [H1.out.2.2, upP_none]
    exact ⟨H1.out.1, H1.out.2.1, .inr ⟨rfl, rfl⟩⟩
end
end Go.Proofs.YtebobcbaloddaaaGreat
namespace Go.Proofs.YtebobcbaloddaaaGreat
section
set_option linter.unusedSimpArgs false
set_option linter.unusedVariables false
open Go.RowKit Go.Maps
inductive PgC where
 | leaf (N : Nat) (es : List En)
 | inner (c0 : Nat) (ps : List (En × Nat))
def rdPg (L : List UInt8) : Option PgC :=
 if hdOk L = true ∧ hdK L = 2 then (if okLeaf L = true then some (.leaf (hdN L) (rdMany (hdC L) (L.drop 8))) else none)
 else if hdOk L = true ∧ hdK L = 3 ∧ hdN L = 0 ∧ hdC L ≠ 0 then (if okInner L = true then some (.inner (beVal (tk (L.drop 8) 4)) (riMany (hdC L) (dr (L.drop 8) 4))) else none)
 else none
theorem rdPg_leaf (N : Nat) (l : List En) (hN : N < 4294967296) (hok : ∀ e ∈ l, e.ok) (hm : mayEn l = true) (hf : sumE l ≤ 504) : rdPg (leafL N l) = some (.leaf N l) := by
 obtain ⟨p1, p2, p3, p4, p5, p6, p7, p8⟩ := leafL_page N l hN hok hm hf
 have ho : okLeaf (leafL N l) = true := by
  unfold okLeaf
  rw [p3, p6, p7, p8, allZ_rep, hm]; rfl
 unfold rdPg
 rw [if_pos ⟨p1, p2⟩, if_pos ho, p3, p4, p6]
theorem rdPg_inner (ch0 : Nat) (cs : List Nat) (l : List En) (hl : l.length = cs.length) (h0 : l.length ≠ 0) (hch : ∀ x ∈ ch0 :: cs, x < 4294967296) (hok : ∀ e ∈ l, e.ok) (hm : mayEn l = true) (hf : sumE l + 4 * l.length ≤ 500) : rdPg (innL ch0 (l.zip cs) l.length) = some (.inner ch0 (l.zip cs)) := by
 obtain ⟨p1, p2, p3, p4, p5, p6, p7, p8, p9⟩ := innL_page ch0 cs l (by omega) hch hok hm hf (l.zip cs) rfl (innL ch0 (l.zip cs) l.length) rfl
 have hpf : (l.zip cs).map Prod.fst = l := zip_fst (by omega)
 have h9 : riSh l.length (dr ((innL ch0 (l.zip cs) l.length).drop 8) 4) = false := by
  rw [Bool.or_eq_false_iff] at p9; exact p9.2
 generalize innL ch0 (l.zip cs) l.length = X at *
 have ho : okInner X = true := by
  unfold okInner
  rw [p3, p7, p8, h9, allZ_rep, hpf, hm]; rfl
 unfold rdPg
 rw [if_neg (by rw [p2]; rintro ⟨_, h⟩; omega), if_pos ⟨p1, p2, p4, by rw [p3]; exact h0⟩, if_pos ho, p6, p3, p7]
section
variable (A : Option Addr) (n c : Nat) (L : List UInt8) (w : World)
def TriF : Prop := match rdPg L with
 | none => TriNone A n c L w
 | some (.leaf N es) => (∀ W, Below w.heap.size w W → Calls Tryz.prog 99 #[.string (str L)] W (RetPg11 W 0 N [] es true)) ∧
   (∀ W, Below w.heap.size w W → Calls Tryz.prog 89 #[.slice A n c] W (RetGlo W N es)) ∧ (∀ W, Below w.heap.size w W → Calls Tryz.prog 90 #[.slice A n c] W (RetB W noInner)) ∧
   sumE es ≤ 504 ∧ mayEn es = true ∧ (∀ e ∈ es, e.ok) ∧ N < 4294967296
 | some (.inner c0 ps) => (∀ W, Below w.heap.size w W → Calls Tryz.prog 99 #[.string (str L)] W (RetPg11 W 1 0 (c0 :: ps.map Prod.snd) (ps.map Prod.fst) true)) ∧
   (∀ W, Below w.heap.size w W → Calls Tryz.prog 89 #[.slice A n c] W (RetB W noLeaf)) ∧ (∀ W, Below w.heap.size w W → Calls Tryz.prog 90 #[.slice A n c] W (RetGi W c0 ps)) ∧
   sumE (ps.map Prod.fst) + 4 * ps.length ≤ 500 ∧ mayEn (ps.map Prod.fst) = true ∧ (∀ p ∈ ps, p.1.ok ∧ p.2 < 4294967296) ∧ c0 < 4294967296 ∧ ps.length ≠ 0
theorem triF (hr : Reads w w.heap.size 1 A n (bL L)) (hn : n ≤ 600) (hc : n ≤ c) : TriF A n c L w := by
 have hl := hr.bytes_len
 have R : ∀ W, Below w.heap.size w W → Reads W W.heap.size 1 A n (bL L) := fun W hb => (hr.below hb).more hb.size
 have LO : (hdOk L = false ∨ hdK L ≠ 2) → ∀ W, Below w.heap.size w W → Calls Tryz.prog 89 #[.slice A n c] W (RetB W noLeaf) := fun h W hb => getLeaf_op A n c W.heap.size L W (R W hb) (Nat.le_refl _) (by omega) h
 have IO : (hdOk L = false ∨ hdK L ≠ 3) → ∀ W, Below w.heap.size w W → Calls Tryz.prog 90 #[.slice A n c] W (RetB W noInner) := fun h W hb => getInner_op A n c W.heap.size L W (R W hb) (Nat.le_refl _) (by omega) h
 have hC : hdC L < 65536 := by unfold hdC; exact beVal_lt_of (n := 2) (by rw [List.length_take]; omega)
 have hN : hdN L < 4294967296 := by unfold hdN; exact beVal_lt_of (n := 4) (by rw [List.length_take]; omega)
 by_cases hbad : hdBad L
 · have e0 : rdPg L = none := by
    unfold rdPg
    rw [if_neg, if_neg]
    · rintro ⟨h1, h2, h3, h4⟩
      rcases hbad with h | h | h
      · rw [h1] at h; cases h
      · exact h.2 h2
      · rcases h.2 with h | h
        · exact h h3
        · exact h4 h
    · rintro ⟨h1, h2⟩
      rcases hbad with h | h | h
      · rw [h1] at h; cases h
      · exact h.1 h2
      · rw [h2] at h; exact absurd h.1 (by decide)
   unfold TriF
   rw [e0]
   refine ⟨fun W hb => page_bad L (by omega) hbad W, LO ?_, ?_⟩
   · rcases hbad with h | h | h
     · exact .inl h
     · exact .inr h.1
     · exact .inr (by rw [h.1]; decide)
   · by_cases ho : hdOk L = true
     · by_cases hk : hdK L = 3
       · rcases hbad with h | h | h
         · rw [ho] at h; cases h
         · exact absurd hk h.2
         · exact fun W hb => getInner_hd A n c W.heap.size L W (R W hb) (Nat.le_refl _) (by omega) hc ho hk (by rcases h.2 with h | h; exact .inr h; exact .inl h)
       · exact IO (.inr hk)
     · exact IO (.inl (by simpa using ho))
 · have ho : hdOk L = true := by
    cases h : hdOk L with
    | true => rfl
    | false => exact absurd (.inl h) hbad
   have h512 : n = 512 := by unfold hdOk at ho; rw [Bool.and_eq_true] at ho; rw [← hl]; simpa using ho.1
   by_cases hk : hdK L = 2
   · have hk3 : hdK L ≠ 3 := by rw [hk]; decide
     have GLA : ∀ W, Below w.heap.size w W → Calls Tryz.prog 89 #[.slice A n c] W (RetGla W (hdN L) (rdMany (hdC L) (L.drop 8)) (okLeaf L)) := fun W hb =>
      getLeaf_all A n c W.heap.size (hdC L) L (rdMany (hdC L) (L.drop 8)) (rdRest (hdC L) (L.drop 8)) W (R W hb) (Nat.le_refl _) (by omega) hc ho hk rfl (by omega) rfl rfl _ _ _ rfl rfl (by have := rdRest_le (hdC L) (L.drop 8); rw [List.length_drop] at this; omega) rfl
     have PG := fun W => page_leaf L ho hk W
     by_cases hok : okLeaf L = true
     · rw [hok] at GLA PG
       have hok' := hok
       unfold okLeaf at hok'
       simp only [Bool.and_eq_true, Bool.not_eq_true'] at hok'
       obtain ⟨⟨h1, h2⟩, h3⟩ := hok'
       obtain ⟨i1, i2⟩ := leaf_inv ho hk h1 h2
       unfold TriF rdPg
       rw [if_pos ⟨ho, hk⟩, if_pos hok]
       exact ⟨fun W _ => PG W, GLA, IO (.inr hk3), i2, h3, rdMany_ok _ _, hN⟩
     · have hok' : okLeaf L = false := by simpa using hok
       rw [hok'] at GLA PG
       unfold TriF rdPg
       rw [if_pos ⟨ho, hk⟩, if_neg hok]
       exact ⟨fun W _ => PG W, GLA, IO (.inr hk3)⟩
   · have hk3 : hdK L = 3 := by
      rcases Nat.decEq (hdK L) 3 with h | h
      · exact absurd (.inr (.inl ⟨hk, h⟩)) hbad
      · exact h
     have hN0 : hdN L = 0 := by
      rcases Nat.decEq (hdN L) 0 with h | h
      · exact absurd (.inr (.inr ⟨hk3, .inl h⟩)) hbad
      · exact h
     have hC0 : hdC L ≠ 0 := fun h => hbad (.inr (.inr ⟨hk3, .inr h⟩))
     have h4 : decide ((L.drop 8).length < 4) = false := by rw [decide_eq_false_iff_not, List.length_drop]; omega
     have GIA : ∀ W, Below w.heap.size w W → Calls Tryz.prog 90 #[.slice A n c] W (RetGia W (beVal (tk (L.drop 8) 4)) (riMany (hdC L) (dr (L.drop 8) 4)) (okInner L)) := fun W hb =>
      getInner_all A n c W.heap.size (hdC L) (beVal (tk (L.drop 8) 4)) L (riMany (hdC L) (dr (L.drop 8) 4)) (riRest (hdC L) (dr (L.drop 8) 4)) W (R W hb) (Nat.le_refl _) (by omega) hc ho hk3 rfl (by omega) hC0 hN0 rfl rfl rfl _ _ _ (by rw [h4, Bool.false_or]) rfl (by have := riRest_le (hdC L) (dr (L.drop 8) 4); have h2 := dr_le (L.drop 8) 4; rw [List.length_drop] at h2; omega) rfl
     have PG := fun W => page_inner L ho hk3 hN0 hC0 W
     by_cases hok : okInner L = true
     · rw [hok] at GIA PG
       have hok' := hok
       unfold okInner at hok'
       simp only [Bool.and_eq_true, Bool.not_eq_true'] at hok'
       obtain ⟨⟨h1, h2⟩, h3⟩ := hok'
       obtain ⟨i1, i2⟩ := inner_inv ho hk3 hN0 h1 h2
       unfold TriF rdPg
       rw [if_neg (fun h => hk h.2), if_pos ⟨ho, hk3, hN0, hC0⟩, if_pos hok]
       refine ⟨fun W _ => PG W, LO (.inr hk), GIA, ?_, h3, riMany_ok _ _, ?_, ?_⟩
       · rw [riMany_len]; exact i2
       · exact beVal_lt_of (n := 4) (by rw [tk_len]; exact Nat.le_refl _)
       · rw [riMany_len]; exact hC0
     · have hok' : okInner L = false := by simpa using hok
       rw [hok'] at GIA PG
       unfold TriF rdPg
       rw [if_neg (fun h => hk h.2), if_pos ⟨ho, hk3, hN0, hC0⟩, if_neg hok]
       exact ⟨fun W _ => PG W, LO (.inr hk), GIA⟩
end
end
end Go.Proofs.YtebobcbaloddaaaGreat
namespace Go.Proofs.YtebobcbaloddaaaGreat
section
set_option linter.unusedSimpArgs false
set_option linter.unusedVariables false
open Go.RowKit Go.Maps
def nd0 : Value := .agg #[.bool false, .int .u32 0, .slice none 0 0, .slice none 0 0]
def RetOpn (w : World) : Option PgC → Ending → World → Prop
 | none, e, w' => RetB w (.tuple #[nd0, .int .i64 2]) e w'
 | some (.leaf N es), e, w' => ∃ A c, e = .returned (.tuple #[.agg #[.bool true, .int .u32 (N : Int), .slice none 0 0, .slice A es.length c], .int .i64 0]) ∧ es.length ≤ c ∧ w'.ownsRow w.heap.size 37 3 (.slice A es.length c) es.length (vE es) ∧ Below w.heap.size w w'
 | some (.inner c0 ps), e, w' => ∃ A c A2 c2, e = .returned (.tuple #[.agg #[.bool false, .int .u32 0, .slice A (ps.length + 1) c, .slice A2 ps.length c2], .int .i64 0]) ∧ ps.length + 1 ≤ c ∧ ps.length ≤ c2 ∧
  w'.ownsRow w.heap.size 30 1 (.slice A (ps.length + 1) c) (ps.length + 1) (vN (c0 :: ps.map Prod.snd)) ∧ w'.ownsRow w.heap.size 37 3 (.slice A2 ps.length c2) ps.length (vE (ps.map Prod.fst)) ∧ Below w.heap.size w w'
theorem nd_end {W : World} {R : Nat} {tm : Array Value} {Q : Ending → World → Prop} {a b c d v : Value} (hR : Blk W R 75 #[a, b, c, d])
 (h4 : tm[2]? = some (.pointer (some ⟨R, 0, none⟩))) (h5 : tm[3]? = some v) (h : Q (.returned (.tuple #[.agg #[a, b, c, d], v])) W) :
 bodyPost Tryz.prog Tryz.f56 Q Exit.ret { tmps := tm, defers := [] } W := by
 have q0 : W.cell? ⟨R, 0, none⟩ = _ := hR.cell 0
 have q1 : W.cell? ⟨R, 1, none⟩ = _ := hR.cell 1
 have q2 : W.cell? ⟨R, 2, none⟩ = _ := hR.cell 2
 have q3 : W.cell? ⟨R, 3, none⟩ = _ := hR.cell 3
 exact bodyPost_ret (v := .tuple #[.agg #[a, b, c, d], v]) (by simp [results, Tryz.results56, go_sem, h4, h5, q0, q1, q2, q3]) rfl h
theorem blk4 {W : World} {R : Nat} {t : TypeId} {a b c d a' b' c' d' : Value} (h : Blk W R t #[a, b, c, d]) : Blk ((((W.setCell ⟨R, 0, none⟩ a').setCell ⟨R, 1, none⟩ b').setCell ⟨R, 2, none⟩ c').setCell ⟨R, 3, none⟩ d') R t #[a', b', c', d'] := by
 have := (((h.set_ 0 a').set_ 1 b').set_ 2 c').set_ 3 d'
 simpa using this
theorem own_set4 {W : World} {R base size k : Nat} {e : TypeId} {v a b c d : Value} {xs : List Value} (h : W.ownsRow base e size v k xs) (hR : R < base) : ((((W.setCell ⟨R, 0, none⟩ a).setCell ⟨R, 1, none⟩ b).setCell ⟨R, 2, none⟩ c).setCell ⟨R, 3, none⟩ d).ownsRow base e size v k xs :=
 ownsRow_setCell_below (ownsRow_setCell_below (ownsRow_setCell_below (ownsRow_setCell_below h hR _) hR _) hR _) hR _
theorem below_set4 {w W : World} {R B : Nat} {a b c d : Value} (h : Below B w W) (hR : B ≤ R) : Below B w ((((W.setCell ⟨R, 0, none⟩ a).setCell ⟨R, 1, none⟩ b).setCell ⟨R, 2, none⟩ c).setCell ⟨R, 3, none⟩ d) :=
 (((h.setCell (p := ⟨R, 0, none⟩) hR a).setCell (p := ⟨R, 1, none⟩) hR b).setCell (p := ⟨R, 2, none⟩) hR c).setCell (p := ⟨R, 3, none⟩) hR d
set_option maxRecDepth 100000 in
set_option maxHeartbeats 2000000 in
theorem open_any {w : World} {A : Option Addr} {n c : Nat} {L : List UInt8} (hT : TriF A n c L w) :
 Calls Tryz.prog 56 #[.slice A n c] w (RetOpn w (rdPg L)) := by
 have X0 := Blk.new w 75 #[.bool false, .int .u32 0, .slice none 0 0, .slice none 0 0]
 have hb0 := ball (Below.refl w.heap.size w) (.cells #[.bool false, .int .u32 0, .slice none 0 0, .slice none 0 0] 75)
 unfold TriF at hT
 generalize rdPg L = R at *
 rcases R with _ | ⟨N, es⟩ | ⟨c0, ps⟩
 · simp only at hT
   obtain ⟨_, GL, GI⟩ := hT
   have GLH := Lib.hid GL; have GIH := Lib.hid GI
   clear GL GI
   unfold noLeaf at GLH; unfold noInner at GIH
   go_enter Tryz.func56, Tryz.ntmps56
   go_wp2_with fail
   refine (GLH.out _ hb0).mono ?_
   rintro e w1 ⟨rfl, hb1⟩
   have X1 := X0.below hb1 (by simp)
   have hb2 := bto0 hb0 hb1
   have G2 := Lib.hid (GIH.out _ hb2)
   clear X0 hb0 hb1 GLH GIH
   go_wp2_with fail
   refine G2.out.mono ?_
   rintro e w2 ⟨rfl, hb3⟩
   have X2 := X1.below hb3 X1.lt
   have hb4 := bto0 hb2 hb3
   have hl := X2.lt
   have c0 : w2.cell? ⟨w.heap.size, 0, none⟩ = some (.bool false) := X2.cell 0
   have c1 : w2.cell? ⟨w.heap.size, 1, none⟩ = some (.int .u32 0) := X2.cell 1
   have c2 : w2.cell? ⟨w.heap.size, 2, none⟩ = some (.slice none 0 0) := X2.cell 2
   have c3 : w2.cell? ⟨w.heap.size, 3, none⟩ = some (.slice none 0 0) := X2.cell 3
   have f0 := X2.frozen 0
   have f1 := X2.frozen 1
   have f2 := X2.frozen 2
   have f3 := X2.frozen 3
   go_wp2
   have X3 := blk4 X2 (a' := .bool false) (b' := .int .u32 0) (c' := .slice none 0 0) (d' := .slice none 0 0)
   have hb5 := below_set4 hb4 (Nat.le_refl w.heap.size) (a := .bool false) (b := .int .u32 0) (c := .slice none 0 0) (d := .slice none 0 0)
   exact nd_end X3 rfl rfl ⟨rfl, hb5⟩
 · simp only at hT
   obtain ⟨_, GL, _, hs, hm, hok, hN⟩ := hT
   have GLH := Lib.hid GL
   clear GL
   go_enter Tryz.func56, Tryz.ntmps56
   go_wp2_with fail
   refine (GLH.out _ hb0).mono ?_
   rintro e w1 ⟨A1, cA, rfl, hc1, o1, hb1⟩
   have X2 := X0.below hb1 (by simp)
   have hb2 := bto0 hb0 hb1
   have hl := X2.lt
   have c0 : w1.cell? ⟨w.heap.size, 0, none⟩ = some (.bool false) := X2.cell 0
   have c1 : w1.cell? ⟨w.heap.size, 1, none⟩ = some (.int .u32 0) := X2.cell 1
   have c2 : w1.cell? ⟨w.heap.size, 2, none⟩ = some (.slice none 0 0) := X2.cell 2
   have c3 : w1.cell? ⟨w.heap.size, 3, none⟩ = some (.slice none 0 0) := X2.cell 3
   have f0 := X2.frozen 0
   have f1 := X2.frozen 1
   have f2 := X2.frozen 2
   have f3 := X2.frozen 3
   have H1 := Lib.hid (And.intro X2 (And.intro hb2 o1))
   clear X2 hb2 o1 hb1 X0 hb0
   go_wp2
   have X3 := blk4 H1.out.1 (a' := .bool true) (b' := .int .u32 (N : Int)) (c' := .slice none 0 0) (d' := .slice A1 es.length cA)
   have hb5 := below_set4 H1.out.2.1 (Nat.le_refl w.heap.size) (a := .bool true) (b := .int .u32 (N : Int)) (c := .slice none 0 0) (d := .slice A1 es.length cA)
   have o5 := own_set4 (R := w.heap.size) H1.out.2.2 (by simp) (a := .bool true) (b := .int .u32 (N : Int)) (c := .slice none 0 0) (d := .slice A1 es.length cA)
   exact nd_end X3 rfl rfl ⟨A1, cA, rfl, hc1, o5.mono (by simp), hb5⟩
 · simp only at hT
   obtain ⟨_, GL, GI, hs, hm, hok, hc0, hne⟩ := hT
   have GLH := Lib.hid GL; have GIH := Lib.hid GI
   clear GL GI
   unfold noLeaf at GLH
   go_enter Tryz.func56, Tryz.ntmps56
   go_wp2_with fail
   refine (GLH.out _ hb0).mono ?_
   rintro e w1 ⟨rfl, hb1⟩
   have X1 := X0.below hb1 (by simp)
   have hb2 := bto0 hb0 hb1
   have G2 := Lib.hid (GIH.out _ hb2)
   clear X0 hb0 hb1 GLH GIH
   go_wp2_with fail
   refine G2.out.mono ?_
   rintro e w2 ⟨A1, cA, A2, cB, rfl, hcA, hcB, o1, o2, hb3⟩
   have X2 := X1.below hb3 X1.lt
   have hb4 := bto0 hb2 hb3
   have hl := X2.lt
   have hg1 := X1.lt
   have k0 : w2.cell? ⟨w.heap.size, 0, none⟩ = some (.bool false) := X2.cell 0
   have k1 : w2.cell? ⟨w.heap.size, 1, none⟩ = some (.int .u32 0) := X2.cell 1
   have k2 : w2.cell? ⟨w.heap.size, 2, none⟩ = some (.slice none 0 0) := X2.cell 2
   have k3 : w2.cell? ⟨w.heap.size, 3, none⟩ = some (.slice none 0 0) := X2.cell 3
   have f0 := X2.frozen 0
   have f1 := X2.frozen 1
   have f2 := X2.frozen 2
   have f3 := X2.frozen 3
   have H1 := Lib.hid (And.intro X2 (And.intro hb4 (And.intro o1 o2)))
   have hz := Lib.hid hb2.size
   clear X2 hb2 o1 o2 hb3 X1 hb4 G2
   go_wp2
   have X3 := blk4 H1.out.1 (a' := .bool false) (b' := .int .u32 0) (c' := .slice A1 (ps.length + 1) cA) (d' := .slice A2 ps.length cB)
   have hb5 := below_set4 H1.out.2.1 (Nat.le_refl w.heap.size) (a := .bool false) (b := .int .u32 0) (c := .slice A1 (ps.length + 1) cA) (d := .slice A2 ps.length cB)
   have o5 := own_set4 (R := w.heap.size) H1.out.2.2.1 hg1 (a := .bool false) (b := .int .u32 0) (c := .slice A1 (ps.length + 1) cA) (d := .slice A2 ps.length cB)
   have o6 := own_set4 (R := w.heap.size) H1.out.2.2.2 hg1 (a := .bool false) (b := .int .u32 0) (c := .slice A1 (ps.length + 1) cA) (d := .slice A2 ps.length cB)
   exact nd_end X3 rfl rfl ⟨A1, cA, A2, cB, rfl, hcA, hcB, o5.mono hz.out, o6.mono hz.out, hb5⟩
end
end Go.Proofs.YtebobcbaloddaaaGreat
namespace Go.Proofs.YtebobcbaloddaaaGreat
section
set_option linter.unusedSimpArgs false
set_option linter.unusedVariables false
open Go.RowKit Go.Maps
structure Bnd where
 lo : En
 hi : En
 ends : Bool
@[reducible] def Bnd.agg (b : Bnd) : Value := .agg #[.string b.lo.s, .int .u32 b.lo.p, .int .u16 b.lo.q, .string b.hi.s, .int .u32 b.hi.p, .int .u16 b.hi.q, .bool b.ends]
@[reducible] def Bnd.arr (b : Bnd) : Array Value := #[.string b.lo.s, .int .u32 b.lo.p, .int .u16 b.lo.q, .string b.hi.s, .int .u32 b.hi.p, .int .u16 b.hi.q, .bool b.ends]
def bHas (b : Bnd) (l : List En) : Bool := match l with
 | [] => true
 | x :: r => decide (0 ≤ cmpE x b.lo) && (!b.ends || decide (cmpE ((x :: r).getLast (by simp)) b.hi < 0))
theorem bhas_nil (b : Bnd) (A : Option Addr) (c : Nat) (w : World) : Calls Tryz.prog 106 #[b.agg, .slice A 0 c] w (RetB w (.bool true)) := by
 have hb0 := ball (Below.refl w.heap.size w) (.cells b.arr 119)
 obtain ⟨⟨s1, p1, q1⟩, ⟨s2, p2, q2⟩, en⟩ := b
 unfold Bnd.agg
 unfold Bnd.arr at hb0
 simp only at *
 go_enter Tryz.func106, Tryz.ntmps106
 go_wp2
 go_ret
 exact ⟨rfl, hb0⟩
set_option maxRecDepth 100000 in
set_option maxHeartbeats 4000000 in
theorem bhas_some (b : Bnd) (A : Option Addr) (m c : Nat) (x y : En) (l : List En) (w : World) (hr : Reads w w.heap.size 3 A (m + 1) (vE l)) (hx : l[0]? = some x) (hy : l[m]? = some y) (hm : m ≤ 100000) :
 Calls Tryz.prog 106 #[b.agg, .slice A (m + 1) c] w (RetB w (.bool (decide (0 ≤ cmpE x b.lo) && (!b.ends || decide (cmpE y b.hi < 0))))) := by
 have hb0 := ball (Below.refl w.heap.size w) (.cells b.arr 119)
 have X0 := Blk.new w 119 b.arr
 obtain ⟨ad, x', rfl, hab, hx', u0, u1, u2⟩ := hr.ent (k := 0) (by omega)
 obtain ⟨ad', y', e', hab', hy', v0, v1, v2⟩ := hr.ent (k := m) (by omega)
 cases e'
 have hxx : x = x' := by rw [hx] at hx'; injection hx'
 have hyy : y = y' := by rw [hy] at hy'; injection hy'
 subst hxx; subst hyy
 have ez : ad.add (0 * 3) = ad := by simp [Addr.add]
 rw [ez] at u0 u1 u2
 have C1 := Lib.hid fun W => compareE_any x b.lo W
 have C2 := Lib.hid fun W => compareE_any y b.hi W
 obtain ⟨⟨s1, p1, q1⟩, ⟨s2, p2, q2⟩, en⟩ := b
 obtain ⟨s, p, q⟩ := x
 obtain ⟨s', p', q'⟩ := y
 unfold En.agg at C1 C2
 unfold Bnd.agg
 unfold Bnd.arr at hb0 X0
 simp only at *
 have m0 : (0 : Int) ≤ (m : Int) := by omega
 have m1 : (m : Int) ≤ 100000 := by omega
 clear hx hy hx' hy' ez hr
 generalize cmpE ⟨s, p, q⟩ ⟨s1, p1, q1⟩ = z1 at *
 generalize cmpE ⟨s', p', q'⟩ ⟨s2, p2, q2⟩ = z2 at *
 have hzX : (w.alloc (.cells #[.string s1, .int .u32 p1, .int .u16 q1, .string s2, .int .u32 p2, .int .u16 q2, .bool en] 119)).heap.size = w.heap.size + 1 := by simp
 have U0 := (hb0.cell (p := ad) hab).trans u0
 have U1 := (hb0.cell (p := ⟨ad.block, ad.off + 1, none⟩) hab).trans u1
 have U2 := (hb0.cell (p := ⟨ad.block, ad.off + 2, none⟩) hab).trans u2
 have hbm : (ad.add (m * 3)).block < w.heap.size := by rw [block_of_add]; exact hab
 have V0 := (hb0.cell (p := ad.add (m * 3)) hbm).trans v0
 have V1 := (hb0.cell (p := ⟨(ad.add (m * 3)).block, (ad.add (m * 3)).off + 1, none⟩) hbm).trans v1
 have V2 := (hb0.cell (p := ⟨(ad.add (m * 3)).block, (ad.add (m * 3)).off + 2, none⟩) hbm).trans v2
 obtain ⟨WX, hWX⟩ : ∃ WX, (w.alloc (.cells #[.string s1, .int .u32 p1, .int .u16 q1, .string s2, .int .u32 p2, .int .u16 q2, .bool en] 119)) = WX := ⟨_, rfl⟩
 have hS : Hid (∀ W, Below WX.heap.size WX W → W.cell? ad = some (.string s) ∧ W.cell? ⟨ad.block, ad.off + 1, none⟩ = some (.int .u32 p) ∧ W.cell? ⟨ad.block, ad.off + 2, none⟩ = some (.int .u16 q) ∧ W.cell? (ad.add (m * 3)) = some (.string s') ∧ W.cell? ⟨(ad.add (m * 3)).block, (ad.add (m * 3)).off + 1, none⟩ = some (.int .u32 p') ∧ W.cell? ⟨(ad.add (m * 3)).block, (ad.add (m * 3)).off + 2, none⟩ = some (.int .u16 q') ∧
  W.cell? ⟨w.heap.size, 0, none⟩ = some (.string s1) ∧ W.cell? ⟨w.heap.size, 1, none⟩ = some (.int .u32 p1) ∧ W.cell? ⟨w.heap.size, 2, none⟩ = some (.int .u16 q1) ∧ W.cell? ⟨w.heap.size, 3, none⟩ = some (.string s2) ∧ W.cell? ⟨w.heap.size, 4, none⟩ = some (.int .u32 p2) ∧ W.cell? ⟨w.heap.size, 5, none⟩ = some (.int .u16 q2) ∧ W.cell? ⟨w.heap.size, 6, none⟩ = some (.bool en) ∧ Below WX.heap.size WX W) := by
  refine Lib.hid fun W hW => ?_
  rw [hWX] at X0 U0 U1 U2 V0 V1 V2 hzX
  have X1 := X0.below hW (by omega)
  have lt1 : ad.block < WX.heap.size := by omega
  have lt2 : (ad.add (m * 3)).block < WX.heap.size := by omega
  exact ⟨(hW.cell (p := ad) lt1).trans U0, (hW.cell (p := ⟨ad.block, ad.off + 1, none⟩) lt1).trans U1, (hW.cell (p := ⟨ad.block, ad.off + 2, none⟩) lt1).trans U2, (hW.cell (p := ad.add (m * 3)) lt2).trans V0, (hW.cell (p := ⟨(ad.add (m * 3)).block, _, none⟩) lt2).trans V1, (hW.cell (p := ⟨(ad.add (m * 3)).block, _, none⟩) lt2).trans V2,
   X1.cell 0, X1.cell 1, X1.cell 2, X1.cell 3, X1.cell 4, X1.cell 5, X1.cell 6, hW⟩
 go_enter Tryz.func106, Tryz.ntmps106
 have hw1 : IntKind.i64.wrap ((m : Int) + 1 - 1) = (m : Int) := by rw [show (m : Int) + 1 - 1 = (m : Int) from by omega]; exact IntWalk.i64_in _ (by omega)
 have hw2 : IntKind.i64.wrap (m : Int) = (m : Int) := IntWalk.i64_in _ (by omega)
 have m3 : m < m + 1 := by omega
 have m4 : (m : Int) < (m : Int) + 1 := by omega
 have e0 : ((m : Int) + 1 == 0) = false := by simp; omega
 go_wp2_with fail
 rw [hWX] at hb0
 clear X0 U0 U1 U2 V0 V1 V2 u0 u1 u2 v0 v1 v2 hWX hzX
 by_cases hz1 : z1 < 0
 · have hz1' : ¬ 0 ≤ z1 := by omega
   have d1 : decide (0 ≤ z1) = false := decide_eq_false hz1'
   clear C2
   refine wp_region_held_drew (S := (fun W => W.cell? ad = some (.string s) ∧ W.cell? ⟨ad.block, ad.off + 1, none⟩ = some (.int .u32 p) ∧ W.cell? ⟨ad.block, ad.off + 2, none⟩ = some (.int .u16 q) ∧ W.cell? (ad.add (m * 3)) = some (.string s') ∧ W.cell? ⟨(ad.add (m * 3)).block, (ad.add (m * 3)).off + 1, none⟩ = some (.int .u32 p') ∧ W.cell? ⟨(ad.add (m * 3)).block, (ad.add (m * 3)).off + 2, none⟩ = some (.int .u16 q') ∧ W.cell? ⟨w.heap.size, 0, none⟩ = some (.string s1) ∧ W.cell? ⟨w.heap.size, 1, none⟩ = some (.int .u32 p1) ∧ W.cell? ⟨w.heap.size, 2, none⟩ = some (.int .u16 q1) ∧ W.cell? ⟨w.heap.size, 3, none⟩ = some (.string s2) ∧ W.cell? ⟨w.heap.size, 4, none⟩ = some (.int .u32 p2) ∧ W.cell? ⟨w.heap.size, 5, none⟩ = some (.int .u16 q2) ∧ W.cell? ⟨w.heap.size, 6, none⟩ = some (.bool en) ∧ Below WX.heap.size WX W)) (by kernel_rfl) (by exact hS.out _ (Below.drew (Below.refl _ _))) (fun hHeld => ?_)
   try dsimp only at hHeld
   refine zt 0 ?_ rfl (by kernel_rfl) (fun _ _ _ h => h) ⟨rfl, ?_⟩ hHeld ?_
   rotate_left
   focus (intro wx hSw; (try dsimp only at hSw); (try go_split_ands); go_simp; (try with_reducible rfl))
   try simp only [Act.put, za1, za2, za3, za4, za5, za6]
   refine zt 1 ?_ rfl (by kernel_rfl) (fun _ _ _ h => h) ⟨rfl, ?_⟩ hHeld ?_
   rotate_left
   focus (intro wx hSw; (try dsimp only at hSw); (try go_split_ands); go_simp; (try with_reducible rfl))
   try simp only [Act.put, za1, za2, za3, za4, za5, za6]
   refine zt 2 ?_ rfl (by kernel_rfl) (fun _ _ _ h => h) ⟨rfl, ?_⟩ hHeld ?_
   rotate_left
   focus (intro wx hSw; (try dsimp only at hSw); (try go_split_ands); go_simp; (try with_reducible rfl))
   try simp only [Act.put, za1, za2, za3, za4, za5, za6]
   refine zt 3 ?_ rfl (by kernel_rfl) (fun _ _ _ h => h) ⟨rfl, ?_⟩ hHeld ?_
   rotate_left
   focus (intro wx hSw; (try dsimp only at hSw); (try go_split_ands); go_simp; (try with_reducible rfl))
   try simp only [Act.put, za1, za2, za3, za4, za5, za6]
   refine zt 4 ?_ rfl (by kernel_rfl) (fun _ _ _ h => h) ⟨rfl, ?_⟩ hHeld ?_
   rotate_left
   focus (intro wx hSw; (try dsimp only at hSw); (try go_split_ands); go_simp; (try with_reducible rfl))
   try simp only [Act.put, za1, za2, za3, za4, za5, za6]
   refine wpAnyH_ready (rs := [5]) (by kernel_rfl) (by simp) (AllReadyH.cons rfl (fun K hK => ?_) AllReadyH.nil)
   go_simp
   (first | ((with_reducible refine (C1.out _).mono ?_); rintro e w1 ⟨rfl, hb1⟩) | ((with_reducible refine (C2.out _).mono ?_); rintro e w2 ⟨rfl, hb2⟩))
   go_wp2_with fail
   refine hK.out _ _ ?_ (fun hHeld => ?_)
   · ((try dsimp only); (try dsimp only at hHeld); (first | exact hS.out _ (by (with_reducible repeat (first | exact Below.refl _ _ | exact hb2 | exact hb1 | refine bto0 ?_ hb2 | refine bto0 ?_ hb1 | refine bdr ?_ _ | refine Below.drew ?_ | refine ball ?_ _))) | assumption))
   clear hK K
   try dsimp only at hHeld
   try simp only [Act.put, za1, za2, za3, za4, za5, za6]
   refine zt 6 ?_ rfl (by kernel_rfl) (fun _ _ _ h => h) ⟨rfl, ?_⟩ hHeld ?_
   rotate_left
   focus (intro wx hSw; (try dsimp only at hSw); (try go_split_ands); go_simp; (try with_reducible rfl))
   try simp only [Act.put, za1, za2, za3, za4, za5, za6]
   refine zt 7 ?_ rfl (by kernel_rfl) (fun _ _ _ h => h) ⟨rfl, ?_⟩ hHeld ?_
   rotate_left
   focus (intro wx hSw; (try dsimp only at hSw); (try go_split_ands); go_simp; (try with_reducible rfl))
   try simp only [Act.put, za1, za2, za3, za4, za5, za6]
   refine wpAnyH_take (i := 8) (v := undef) rfl (by kernel_rfl) (by kernel_rfl) (by kernel_rfl) (fun _ _ _ h => h) (Or.inr ⟨rfl, rfl⟩) hHeld ?_
   try simp only [Act.put, za1, za2, za3, za4, za5, za6]
   refine wpAnyH_take (i := 9) (v := undef) rfl (by kernel_rfl) (by kernel_rfl) (by kernel_rfl) (fun _ _ _ h => h) (Or.inr ⟨rfl, rfl⟩) hHeld ?_
   try simp only [Act.put, za1, za2, za3, za4, za5, za6]
   refine wpAnyH_take (i := 10) (v := undef) rfl (by kernel_rfl) (by kernel_rfl) (by kernel_rfl) (fun _ _ _ h => h) (Or.inr ⟨rfl, rfl⟩) hHeld ?_
   try simp only [Act.put, za1, za2, za3, za4, za5, za6]
   refine wpAnyH_take (i := 11) (v := undef) rfl (by kernel_rfl) (by kernel_rfl) (by kernel_rfl) (fun _ _ _ h => h) (Or.inr ⟨rfl, rfl⟩) hHeld ?_
   try simp only [Act.put, za1, za2, za3, za4, za5, za6]
   refine wpAnyH_take (i := 12) (v := undef) rfl (by kernel_rfl) (by kernel_rfl) (by kernel_rfl) (fun _ _ _ h => h) (Or.inr ⟨rfl, rfl⟩) hHeld ?_
   try simp only [Act.put, za1, za2, za3, za4, za5, za6]
   refine wpAnyH_take (i := 13) (v := undef) rfl (by kernel_rfl) (by kernel_rfl) (by kernel_rfl) (fun _ _ _ h => h) (Or.inr ⟨rfl, rfl⟩) hHeld ?_
   try simp only [Act.put, za1, za2, za3, za4, za5, za6]
   refine wpAnyH_take (i := 14) (v := undef) rfl (by kernel_rfl) (by kernel_rfl) (by kernel_rfl) (fun _ _ _ h => h) (Or.inr ⟨rfl, rfl⟩) hHeld ?_
   try simp only [Act.put, za1, za2, za3, za4, za5, za6]
   refine wpAnyH_take (i := 15) (v := undef) rfl (by kernel_rfl) (by kernel_rfl) (by kernel_rfl) (fun _ _ _ h => h) (Or.inr ⟨rfl, rfl⟩) hHeld ?_
   try simp only [Act.put, za1, za2, za3, za4, za5, za6]
   refine wpAnyH_take (i := 16) (v := undef) rfl (by kernel_rfl) (by kernel_rfl) (by kernel_rfl) (fun _ _ _ h => h) (Or.inr ⟨rfl, rfl⟩) hHeld ?_
   try simp only [Act.put, za1, za2, za3, za4, za5, za6]
   refine wpAnyH_take (i := 17) (v := undef) rfl (by kernel_rfl) (by kernel_rfl) (by kernel_rfl) (fun _ _ _ h => h) (Or.inr ⟨rfl, rfl⟩) hHeld ?_
   try simp only [Act.put, za1, za2, za3, za4, za5, za6]
   refine wpAnyH_take (i := 18) (v := undef) rfl (by kernel_rfl) (by kernel_rfl) (by kernel_rfl) (fun _ _ _ h => h) (Or.inr ⟨rfl, rfl⟩) hHeld ?_
   try simp only [Act.put, za1, za2, za3, za4, za5, za6]
   refine wpAnyH_take (i := 19) (v := undef) rfl (by kernel_rfl) (by kernel_rfl) (by kernel_rfl) (fun _ _ _ h => h) (Or.inr ⟨rfl, rfl⟩) hHeld ?_
   try simp only [Act.put, za1, za2, za3, za4, za5, za6]
   refine wpAnyH_take (i := 20) (v := undef) rfl (by kernel_rfl) (by kernel_rfl) (by kernel_rfl) (fun _ _ _ h => h) (Or.inr ⟨rfl, rfl⟩) hHeld ?_
   try simp only [Act.put, za1, za2, za3, za4, za5, za6]
   refine wpAnyH_take (i := 21) (v := undef) rfl (by kernel_rfl) (by kernel_rfl) (by kernel_rfl) (fun _ _ _ h => h) (Or.inr ⟨rfl, rfl⟩) hHeld ?_
   try simp only [Act.put, za1, za2, za3, za4, za5, za6]
   refine wpAnyH_take (i := 22) (v := undef) rfl (by kernel_rfl) (by kernel_rfl) (by kernel_rfl) (fun _ _ _ h => h) (Or.inr ⟨rfl, rfl⟩) hHeld ?_
   try simp only [Act.put, za1, za2, za3, za4, za5, za6]
   refine zt 23 ?_ rfl (by kernel_rfl) (fun _ _ _ h => h) ⟨rfl, ?_⟩ hHeld ?_
   rotate_left
   focus (intro wx hSw; (try dsimp only at hSw); (try go_split_ands); go_simp; (try with_reducible rfl))
   try simp only [Act.put, za1, za2, za3, za4, za5, za6]
   refine zt 24 ?_ rfl (by kernel_rfl) (fun _ _ _ h => h) ⟨rfl, ?_⟩ hHeld ?_
   rotate_left
   focus (intro wx hSw; (try dsimp only at hSw); (try go_split_ands); go_simp; (try with_reducible rfl))
   try simp only [Act.put, za1, za2, za3, za4, za5, za6]
   refine wpAnyH_done (by kernel_rfl) ?_ _
   go_wp2
   go_ret
   exact ⟨ret_bool (by simp [d1]), bto0 hb0 (by (with_reducible repeat (first | exact Below.refl _ _ | exact hb2 | exact hb1 | refine bto0 ?_ hb2 | refine bto0 ?_ hb1 | refine bdr ?_ _ | refine Below.drew ?_ | refine ball ?_ _)))⟩
 · have hz1' : 0 ≤ z1 := by omega
   have d1 : decide (0 ≤ z1) = true := decide_eq_true hz1'
   cases en
   · clear C2
     refine wp_region_held_drew (S := (fun W => W.cell? ad = some (.string s) ∧ W.cell? ⟨ad.block, ad.off + 1, none⟩ = some (.int .u32 p) ∧ W.cell? ⟨ad.block, ad.off + 2, none⟩ = some (.int .u16 q) ∧ W.cell? (ad.add (m * 3)) = some (.string s') ∧ W.cell? ⟨(ad.add (m * 3)).block, (ad.add (m * 3)).off + 1, none⟩ = some (.int .u32 p') ∧ W.cell? ⟨(ad.add (m * 3)).block, (ad.add (m * 3)).off + 2, none⟩ = some (.int .u16 q') ∧ W.cell? ⟨w.heap.size, 0, none⟩ = some (.string s1) ∧ W.cell? ⟨w.heap.size, 1, none⟩ = some (.int .u32 p1) ∧ W.cell? ⟨w.heap.size, 2, none⟩ = some (.int .u16 q1) ∧ W.cell? ⟨w.heap.size, 3, none⟩ = some (.string s2) ∧ W.cell? ⟨w.heap.size, 4, none⟩ = some (.int .u32 p2) ∧ W.cell? ⟨w.heap.size, 5, none⟩ = some (.int .u16 q2) ∧ W.cell? ⟨w.heap.size, 6, none⟩ = some (.bool false) ∧ Below WX.heap.size WX W)) (by kernel_rfl) (by exact hS.out _ (Below.drew (Below.refl _ _))) (fun hHeld => ?_)
     try dsimp only at hHeld
     refine zt 0 ?_ rfl (by kernel_rfl) (fun _ _ _ h => h) ⟨rfl, ?_⟩ hHeld ?_
     rotate_left
     focus (intro wx hSw; (try dsimp only at hSw); (try go_split_ands); go_simp; (try with_reducible rfl))
     try simp only [Act.put, za1, za2, za3, za4, za5, za6]
     refine zt 1 ?_ rfl (by kernel_rfl) (fun _ _ _ h => h) ⟨rfl, ?_⟩ hHeld ?_
     rotate_left
     focus (intro wx hSw; (try dsimp only at hSw); (try go_split_ands); go_simp; (try with_reducible rfl))
     try simp only [Act.put, za1, za2, za3, za4, za5, za6]
     refine zt 2 ?_ rfl (by kernel_rfl) (fun _ _ _ h => h) ⟨rfl, ?_⟩ hHeld ?_
     rotate_left
     focus (intro wx hSw; (try dsimp only at hSw); (try go_split_ands); go_simp; (try with_reducible rfl))
     try simp only [Act.put, za1, za2, za3, za4, za5, za6]
     refine zt 3 ?_ rfl (by kernel_rfl) (fun _ _ _ h => h) ⟨rfl, ?_⟩ hHeld ?_
     rotate_left
     focus (intro wx hSw; (try dsimp only at hSw); (try go_split_ands); go_simp; (try with_reducible rfl))
     try simp only [Act.put, za1, za2, za3, za4, za5, za6]
     refine zt 4 ?_ rfl (by kernel_rfl) (fun _ _ _ h => h) ⟨rfl, ?_⟩ hHeld ?_
     rotate_left
     focus (intro wx hSw; (try dsimp only at hSw); (try go_split_ands); go_simp; (try with_reducible rfl))
     try simp only [Act.put, za1, za2, za3, za4, za5, za6]
     refine wpAnyH_ready (rs := [5]) (by kernel_rfl) (by simp) (AllReadyH.cons rfl (fun K hK => ?_) AllReadyH.nil)
     go_simp
     (first | ((with_reducible refine (C1.out _).mono ?_); rintro e w1 ⟨rfl, hb1⟩) | ((with_reducible refine (C2.out _).mono ?_); rintro e w2 ⟨rfl, hb2⟩))
     go_wp2_with fail
     refine hK.out _ _ ?_ (fun hHeld => ?_)
     · ((try dsimp only); (try dsimp only at hHeld); (first | exact hS.out _ (by (with_reducible repeat (first | exact Below.refl _ _ | exact hb2 | exact hb1 | refine bto0 ?_ hb2 | refine bto0 ?_ hb1 | refine bdr ?_ _ | refine Below.drew ?_ | refine ball ?_ _))) | assumption))
     clear hK K
     try dsimp only at hHeld
     try simp only [Act.put, za1, za2, za3, za4, za5, za6]
     refine zt 6 ?_ rfl (by kernel_rfl) (fun _ _ _ h => h) ⟨rfl, ?_⟩ hHeld ?_
     rotate_left
     focus (intro wx hSw; (try dsimp only at hSw); (try go_split_ands); go_simp; (try with_reducible rfl))
     try simp only [Act.put, za1, za2, za3, za4, za5, za6]
     refine zt 7 ?_ rfl (by kernel_rfl) (fun _ _ _ h => h) ⟨rfl, ?_⟩ hHeld ?_
     rotate_left
     focus (intro wx hSw; (try dsimp only at hSw); (try go_split_ands); go_simp; (try with_reducible rfl))
     try simp only [Act.put, za1, za2, za3, za4, za5, za6]
     refine zt 8 ?_ rfl (by kernel_rfl) (fun _ _ _ h => h) ⟨rfl, ?_⟩ hHeld ?_
     rotate_left
     focus (intro wx hSw; (try dsimp only at hSw); (try go_split_ands); go_simp; (try with_reducible rfl))
     try simp only [Act.put, za1, za2, za3, za4, za5, za6]
     refine zt 9 ?_ rfl (by kernel_rfl) (fun _ _ _ h => h) ⟨rfl, ?_⟩ hHeld ?_
     rotate_left
     focus (intro wx hSw; (try dsimp only at hSw); (try go_split_ands); go_simp; (try with_reducible rfl))
     try simp only [Act.put, za1, za2, za3, za4, za5, za6]
     refine zt 10 ?_ rfl (by kernel_rfl) (fun _ _ _ h => h) ⟨rfl, ?_⟩ hHeld ?_
     rotate_left
     focus (intro wx hSw; (try dsimp only at hSw); (try go_split_ands); go_simp; (try with_reducible rfl))
     try simp only [Act.put, za1, za2, za3, za4, za5, za6]
     refine zt 11 ?_ rfl (by kernel_rfl) (fun _ _ _ h => h) ⟨rfl, ?_⟩ hHeld ?_
     rotate_left
     focus (intro wx hSw; (try dsimp only at hSw); (try go_split_ands); go_simp; (try with_reducible rfl))
     try simp only [Act.put, za1, za2, za3, za4, za5, za6]
     refine wpAnyH_take (i := 12) (v := undef) rfl (by kernel_rfl) (by kernel_rfl) (by kernel_rfl) (fun _ _ _ h => h) (Or.inr ⟨rfl, rfl⟩) hHeld ?_
     try simp only [Act.put, za1, za2, za3, za4, za5, za6]
     refine wpAnyH_take (i := 13) (v := undef) rfl (by kernel_rfl) (by kernel_rfl) (by kernel_rfl) (fun _ _ _ h => h) (Or.inr ⟨rfl, rfl⟩) hHeld ?_
     try simp only [Act.put, za1, za2, za3, za4, za5, za6]
     refine wpAnyH_take (i := 14) (v := undef) rfl (by kernel_rfl) (by kernel_rfl) (by kernel_rfl) (fun _ _ _ h => h) (Or.inr ⟨rfl, rfl⟩) hHeld ?_
     try simp only [Act.put, za1, za2, za3, za4, za5, za6]
     refine wpAnyH_take (i := 15) (v := undef) rfl (by kernel_rfl) (by kernel_rfl) (by kernel_rfl) (fun _ _ _ h => h) (Or.inr ⟨rfl, rfl⟩) hHeld ?_
     try simp only [Act.put, za1, za2, za3, za4, za5, za6]
     refine wpAnyH_take (i := 16) (v := undef) rfl (by kernel_rfl) (by kernel_rfl) (by kernel_rfl) (fun _ _ _ h => h) (Or.inr ⟨rfl, rfl⟩) hHeld ?_
     try simp only [Act.put, za1, za2, za3, za4, za5, za6]
     refine wpAnyH_take (i := 17) (v := undef) rfl (by kernel_rfl) (by kernel_rfl) (by kernel_rfl) (fun _ _ _ h => h) (Or.inr ⟨rfl, rfl⟩) hHeld ?_
     try simp only [Act.put, za1, za2, za3, za4, za5, za6]
     refine wpAnyH_take (i := 18) (v := undef) rfl (by kernel_rfl) (by kernel_rfl) (by kernel_rfl) (fun _ _ _ h => h) (Or.inr ⟨rfl, rfl⟩) hHeld ?_
     try simp only [Act.put, za1, za2, za3, za4, za5, za6]
     refine wpAnyH_take (i := 19) (v := undef) rfl (by kernel_rfl) (by kernel_rfl) (by kernel_rfl) (fun _ _ _ h => h) (Or.inr ⟨rfl, rfl⟩) hHeld ?_
     try simp only [Act.put, za1, za2, za3, za4, za5, za6]
     refine wpAnyH_take (i := 20) (v := undef) rfl (by kernel_rfl) (by kernel_rfl) (by kernel_rfl) (fun _ _ _ h => h) (Or.inr ⟨rfl, rfl⟩) hHeld ?_
     try simp only [Act.put, za1, za2, za3, za4, za5, za6]
     refine wpAnyH_take (i := 21) (v := undef) rfl (by kernel_rfl) (by kernel_rfl) (by kernel_rfl) (fun _ _ _ h => h) (Or.inr ⟨rfl, rfl⟩) hHeld ?_
     try simp only [Act.put, za1, za2, za3, za4, za5, za6]
     refine zt 22 ?_ rfl (by kernel_rfl) (fun _ _ _ h => h) ⟨rfl, ?_⟩ hHeld ?_
     rotate_left
     focus (intro wx hSw; (try dsimp only at hSw); (try go_split_ands); go_simp; (try with_reducible rfl))
     try simp only [Act.put, za1, za2, za3, za4, za5, za6]
     refine zt 23 ?_ rfl (by kernel_rfl) (fun _ _ _ h => h) ⟨rfl, ?_⟩ hHeld ?_
     rotate_left
     focus (intro wx hSw; (try dsimp only at hSw); (try go_split_ands); go_simp; (try with_reducible rfl))
     try simp only [Act.put, za1, za2, za3, za4, za5, za6]
     refine zt 24 ?_ rfl (by kernel_rfl) (fun _ _ _ h => h) ⟨rfl, ?_⟩ hHeld ?_
     rotate_left
     focus (intro wx hSw; (try dsimp only at hSw); (try go_split_ands); go_simp; (try with_reducible rfl))
     try simp only [Act.put, za1, za2, za3, za4, za5, za6]
     refine wpAnyH_done (by kernel_rfl) ?_ _
     go_wp2
     go_ret
     exact ⟨ret_bool (by simp [d1]), bto0 hb0 (by (with_reducible repeat (first | exact Below.refl _ _ | exact hb2 | exact hb1 | refine bto0 ?_ hb2 | refine bto0 ?_ hb1 | refine bdr ?_ _ | refine Below.drew ?_ | refine ball ?_ _)))⟩
   ·
    refine wp_region_held_drew (S := (fun W => W.cell? ad = some (.string s) ∧ W.cell? ⟨ad.block, ad.off + 1, none⟩ = some (.int .u32 p) ∧ W.cell? ⟨ad.block, ad.off + 2, none⟩ = some (.int .u16 q) ∧ W.cell? (ad.add (m * 3)) = some (.string s') ∧ W.cell? ⟨(ad.add (m * 3)).block, (ad.add (m * 3)).off + 1, none⟩ = some (.int .u32 p') ∧ W.cell? ⟨(ad.add (m * 3)).block, (ad.add (m * 3)).off + 2, none⟩ = some (.int .u16 q') ∧ W.cell? ⟨w.heap.size, 0, none⟩ = some (.string s1) ∧ W.cell? ⟨w.heap.size, 1, none⟩ = some (.int .u32 p1) ∧ W.cell? ⟨w.heap.size, 2, none⟩ = some (.int .u16 q1) ∧ W.cell? ⟨w.heap.size, 3, none⟩ = some (.string s2) ∧ W.cell? ⟨w.heap.size, 4, none⟩ = some (.int .u32 p2) ∧ W.cell? ⟨w.heap.size, 5, none⟩ = some (.int .u16 q2) ∧ W.cell? ⟨w.heap.size, 6, none⟩ = some (.bool true) ∧ Below WX.heap.size WX W)) (by kernel_rfl) (by exact hS.out _ (Below.drew (Below.refl _ _))) (fun hHeld => ?_)
    try dsimp only at hHeld
    refine zt 0 ?_ rfl (by kernel_rfl) (fun _ _ _ h => h) ⟨rfl, ?_⟩ hHeld ?_
    rotate_left
    focus (intro wx hSw; (try dsimp only at hSw); (try go_split_ands); go_simp; (try with_reducible rfl))
    try simp only [Act.put, za1, za2, za3, za4, za5, za6]
    refine zt 1 ?_ rfl (by kernel_rfl) (fun _ _ _ h => h) ⟨rfl, ?_⟩ hHeld ?_
    rotate_left
    focus (intro wx hSw; (try dsimp only at hSw); (try go_split_ands); go_simp; (try with_reducible rfl))
    try simp only [Act.put, za1, za2, za3, za4, za5, za6]
    refine zt 2 ?_ rfl (by kernel_rfl) (fun _ _ _ h => h) ⟨rfl, ?_⟩ hHeld ?_
    rotate_left
    focus (intro wx hSw; (try dsimp only at hSw); (try go_split_ands); go_simp; (try with_reducible rfl))
    try simp only [Act.put, za1, za2, za3, za4, za5, za6]
    refine zt 3 ?_ rfl (by kernel_rfl) (fun _ _ _ h => h) ⟨rfl, ?_⟩ hHeld ?_
    rotate_left
    focus (intro wx hSw; (try dsimp only at hSw); (try go_split_ands); go_simp; (try with_reducible rfl))
    try simp only [Act.put, za1, za2, za3, za4, za5, za6]
    refine zt 4 ?_ rfl (by kernel_rfl) (fun _ _ _ h => h) ⟨rfl, ?_⟩ hHeld ?_
    rotate_left
    focus (intro wx hSw; (try dsimp only at hSw); (try go_split_ands); go_simp; (try with_reducible rfl))
    try simp only [Act.put, za1, za2, za3, za4, za5, za6]
    refine wpAnyH_ready (rs := [5]) (by kernel_rfl) (by simp) (AllReadyH.cons rfl (fun K hK => ?_) AllReadyH.nil)
    go_simp
    (first | ((with_reducible refine (C1.out _).mono ?_); rintro e w1 ⟨rfl, hb1⟩) | ((with_reducible refine (C2.out _).mono ?_); rintro e w2 ⟨rfl, hb2⟩))
    go_wp2_with fail
    refine hK.out _ _ ?_ (fun hHeld => ?_)
    · ((try dsimp only); (try dsimp only at hHeld); (first | exact hS.out _ (by (with_reducible repeat (first | exact Below.refl _ _ | exact hb2 | exact hb1 | refine bto0 ?_ hb2 | refine bto0 ?_ hb1 | refine bdr ?_ _ | refine Below.drew ?_ | refine ball ?_ _))) | assumption))
    clear hK K
    try dsimp only at hHeld
    try simp only [Act.put, za1, za2, za3, za4, za5, za6]
    refine zt 6 ?_ rfl (by kernel_rfl) (fun _ _ _ h => h) ⟨rfl, ?_⟩ hHeld ?_
    rotate_left
    focus (intro wx hSw; (try dsimp only at hSw); (try go_split_ands); go_simp; (try with_reducible rfl))
    try simp only [Act.put, za1, za2, za3, za4, za5, za6]
    refine zt 7 ?_ rfl (by kernel_rfl) (fun _ _ _ h => h) ⟨rfl, ?_⟩ hHeld ?_
    rotate_left
    focus (intro wx hSw; (try dsimp only at hSw); (try go_split_ands); go_simp; (try with_reducible rfl))
    try simp only [Act.put, za1, za2, za3, za4, za5, za6]
    refine zt 8 ?_ rfl (by kernel_rfl) (fun _ _ _ h => h) ⟨rfl, ?_⟩ hHeld ?_
    rotate_left
    focus (intro wx hSw; (try dsimp only at hSw); (try go_split_ands); go_simp; (try with_reducible rfl))
    try simp only [Act.put, za1, za2, za3, za4, za5, za6]
    refine zt 9 ?_ rfl (by kernel_rfl) (fun _ _ _ h => h) ⟨rfl, ?_⟩ hHeld ?_
    rotate_left
    focus (intro wx hSw; (try dsimp only at hSw); (try go_split_ands); go_simp; (try with_reducible rfl))
    try simp only [Act.put, za1, za2, za3, za4, za5, za6]
    refine zt 10 ?_ rfl (by kernel_rfl) (fun _ _ _ h => h) ⟨rfl, ?_⟩ hHeld ?_
    rotate_left
    focus (intro wx hSw; (try dsimp only at hSw); (try go_split_ands); go_simp; (try with_reducible rfl))
    try simp only [Act.put, za1, za2, za3, za4, za5, za6]
    refine zt 11 ?_ rfl (by kernel_rfl) (fun _ _ _ h => h) ⟨rfl, ?_⟩ hHeld ?_
    rotate_left
    focus (intro wx hSw; (try dsimp only at hSw); (try go_split_ands); go_simp; (try with_reducible rfl))
    try simp only [Act.put, za1, za2, za3, za4, za5, za6]
    refine zt 12 ?_ rfl (by kernel_rfl) (fun _ _ _ h => h) ⟨rfl, ?_⟩ hHeld ?_
    rotate_left
    focus (intro wx hSw; (try dsimp only at hSw); (try go_split_ands); go_simp; (try with_reducible rfl))
    try simp only [Act.put, za1, za2, za3, za4, za5, za6]
    refine zt 13 ?_ rfl (by kernel_rfl) (fun _ _ _ h => h) ⟨rfl, ?_⟩ hHeld ?_
    rotate_left
    focus (intro wx hSw; (try dsimp only at hSw); (try go_split_ands); go_simp; (try with_reducible rfl))
    try simp only [Act.put, za1, za2, za3, za4, za5, za6]
    refine zt 14 ?_ rfl (by kernel_rfl) (fun _ _ _ h => h) ⟨rfl, ?_⟩ hHeld ?_
    rotate_left
    focus (intro wx hSw; (try dsimp only at hSw); (try go_split_ands); go_simp; (try with_reducible rfl))
    try simp only [Act.put, za1, za2, za3, za4, za5, za6]
    refine zt 15 ?_ rfl (by kernel_rfl) (fun _ _ _ h => h) ⟨rfl, ?_⟩ hHeld ?_
    rotate_left
    focus (intro wx hSw; (try dsimp only at hSw); (try go_split_ands); go_simp; (try with_reducible rfl))
    try simp only [Act.put, za1, za2, za3, za4, za5, za6]
    refine zt 16 ?_ rfl (by kernel_rfl) (fun _ _ _ h => h) ⟨rfl, ?_⟩ hHeld ?_
    rotate_left
    focus (intro wx hSw; (try dsimp only at hSw); (try go_split_ands); go_simp; (try with_reducible rfl))
    try simp only [Act.put, za1, za2, za3, za4, za5, za6]
    refine zt 17 ?_ rfl (by kernel_rfl) (fun _ _ _ h => h) ⟨rfl, ?_⟩ hHeld ?_
    rotate_left
    focus (intro wx hSw; (try dsimp only at hSw); (try go_split_ands); go_simp; (try with_reducible rfl))
    try simp only [Act.put, za1, za2, za3, za4, za5, za6]
    refine zt 18 ?_ rfl (by kernel_rfl) (fun _ _ _ h => h) ⟨rfl, ?_⟩ hHeld ?_
    rotate_left
    focus (intro wx hSw; (try dsimp only at hSw); (try go_split_ands); go_simp; (try with_reducible rfl))
    try simp only [Act.put, za1, za2, za3, za4, za5, za6]
    refine zt 19 ?_ rfl (by kernel_rfl) (fun _ _ _ h => h) ⟨rfl, ?_⟩ hHeld ?_
    rotate_left
    focus (intro wx hSw; (try dsimp only at hSw); (try go_split_ands); go_simp; (try with_reducible rfl))
    try simp only [Act.put, za1, za2, za3, za4, za5, za6]
    refine wpAnyH_ready (rs := [20]) (by kernel_rfl) (by simp) (AllReadyH.cons rfl (fun K hK => ?_) AllReadyH.nil)
    go_simp
    (first | ((with_reducible refine (C1.out _).mono ?_); rintro e w1 ⟨rfl, hb1⟩) | ((with_reducible refine (C2.out _).mono ?_); rintro e w2 ⟨rfl, hb2⟩))
    go_wp2_with fail
    refine hK.out _ _ ?_ (fun hHeld => ?_)
    · ((try dsimp only); (try dsimp only at hHeld); (first | exact hS.out _ (by (with_reducible repeat (first | exact Below.refl _ _ | exact hb2 | exact hb1 | refine bto0 ?_ hb2 | refine bto0 ?_ hb1 | refine bdr ?_ _ | refine Below.drew ?_ | refine ball ?_ _))) | assumption))
    clear hK K
    try dsimp only at hHeld
    try simp only [Act.put, za1, za2, za3, za4, za5, za6]
    refine zt 21 ?_ rfl (by kernel_rfl) (fun _ _ _ h => h) ⟨rfl, ?_⟩ hHeld ?_
    rotate_left
    focus (intro wx hSw; (try dsimp only at hSw); (try go_split_ands); go_simp; (try with_reducible rfl))
    try simp only [Act.put, za1, za2, za3, za4, za5, za6]
    refine zt 22 ?_ rfl (by kernel_rfl) (fun _ _ _ h => h) ⟨rfl, ?_⟩ hHeld ?_
    rotate_left
    focus (intro wx hSw; (try dsimp only at hSw); (try go_split_ands); go_simp; (try with_reducible rfl))
    try simp only [Act.put, za1, za2, za3, za4, za5, za6]
    refine zt 23 ?_ rfl (by kernel_rfl) (fun _ _ _ h => h) ⟨rfl, ?_⟩ hHeld ?_
    rotate_left
    focus (intro wx hSw; (try dsimp only at hSw); (try go_split_ands); go_simp; (try with_reducible rfl))
    try simp only [Act.put, za1, za2, za3, za4, za5, za6]
    refine zt 24 ?_ rfl (by kernel_rfl) (fun _ _ _ h => h) ⟨rfl, ?_⟩ hHeld ?_
    rotate_left
    focus (intro wx hSw; (try dsimp only at hSw); (try go_split_ands); go_simp; (try with_reducible rfl))
    try simp only [Act.put, za1, za2, za3, za4, za5, za6]
    refine wpAnyH_done (by kernel_rfl) ?_ _
    go_wp2
    go_ret
    exact ⟨ret_bool (by simp [d1]), bto0 hb0 (by (with_reducible repeat (first | exact Below.refl _ _ | exact hb2 | exact hb1 | refine bto0 ?_ hb2 | refine bto0 ?_ hb1 | refine bdr ?_ _ | refine Below.drew ?_ | refine ball ?_ _)))⟩
end
end Go.Proofs.YtebobcbaloddaaaGreat
