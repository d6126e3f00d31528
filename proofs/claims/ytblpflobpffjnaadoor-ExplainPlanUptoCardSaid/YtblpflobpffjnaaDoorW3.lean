
/-
  The reference's step.
-/
import Derived.Test.YtblpflobpffjnaaDoorW2
import Derived.Deep.DeepCutAuto
set_option linter.unusedSimpArgs false
set_option linter.unusedVariables false
namespace Go.Proofs.YtblpflobpffjnaaDoor
open Go.RowKit

section
variable {w : World} {Bd : Nat} {A : Option Addr} {n : Nat} {tbs : List Tb} {B : Option Addr} {m : Nat} {ixs : List Ix} {K : Option Addr} {kn : Nat} {ks : List Int}
set_option maxRecDepth 100000 in
set_option maxHeartbeats 8000000 in
theorem rstep30_any (E : EnvB w Bd A n tbs B m ixs K kn ks) (hBd : Bd ≤ w.heap.size) (c d kc : Nat) (v0 v2 v3 v4 v5 v6 v7 v8 v9 v10 : Value) (x : Sp) (hx : x.ok) :
    Calls Tryd.prog 23 #[.agg #[.slice A n c, .slice B m d], .agg #[v0, .slice K kn kc, v2, v3, v4, v5, v6, v7, v8, v9, v10], x.agg] w (RetB w (.string (str (stepT tbs ks ixs x)))) := by
  rw [stepT_eq]
  have hPL := joinP_len (ixs := ixs) E.xn hx
  have hPT := fun (W : World) (e : EnvB W Bd A n tbs B m ixs K kn ks) (h : Bd ≤ W.heap.size) => rpath_any e h c d x hx
  have hTl := tabL_len E.tn ks x.tb
  have hMl := mthL_len x.m
  have hIl := itoa_len hx.tb
  have hJl := itoa_len hx.jn
  have hXl := idxL_len E.xn x.ix
  have hix := hx.ix
  have hjn := hx.jn
  have htb := hx.tb
  have hmb := hx.m
  clear hx
  generalize Lib.join (pthL ixs x) [32] = P at *
  obtain ⟨xtb, xm, xpk, xpi, rA, rn, rc, cA, cn, cc, xpo, aA, an, ac, mA, mn, mc, xix, xjn⟩ := x
  unfold Sp.path at hPT
  unfold Sp.agg
  simp only at *
  obtain ⟨WA, hWA⟩ : ∃ WA, ((w.alloc (.cells #[.slice A n c, .slice B m d] 25)).alloc (.cells #[v0, .slice K kn kc, v2, v3, v4, v5, v6, v7, v8, v9, v10] 32)).alloc (.cells #[.int .i64 xtb, .int .u8 xm, .int .u8 xpk, .int .i64 xpi, .slice rA rn rc, .slice cA cn cc, .int .i64 xpo, .slice aA an ac, .slice mA mn mc, .int .i64 xix, .int .i64 xjn] 71) = WA := ⟨_, rfl⟩
  have hbA : Below w.heap.size w WA := hWA ▸ ball (ball (ball (Below.refl w.heap.size w) _) _) _
  have B0 : Blk WA w.heap.size 25 #[.slice A n c, .slice B m d] := hWA ▸ ((Blk.new w _ _).alloc _).alloc _
  have B1 : Blk WA (w.heap.size + 1) 32 #[v0, .slice K kn kc, v2, v3, v4, v5, v6, v7, v8, v9, v10] := by
    have h := Blk.new (w.alloc (.cells #[.slice A n c, .slice B m d] 25)) 32 #[v0, .slice K kn kc, v2, v3, v4, v5, v6, v7, v8, v9, v10]
    rw [alloc_size] at h
    exact hWA ▸ h.alloc _
  have B2 : Blk WA (w.heap.size + 1 + 1) 71 #[.int .i64 xtb, .int .u8 xm, .int .u8 xpk, .int .i64 xpi, .slice rA rn rc, .slice cA cn cc, .int .i64 xpo, .slice aA an ac, .slice mA mn mc, .int .i64 xix, .int .i64 xjn] := by
    have h := Blk.new ((w.alloc (.cells #[.slice A n c, .slice B m d] 25)).alloc (.cells #[v0, .slice K kn kc, v2, v3, v4, v5, v6, v7, v8, v9, v10] 32)) 71 #[.int .i64 xtb, .int .u8 xm, .int .u8 xpk, .int .i64 xpi, .slice rA rn rc, .slice cA cn cc, .int .i64 xpo, .slice aA an ac, .slice mA mn mc, .int .i64 xix, .int .i64 xjn]
    rw [alloc_size, alloc_size] at h
    exact hWA ▸ h
  have hzA : w.heap.size + 1 + 1 < WA.heap.size := B2.lt
  have nu : w.heap.size < WA.heap.size := by omega
  have nu1 : w.heap.size + 1 < WA.heap.size := by omega
  have HT1 := Lib.hid fun (W : World) => rnumber_any xtb htb W
  have HT2 := Lib.hid fun (W : World) => rnumber_any xjn hjn W
  have HIX := Lib.hid fun (W : World) (hb : Below WA.heap.size WA W) => rindex_any (E.below ((bto0 hbA hb).mono hBd)) (Nat.le_trans hBd (bto0 hbA hb).size) c d xix hix
  have HPT := Lib.hid fun (W : World) (hb : Below WA.heap.size WA W) => hPT W (E.below ((bto0 hbA hb).mono hBd)) (Nat.le_trans hBd (bto0 hbA hb).size)
  have hS := Lib.hid fun (W : World) (hb : Below WA.heap.size WA W) => (show W.cell? ⟨w.heap.size, 0, none⟩ = some (.slice A n c) ∧ W.cell? ⟨w.heap.size, 1, none⟩ = some (.slice B m d) ∧ W.cell? ⟨w.heap.size + 1, 0, none⟩ = some (v0) ∧ W.cell? ⟨w.heap.size + 1, 1, none⟩ = some (.slice K kn kc) ∧ W.cell? ⟨w.heap.size + 1, 2, none⟩ = some (v2) ∧ W.cell? ⟨w.heap.size + 1, 3, none⟩ = some (v3) ∧ W.cell? ⟨w.heap.size + 1, 4, none⟩ = some (v4) ∧ W.cell? ⟨w.heap.size + 1, 5, none⟩ = some (v5) ∧ W.cell? ⟨w.heap.size + 1, 6, none⟩ = some (v6) ∧ W.cell? ⟨w.heap.size + 1, 7, none⟩ = some (v7) ∧ W.cell? ⟨w.heap.size + 1, 8, none⟩ = some (v8) ∧ W.cell? ⟨w.heap.size + 1, 9, none⟩ = some (v9) ∧ W.cell? ⟨w.heap.size + 1, 10, none⟩ = some (v10) ∧ W.cell? ⟨w.heap.size + 1 + 1, 0, none⟩ = some (.int .i64 xtb) ∧ W.cell? ⟨w.heap.size + 1 + 1, 1, none⟩ = some (.int .u8 xm) ∧ W.cell? ⟨w.heap.size + 1 + 1, 2, none⟩ = some (.int .u8 xpk) ∧ W.cell? ⟨w.heap.size + 1 + 1, 3, none⟩ = some (.int .i64 xpi) ∧ W.cell? ⟨w.heap.size + 1 + 1, 4, none⟩ = some (.slice rA rn rc) ∧ W.cell? ⟨w.heap.size + 1 + 1, 5, none⟩ = some (.slice cA cn cc) ∧ W.cell? ⟨w.heap.size + 1 + 1, 6, none⟩ = some (.int .i64 xpo) ∧ W.cell? ⟨w.heap.size + 1 + 1, 7, none⟩ = some (.slice aA an ac) ∧ W.cell? ⟨w.heap.size + 1 + 1, 8, none⟩ = some (.slice mA mn mc) ∧ W.cell? ⟨w.heap.size + 1 + 1, 9, none⟩ = some (.int .i64 xix) ∧ W.cell? ⟨w.heap.size + 1 + 1, 10, none⟩ = some (.int .i64 xjn) ∧ Below WA.heap.size WA W from
    ⟨(hb.cell (by simp <;> omega)).trans (B0.cell 0), (hb.cell (by simp <;> omega)).trans (B0.cell 1), (hb.cell (by simp <;> omega)).trans (B1.cell 0), (hb.cell (by simp <;> omega)).trans (B1.cell 1), (hb.cell (by simp <;> omega)).trans (B1.cell 2), (hb.cell (by simp <;> omega)).trans (B1.cell 3), (hb.cell (by simp <;> omega)).trans (B1.cell 4), (hb.cell (by simp <;> omega)).trans (B1.cell 5), (hb.cell (by simp <;> omega)).trans (B1.cell 6), (hb.cell (by simp <;> omega)).trans (B1.cell 7), (hb.cell (by simp <;> omega)).trans (B1.cell 8), (hb.cell (by simp <;> omega)).trans (B1.cell 9), (hb.cell (by simp <;> omega)).trans (B1.cell 10), (hb.cell (by simp <;> omega)).trans (B2.cell 0), (hb.cell (by simp <;> omega)).trans (B2.cell 1), (hb.cell (by simp <;> omega)).trans (B2.cell 2), (hb.cell (by simp <;> omega)).trans (B2.cell 3), (hb.cell (by simp <;> omega)).trans (B2.cell 4), (hb.cell (by simp <;> omega)).trans (B2.cell 5), (hb.cell (by simp <;> omega)).trans (B2.cell 6), (hb.cell (by simp <;> omega)).trans (B2.cell 7), (hb.cell (by simp <;> omega)).trans (B2.cell 8), (hb.cell (by simp <;> omega)).trans (B2.cell 9), (hb.cell (by simp <;> omega)).trans (B2.cell 10), hb⟩)
  have HBA := Lib.hid hbA
  have HX := Lib.hid (E.below (hbA.mono hBd))
  have hlen : tbs.length = n := by have := E.t.1; rw [vTb_len] at this; omega
  have hkl : ks.length = kn := by have := E.k.1; rw [vI64_len] at this; omega
  obtain ⟨ok1, hok1⟩ : ∃ ok1, decide (0 ≤ xtb ∧ xtb < (kn : Int)) = ok1 := ⟨_, rfl⟩
  have htab : (ok1 = false ∧ tabL tbs ks xtb = [63] ∧ (xtb < 0 ∨ (kn : Int) ≤ xtb)) ∨ (ok1 = true ∧ ∃ (k : Nat) (ad : Addr) (z : Int), xtb = k ∧ k < kn ∧ K = some ad ∧ ad.block < Bd ∧ WA.cell? (ad.add k) = some (.int .i64 z) ∧ I64 z ∧ ((tabL tbs ks xtb = [63] ∧ (z < 0 ∨ (n : Int) ≤ z)) ∨ ∃ (j : Nat) (ad2 : Addr), z = j ∧ j < n ∧ A = some ad2 ∧ ad2.block < Bd ∧ WA.cell? (ad2.add (j * 5)) = some (.string (str (tabL tbs ks xtb))))) := by
    have HX := E.below (hbA.mono hBd)
    rcases Int.lt_or_le xtb 0 with h | h
    · exact .inl ⟨by rw [← hok1]; exact decide_eq_false (by omega), by unfold tabL; rw [if_pos h], .inl h⟩
    · obtain ⟨k, rfl⟩ : ∃ k : Nat, xtb = k := ⟨xtb.toNat, by omega⟩
      have e : tabL tbs ks (k : Int) = match ks[k]? with
        | none => [63]
        | some z => if z < 0 then [63] else match tbs[z.toNat]? with
          | some t => t.nm.data.toList
          | none => [63] := by unfold tabL; rw [if_neg (by omega)]; rfl
      rw [e]
      by_cases hk : k < kn
      · obtain ⟨ad, u, hK, hab, hu, c0⟩ := HX.k.at_ hk
        obtain ⟨z, hz, rfl⟩ := vI64_at hu
        rw [hz]
        refine .inr ⟨by rw [← hok1]; exact decide_eq_true ⟨by omega, by omega⟩, k, ad, z, rfl, hk, hK, hab, c0, E.kb z (List.mem_of_getElem? hz), ?_⟩
        rcases Int.lt_or_le z 0 with hz0 | hz0
        · exact .inl ⟨by simp only [if_pos hz0], .inl hz0⟩
        · obtain ⟨j, rfl⟩ : ∃ j : Nat, z = j := ⟨z.toNat, by omega⟩
          by_cases hj : j < n
          · obtain ⟨ad2, t, hA, hab2, ht0, d0, -⟩ := HX.t.tb_ hj
            refine .inr ⟨j, ad2, rfl, hj, hA, hab2, ?_⟩
            simp only [if_neg (show ¬ (j : Int) < 0 by omega), Int.toNat_natCast, ht0]
            rw [d0, str_of]
          · have ht0 : tbs[j]? = none := List.getElem?_eq_none (by omega)
            exact .inl ⟨by simp only [if_neg (show ¬ (j : Int) < 0 by omega), Int.toNat_natCast, ht0], .inr (by omega)⟩
      · have hxn : ks[k]? = none := List.getElem?_eq_none (by omega)
        rw [hxn]
        exact .inl ⟨by rw [← hok1]; exact decide_eq_false (by omega), rfl, .inr (by omega)⟩
  have nI : (n : Int) ≤ 9223372036854775807 := by have := E.n0; unfold maxLen at this; omega
  have kI : (kn : Int) ≤ 9223372036854775807 := by have := E.k0; unfold maxLen at this; omega
  generalize tabL tbs ks xtb = T at *
  have HTAB := Lib.hid htab
  generalize Lib.itoa xtb = I at *
  generalize Lib.itoa xjn = J at *
  generalize idxL ixs xix = X at *
  have f8 : Bd ≤ WA.heap.size := Nat.le_trans hBd hbA.size
  clear E B0 B1 B2 hbA hPT hix hjn htab hok1 hlen hkl
  by_cases h0 : xm = 0
  · subst h0
    have ht : ∀ Q X P J, tailT 0 Q X P J = Q ++ P ++ [10] := fun _ _ _ _ => rfl
    rw [ht]
    clear ht
    have hM : mthL 0 = [102, 105, 114, 115, 116] := rfl
    rw [hM]
    clear hM
    obtain ⟨Y1, e1, y1⟩ := cat_ex [102, 105, 114, 115, 116] [32]
    have e1' : (⟨#[102, 105, 114, 115, 116]⟩ : ByteArray) ++ (⟨#[32]⟩ : ByteArray) = str Y1 := e1
    have l1 := congrArg List.length y1
    simp only [List.length_append, List.length_cons, List.length_nil] at l1
    have o1 : ¬ 9223372036854775807 < 5 + 1 := by (try simp only [str_size]); omega
    obtain ⟨Y2, e2, y2⟩ := cat_ex Y1 T
    have e2' : str Y1 ++ str T = str Y2 := e2
    have l2 := congrArg List.length y2
    simp only [List.length_append, List.length_cons, List.length_nil] at l2
    have o2 : ¬ 9223372036854775807 < (str Y1).size + (str T).size := by (try simp only [str_size]); omega
    obtain ⟨Y3, e3, y3⟩ := cat_ex Y2 [35]
    have e3' : str Y2 ++ (⟨#[35]⟩ : ByteArray) = str Y3 := e3
    have l3 := congrArg List.length y3
    simp only [List.length_append, List.length_cons, List.length_nil] at l3
    have o3 : ¬ 9223372036854775807 < (str Y2).size + 1 := by (try simp only [str_size]); omega
    obtain ⟨Y4, e4, y4⟩ := cat_ex Y3 I
    have e4' : str Y3 ++ str I = str Y4 := e4
    have l4 := congrArg List.length y4
    simp only [List.length_append, List.length_cons, List.length_nil] at l4
    have o4 : ¬ 9223372036854775807 < (str Y3).size + (str I).size := by (try simp only [str_size]); omega
    obtain ⟨Y5, e5, y5⟩ := cat_ex Y4 [32]
    have e5' : str Y4 ++ (⟨#[32]⟩ : ByteArray) = str Y5 := e5
    have l5 := congrArg List.length y5
    simp only [List.length_append, List.length_cons, List.length_nil] at l5
    have o5 : ¬ 9223372036854775807 < (str Y4).size + 1 := by (try simp only [str_size]); omega
    obtain ⟨Y6, e6, y6⟩ := cat_ex Y5 P
    have e6' : str Y5 ++ str P = str Y6 := e6
    have l6 := congrArg List.length y6
    simp only [List.length_append, List.length_cons, List.length_nil] at l6
    have o6 : ¬ 9223372036854775807 < (str Y5).size + (str P).size := by (try simp only [str_size]); omega
    obtain ⟨Y7, e7, y7⟩ := cat_ex Y6 [10]
    have e7' : str Y6 ++ (⟨#[10]⟩ : ByteArray) = str Y7 := e7
    have l7 := congrArg List.length y7
    simp only [List.length_append, List.length_cons, List.length_nil] at l7
    have o7 : ¬ 9223372036854775807 < (str Y6).size + 1 := by (try simp only [str_size]); omega
    have HY := Lib.hid (And.intro y1 (And.intro y2 (And.intro y3 (And.intro y4 (And.intro y5 (And.intro y6 y7))))))
    clear y1 l1 e1 y2 l2 e2 y3 l3 e3 y4 l4 e4 y5 l5 e5 y6 l6 e6 y7 l7 e7
    obtain ⟨W1, hW1⟩ : ∃ W1, WA.alloc (.cells #[.string ⟨#[102, 105, 114, 115, 116]⟩, .string ⟨#[108, 111, 111, 112]⟩, .string ⟨#[112, 114, 111, 98, 101]⟩, .string ⟨#[109, 101, 114, 103, 101]⟩] 9) = W1 := ⟨_, rfl⟩
    have hb1 : Below WA.heap.size WA W1 := hW1 ▸ ball (Below.refl _ _) _
    have BL : Blk W1 WA.heap.size 9 #[.string ⟨#[102, 105, 114, 115, 116]⟩, .string ⟨#[108, 111, 111, 112]⟩, .string ⟨#[112, 114, 111, 98, 101]⟩, .string ⟨#[109, 101, 114, 103, 101]⟩] := hW1 ▸ Blk.new WA _ _
    have b0 : W1.cell? ⟨WA.heap.size, 0, none⟩ = some (.string ⟨#[102, 105, 114, 115, 116]⟩) := BL.cell 0
    obtain ⟨g0, g1, g2, g3, g4, g5, g6, g7, g8, g9, g10, g11, g12, g13, g14, g15, g16, g17, g18, g19, g20, g21, g22, g23, -⟩ := hS.out WA (Below.refl _ _)
    obtain ⟨f0, f1, f2, f3, f4, f5, f6, f7, f8, f9, f10, f11, f12, f13, f14, f15, f16, f17, f18, f19, f20, f21, f22, f23, -⟩ := hS.out W1 hb1
    go_enter Tryd.func23, Tryd.ntmps23
    go_upto_region 5 with fail
    go_cut [28] (fun s28 wx => s28 = .bool ok1 ∧ wx = W1)
    case first =>
      rcases HTAB.out with ⟨rfl, -, hq⟩ | ⟨rfl, k, ad, z, hxk, hk, hK, -⟩
      · rcases Int.lt_or_le xtb 0 with h | h
        · go_wp2_with fail
          go_meet
          case rel => exact ⟨by first | rfl | (simp; done) | (simp; omega), rfl⟩
        · have h2 : (kn : Int) ≤ xtb := by omega
          clear hq
          go_wp2_with fail
          go_meet
          case rel => exact ⟨by first | rfl | (simp; done) | (simp; omega), rfl⟩
      · have h0 : (0 : Int) ≤ xtb := by omega
        have h2 : xtb < (kn : Int) := by omega
        clear hxk hk hK
        go_wp2_with fail
        go_meet
        case rel => exact ⟨by first | rfl | (simp; done) | (simp; omega), rfl⟩
    case rest =>
      obtain ⟨rfl, hwc⟩ := hcut
      replace hwc := hwc.symm
      subst hwc
      go_upto_if 28 with fail
      go_cut [8] (fun s8 wx => s8 = .string (str T) ∧ wx = W1)
      case first =>
        rcases HTAB.out with ⟨rfl, rfl, hq⟩ | ⟨rfl, k, ad, z, rfl, hk, rfl, hab, hc0, hzb, hz⟩
        · go_wp2_with fail
          go_meet
          case rel => exact ⟨rfl, rfl⟩
        · have h0 : (0 : Int) ≤ (k : Int) := by omega
          have h2 : (k : Int) < (kn : Int) := by omega
          have c0 := (hb1.cell (p := ad.add k) (by rw [block_of_add]; omega)).trans hc0
          obtain ⟨z0, z1⟩ := hzb
          rcases hz with ⟨rfl, hz⟩ | ⟨j, ad2, rfl, hj, rfl, hab2, hd0⟩
          · rcases Int.lt_or_le z 0 with hz0 | hz0
            · go_wp2_with fail
              go_meet
              case rel => exact ⟨rfl, rfl⟩
            · have hz1 : (n : Int) ≤ z := by omega
              go_wp2_with fail
              go_meet
              case rel => exact ⟨rfl, rfl⟩
          · have j0 : (0 : Int) ≤ (j : Int) := by omega
            have j1 : (j : Int) < (n : Int) := by omega
            have d0 := (hb1.cell (p := ad2.add (j * 5)) (by rw [block_of_add]; omega)).trans hd0
            go_wp2_with fail
            go_meet
            case rel => exact ⟨rfl, rfl⟩
      case rest =>
        obtain ⟨rfl, hwc⟩ := hcut
        replace hwc := hwc.symm
        subst hwc
        go_wp2_with (first | (go_at_call 41; (with_reducible refine (HT1.out _).mono ?_); rintro e w' ⟨rfl, rfl⟩) | fail)
        refine (HPT.out _ hb1).mono ?_
        rintro e w2 ⟨rfl, hb2⟩
        have hb3 := bto0 hb1 hb2
        clear f0 f1 f2 f3 f4 f5 f6 f7 f8 f9 f10 f11 f12 f13 f14 f15 f16 f17 f18 f19 f20 f21 f22 f23
        obtain ⟨f0, f1, f2, f3, f4, f5, f6, f7, f8, f9, f10, f11, f12, f13, f14, f15, f16, f17, f18, f19, f20, f21, f22, f23, -⟩ := hS.out w2 hb3
        go_wp2
        go_ret
        obtain ⟨y1, y2, y3, y4, y5, y6, y7⟩ := HY.out
        exact ⟨by rw [y7, y6, y5, y4, y3, y2, y1]; simp [headT], bto0 HBA.out (hb3)⟩
  by_cases h1 : xm = 1
  · subst h1
    have ht : ∀ Q X P J, tailT 1 Q X P J = Q ++ P ++ [10] := fun _ _ _ _ => rfl
    rw [ht]
    clear ht
    have hM : mthL 1 = [108, 111, 111, 112] := rfl
    rw [hM]
    clear hM
    obtain ⟨Y1, e1, y1⟩ := cat_ex [108, 111, 111, 112] [32]
    have e1' : (⟨#[108, 111, 111, 112]⟩ : ByteArray) ++ (⟨#[32]⟩ : ByteArray) = str Y1 := e1
    have l1 := congrArg List.length y1
    simp only [List.length_append, List.length_cons, List.length_nil] at l1
    have o1 : ¬ 9223372036854775807 < 4 + 1 := by (try simp only [str_size]); omega
    obtain ⟨Y2, e2, y2⟩ := cat_ex Y1 T
    have e2' : str Y1 ++ str T = str Y2 := e2
    have l2 := congrArg List.length y2
    simp only [List.length_append, List.length_cons, List.length_nil] at l2
    have o2 : ¬ 9223372036854775807 < (str Y1).size + (str T).size := by (try simp only [str_size]); omega
    obtain ⟨Y3, e3, y3⟩ := cat_ex Y2 [35]
    have e3' : str Y2 ++ (⟨#[35]⟩ : ByteArray) = str Y3 := e3
    have l3 := congrArg List.length y3
    simp only [List.length_append, List.length_cons, List.length_nil] at l3
    have o3 : ¬ 9223372036854775807 < (str Y2).size + 1 := by (try simp only [str_size]); omega
    obtain ⟨Y4, e4, y4⟩ := cat_ex Y3 I
    have e4' : str Y3 ++ str I = str Y4 := e4
    have l4 := congrArg List.length y4
    simp only [List.length_append, List.length_cons, List.length_nil] at l4
    have o4 : ¬ 9223372036854775807 < (str Y3).size + (str I).size := by (try simp only [str_size]); omega
    obtain ⟨Y5, e5, y5⟩ := cat_ex Y4 [32]
    have e5' : str Y4 ++ (⟨#[32]⟩ : ByteArray) = str Y5 := e5
    have l5 := congrArg List.length y5
    simp only [List.length_append, List.length_cons, List.length_nil] at l5
    have o5 : ¬ 9223372036854775807 < (str Y4).size + 1 := by (try simp only [str_size]); omega
    obtain ⟨Y6, e6, y6⟩ := cat_ex Y5 P
    have e6' : str Y5 ++ str P = str Y6 := e6
    have l6 := congrArg List.length y6
    simp only [List.length_append, List.length_cons, List.length_nil] at l6
    have o6 : ¬ 9223372036854775807 < (str Y5).size + (str P).size := by (try simp only [str_size]); omega
    obtain ⟨Y7, e7, y7⟩ := cat_ex Y6 [10]
    have e7' : str Y6 ++ (⟨#[10]⟩ : ByteArray) = str Y7 := e7
    have l7 := congrArg List.length y7
    simp only [List.length_append, List.length_cons, List.length_nil] at l7
    have o7 : ¬ 9223372036854775807 < (str Y6).size + 1 := by (try simp only [str_size]); omega
    have HY := Lib.hid (And.intro y1 (And.intro y2 (And.intro y3 (And.intro y4 (And.intro y5 (And.intro y6 y7))))))
    clear y1 l1 e1 y2 l2 e2 y3 l3 e3 y4 l4 e4 y5 l5 e5 y6 l6 e6 y7 l7 e7
    obtain ⟨W1, hW1⟩ : ∃ W1, WA.alloc (.cells #[.string ⟨#[102, 105, 114, 115, 116]⟩, .string ⟨#[108, 111, 111, 112]⟩, .string ⟨#[112, 114, 111, 98, 101]⟩, .string ⟨#[109, 101, 114, 103, 101]⟩] 9) = W1 := ⟨_, rfl⟩
    have hb1 : Below WA.heap.size WA W1 := hW1 ▸ ball (Below.refl _ _) _
    have BL : Blk W1 WA.heap.size 9 #[.string ⟨#[102, 105, 114, 115, 116]⟩, .string ⟨#[108, 111, 111, 112]⟩, .string ⟨#[112, 114, 111, 98, 101]⟩, .string ⟨#[109, 101, 114, 103, 101]⟩] := hW1 ▸ Blk.new WA _ _
    have b1 : W1.cell? ⟨WA.heap.size, 1, none⟩ = some (.string ⟨#[108, 111, 111, 112]⟩) := BL.cell 1
    obtain ⟨g0, g1, g2, g3, g4, g5, g6, g7, g8, g9, g10, g11, g12, g13, g14, g15, g16, g17, g18, g19, g20, g21, g22, g23, -⟩ := hS.out WA (Below.refl _ _)
    obtain ⟨f0, f1, f2, f3, f4, f5, f6, f7, f8, f9, f10, f11, f12, f13, f14, f15, f16, f17, f18, f19, f20, f21, f22, f23, -⟩ := hS.out W1 hb1
    go_enter Tryd.func23, Tryd.ntmps23
    go_upto_region 5 with fail
    go_cut [28] (fun s28 wx => s28 = .bool ok1 ∧ wx = W1)
    case first =>
      rcases HTAB.out with ⟨rfl, -, hq⟩ | ⟨rfl, k, ad, z, hxk, hk, hK, -⟩
      · rcases Int.lt_or_le xtb 0 with h | h
        · go_wp2_with fail
          go_meet
          case rel => exact ⟨by first | rfl | (simp; done) | (simp; omega), rfl⟩
        · have h2 : (kn : Int) ≤ xtb := by omega
          clear hq
          go_wp2_with fail
          go_meet
          case rel => exact ⟨by first | rfl | (simp; done) | (simp; omega), rfl⟩
      · have h0 : (0 : Int) ≤ xtb := by omega
        have h2 : xtb < (kn : Int) := by omega
        clear hxk hk hK
        go_wp2_with fail
        go_meet
        case rel => exact ⟨by first | rfl | (simp; done) | (simp; omega), rfl⟩
    case rest =>
      obtain ⟨rfl, hwc⟩ := hcut
      replace hwc := hwc.symm
      subst hwc
      go_upto_if 28 with fail
      go_cut [8] (fun s8 wx => s8 = .string (str T) ∧ wx = W1)
      case first =>
        rcases HTAB.out with ⟨rfl, rfl, hq⟩ | ⟨rfl, k, ad, z, rfl, hk, rfl, hab, hc0, hzb, hz⟩
        · go_wp2_with fail
          go_meet
          case rel => exact ⟨rfl, rfl⟩
        · have h0 : (0 : Int) ≤ (k : Int) := by omega
          have h2 : (k : Int) < (kn : Int) := by omega
          have c0 := (hb1.cell (p := ad.add k) (by rw [block_of_add]; omega)).trans hc0
          obtain ⟨z0, z1⟩ := hzb
          rcases hz with ⟨rfl, hz⟩ | ⟨j, ad2, rfl, hj, rfl, hab2, hd0⟩
          · rcases Int.lt_or_le z 0 with hz0 | hz0
            · go_wp2_with fail
              go_meet
              case rel => exact ⟨rfl, rfl⟩
            · have hz1 : (n : Int) ≤ z := by omega
              go_wp2_with fail
              go_meet
              case rel => exact ⟨rfl, rfl⟩
          · have j0 : (0 : Int) ≤ (j : Int) := by omega
            have j1 : (j : Int) < (n : Int) := by omega
            have d0 := (hb1.cell (p := ad2.add (j * 5)) (by rw [block_of_add]; omega)).trans hd0
            go_wp2_with fail
            go_meet
            case rel => exact ⟨rfl, rfl⟩
      case rest =>
        obtain ⟨rfl, hwc⟩ := hcut
        replace hwc := hwc.symm
        subst hwc
        go_wp2_with (first | (go_at_call 41; (with_reducible refine (HT1.out _).mono ?_); rintro e w' ⟨rfl, rfl⟩) | fail)
        refine (HPT.out _ hb1).mono ?_
        rintro e w2 ⟨rfl, hb2⟩
        have hb3 := bto0 hb1 hb2
        clear f0 f1 f2 f3 f4 f5 f6 f7 f8 f9 f10 f11 f12 f13 f14 f15 f16 f17 f18 f19 f20 f21 f22 f23
        obtain ⟨f0, f1, f2, f3, f4, f5, f6, f7, f8, f9, f10, f11, f12, f13, f14, f15, f16, f17, f18, f19, f20, f21, f22, f23, -⟩ := hS.out w2 hb3
        go_wp2
        go_ret
        obtain ⟨y1, y2, y3, y4, y5, y6, y7⟩ := HY.out
        exact ⟨by rw [y7, y6, y5, y4, y3, y2, y1]; simp [headT], bto0 HBA.out (hb3)⟩
  by_cases h2 : xm = 2
  · subst h2
    have ht : ∀ Q X P J, tailT 2 Q X P J = Q ++ X ++ [32, 111, 110, 32] ++ J ++ [10] := fun _ _ _ _ => rfl
    rw [ht]
    clear ht
    have hM : mthL 2 = [112, 114, 111, 98, 101] := rfl
    rw [hM]
    clear hM
    obtain ⟨Y1, e1, y1⟩ := cat_ex [112, 114, 111, 98, 101] [32]
    have e1' : (⟨#[112, 114, 111, 98, 101]⟩ : ByteArray) ++ (⟨#[32]⟩ : ByteArray) = str Y1 := e1
    have l1 := congrArg List.length y1
    simp only [List.length_append, List.length_cons, List.length_nil] at l1
    have o1 : ¬ 9223372036854775807 < 5 + 1 := by (try simp only [str_size]); omega
    obtain ⟨Y2, e2, y2⟩ := cat_ex Y1 T
    have e2' : str Y1 ++ str T = str Y2 := e2
    have l2 := congrArg List.length y2
    simp only [List.length_append, List.length_cons, List.length_nil] at l2
    have o2 : ¬ 9223372036854775807 < (str Y1).size + (str T).size := by (try simp only [str_size]); omega
    obtain ⟨Y3, e3, y3⟩ := cat_ex Y2 [35]
    have e3' : str Y2 ++ (⟨#[35]⟩ : ByteArray) = str Y3 := e3
    have l3 := congrArg List.length y3
    simp only [List.length_append, List.length_cons, List.length_nil] at l3
    have o3 : ¬ 9223372036854775807 < (str Y2).size + 1 := by (try simp only [str_size]); omega
    obtain ⟨Y4, e4, y4⟩ := cat_ex Y3 I
    have e4' : str Y3 ++ str I = str Y4 := e4
    have l4 := congrArg List.length y4
    simp only [List.length_append, List.length_cons, List.length_nil] at l4
    have o4 : ¬ 9223372036854775807 < (str Y3).size + (str I).size := by (try simp only [str_size]); omega
    obtain ⟨Y5, e5, y5⟩ := cat_ex Y4 [32]
    have e5' : str Y4 ++ (⟨#[32]⟩ : ByteArray) = str Y5 := e5
    have l5 := congrArg List.length y5
    simp only [List.length_append, List.length_cons, List.length_nil] at l5
    have o5 : ¬ 9223372036854775807 < (str Y4).size + 1 := by (try simp only [str_size]); omega
    obtain ⟨Y6, e6, y6⟩ := cat_ex Y5 X
    have e6' : str Y5 ++ str X = str Y6 := e6
    have l6 := congrArg List.length y6
    simp only [List.length_append, List.length_cons, List.length_nil] at l6
    have o6 : ¬ 9223372036854775807 < (str Y5).size + (str X).size := by (try simp only [str_size]); omega
    obtain ⟨Y7, e7, y7⟩ := cat_ex Y6 [32, 111, 110, 32]
    have e7' : str Y6 ++ (⟨#[32, 111, 110, 32]⟩ : ByteArray) = str Y7 := e7
    have l7 := congrArg List.length y7
    simp only [List.length_append, List.length_cons, List.length_nil] at l7
    have o7 : ¬ 9223372036854775807 < (str Y6).size + 4 := by (try simp only [str_size]); omega
    obtain ⟨Y8, e8, y8⟩ := cat_ex Y7 J
    have e8' : str Y7 ++ str J = str Y8 := e8
    have l8 := congrArg List.length y8
    simp only [List.length_append, List.length_cons, List.length_nil] at l8
    have o8 : ¬ 9223372036854775807 < (str Y7).size + (str J).size := by (try simp only [str_size]); omega
    obtain ⟨Y9, e9, y9⟩ := cat_ex Y8 [10]
    have e9' : str Y8 ++ (⟨#[10]⟩ : ByteArray) = str Y9 := e9
    have l9 := congrArg List.length y9
    simp only [List.length_append, List.length_cons, List.length_nil] at l9
    have o9 : ¬ 9223372036854775807 < (str Y8).size + 1 := by (try simp only [str_size]); omega
    have HY := Lib.hid (And.intro y1 (And.intro y2 (And.intro y3 (And.intro y4 (And.intro y5 (And.intro y6 (And.intro y7 (And.intro y8 y9))))))))
    clear y1 l1 e1 y2 l2 e2 y3 l3 e3 y4 l4 e4 y5 l5 e5 y6 l6 e6 y7 l7 e7 y8 l8 e8 y9 l9 e9
    obtain ⟨W1, hW1⟩ : ∃ W1, WA.alloc (.cells #[.string ⟨#[102, 105, 114, 115, 116]⟩, .string ⟨#[108, 111, 111, 112]⟩, .string ⟨#[112, 114, 111, 98, 101]⟩, .string ⟨#[109, 101, 114, 103, 101]⟩] 9) = W1 := ⟨_, rfl⟩
    have hb1 : Below WA.heap.size WA W1 := hW1 ▸ ball (Below.refl _ _) _
    have BL : Blk W1 WA.heap.size 9 #[.string ⟨#[102, 105, 114, 115, 116]⟩, .string ⟨#[108, 111, 111, 112]⟩, .string ⟨#[112, 114, 111, 98, 101]⟩, .string ⟨#[109, 101, 114, 103, 101]⟩] := hW1 ▸ Blk.new WA _ _
    have b2 : W1.cell? ⟨WA.heap.size, 2, none⟩ = some (.string ⟨#[112, 114, 111, 98, 101]⟩) := BL.cell 2
    obtain ⟨g0, g1, g2, g3, g4, g5, g6, g7, g8, g9, g10, g11, g12, g13, g14, g15, g16, g17, g18, g19, g20, g21, g22, g23, -⟩ := hS.out WA (Below.refl _ _)
    obtain ⟨f0, f1, f2, f3, f4, f5, f6, f7, f8, f9, f10, f11, f12, f13, f14, f15, f16, f17, f18, f19, f20, f21, f22, f23, -⟩ := hS.out W1 hb1
    go_enter Tryd.func23, Tryd.ntmps23
    go_upto_region 5 with fail
    go_cut [28] (fun s28 wx => s28 = .bool ok1 ∧ wx = W1)
    case first =>
      rcases HTAB.out with ⟨rfl, -, hq⟩ | ⟨rfl, k, ad, z, hxk, hk, hK, -⟩
      · rcases Int.lt_or_le xtb 0 with h | h
        · go_wp2_with fail
          go_meet
          case rel => exact ⟨by first | rfl | (simp; done) | (simp; omega), rfl⟩
        · have h2 : (kn : Int) ≤ xtb := by omega
          clear hq
          go_wp2_with fail
          go_meet
          case rel => exact ⟨by first | rfl | (simp; done) | (simp; omega), rfl⟩
      · have h0 : (0 : Int) ≤ xtb := by omega
        have h2 : xtb < (kn : Int) := by omega
        clear hxk hk hK
        go_wp2_with fail
        go_meet
        case rel => exact ⟨by first | rfl | (simp; done) | (simp; omega), rfl⟩
    case rest =>
      obtain ⟨rfl, hwc⟩ := hcut
      replace hwc := hwc.symm
      subst hwc
      go_upto_if 28 with fail
      go_cut [8] (fun s8 wx => s8 = .string (str T) ∧ wx = W1)
      case first =>
        rcases HTAB.out with ⟨rfl, rfl, hq⟩ | ⟨rfl, k, ad, z, rfl, hk, rfl, hab, hc0, hzb, hz⟩
        · go_wp2_with fail
          go_meet
          case rel => exact ⟨rfl, rfl⟩
        · have h0 : (0 : Int) ≤ (k : Int) := by omega
          have h2 : (k : Int) < (kn : Int) := by omega
          have c0 := (hb1.cell (p := ad.add k) (by rw [block_of_add]; omega)).trans hc0
          obtain ⟨z0, z1⟩ := hzb
          rcases hz with ⟨rfl, hz⟩ | ⟨j, ad2, rfl, hj, rfl, hab2, hd0⟩
          · rcases Int.lt_or_le z 0 with hz0 | hz0
            · go_wp2_with fail
              go_meet
              case rel => exact ⟨rfl, rfl⟩
            · have hz1 : (n : Int) ≤ z := by omega
              go_wp2_with fail
              go_meet
              case rel => exact ⟨rfl, rfl⟩
          · have j0 : (0 : Int) ≤ (j : Int) := by omega
            have j1 : (j : Int) < (n : Int) := by omega
            have d0 := (hb1.cell (p := ad2.add (j * 5)) (by rw [block_of_add]; omega)).trans hd0
            go_wp2_with fail
            go_meet
            case rel => exact ⟨rfl, rfl⟩
      case rest =>
        obtain ⟨rfl, hwc⟩ := hcut
        replace hwc := hwc.symm
        subst hwc
        go_wp2_with (go_at_call 41; (with_reducible refine (HT1.out _).mono ?_); rintro e w' ⟨rfl, rfl⟩)
        go_region_held3 (fun W => W.cell? ⟨w.heap.size, 0, none⟩ = some (.slice A n c) ∧ W.cell? ⟨w.heap.size, 1, none⟩ = some (.slice B m d) ∧ W.cell? ⟨w.heap.size + 1, 0, none⟩ = some (v0) ∧ W.cell? ⟨w.heap.size + 1, 1, none⟩ = some (.slice K kn kc) ∧ W.cell? ⟨w.heap.size + 1, 2, none⟩ = some (v2) ∧ W.cell? ⟨w.heap.size + 1, 3, none⟩ = some (v3) ∧ W.cell? ⟨w.heap.size + 1, 4, none⟩ = some (v4) ∧ W.cell? ⟨w.heap.size + 1, 5, none⟩ = some (v5) ∧ W.cell? ⟨w.heap.size + 1, 6, none⟩ = some (v6) ∧ W.cell? ⟨w.heap.size + 1, 7, none⟩ = some (v7) ∧ W.cell? ⟨w.heap.size + 1, 8, none⟩ = some (v8) ∧ W.cell? ⟨w.heap.size + 1, 9, none⟩ = some (v9) ∧ W.cell? ⟨w.heap.size + 1, 10, none⟩ = some (v10) ∧ W.cell? ⟨w.heap.size + 1 + 1, 0, none⟩ = some (.int .i64 xtb) ∧ W.cell? ⟨w.heap.size + 1 + 1, 1, none⟩ = some (.int .u8 2) ∧ W.cell? ⟨w.heap.size + 1 + 1, 2, none⟩ = some (.int .u8 xpk) ∧ W.cell? ⟨w.heap.size + 1 + 1, 3, none⟩ = some (.int .i64 xpi) ∧ W.cell? ⟨w.heap.size + 1 + 1, 4, none⟩ = some (.slice rA rn rc) ∧ W.cell? ⟨w.heap.size + 1 + 1, 5, none⟩ = some (.slice cA cn cc) ∧ W.cell? ⟨w.heap.size + 1 + 1, 6, none⟩ = some (.int .i64 xpo) ∧ W.cell? ⟨w.heap.size + 1 + 1, 7, none⟩ = some (.slice aA an ac) ∧ W.cell? ⟨w.heap.size + 1 + 1, 8, none⟩ = some (.slice mA mn mc) ∧ W.cell? ⟨w.heap.size + 1 + 1, 9, none⟩ = some (.int .i64 xix) ∧ W.cell? ⟨w.heap.size + 1 + 1, 10, none⟩ = some (.int .i64 xjn) ∧ Below WA.heap.size WA W)
          (first | exact hS.out _ (by (with_reducible repeat (first | exact Below.refl _ _ | exact hb2 | exact hb1 | refine bto0 ?_ hb2 | refine bto0 ?_ hb1 | refine bdr ?_ _ | refine Below.drew ?_ | refine ball ?_ _))) | assumption)
          (first
            | (go_at_call 42; (with_reducible refine (HIX.out _ (by (with_reducible repeat (first | exact Below.refl _ _ | exact hb2 | exact hb1 | refine bto0 ?_ hb2 | refine bto0 ?_ hb1 | refine bdr ?_ _ | refine Below.drew ?_ | refine ball ?_ _)))).mono ?_); rintro e w2 ⟨rfl, hb2⟩)
            | (go_at_call 41; (with_reducible refine (HT2.out _).mono ?_); rintro e w' ⟨rfl, rfl⟩))
        go_wp2
        go_ret
        obtain ⟨y1, y2, y3, y4, y5, y6, y7, y8, y9⟩ := HY.out
        exact ⟨by rw [y9, y8, y7, y6, y5, y4, y3, y2, y1]; simp [headT], bto0 HBA.out (by (with_reducible repeat (first | exact Below.refl _ _ | exact hb2 | exact hb1 | refine bto0 ?_ hb2 | refine bto0 ?_ hb1 | refine bdr ?_ _ | refine Below.drew ?_ | refine ball ?_ _)))⟩
  by_cases h3 : xm = 3
  · subst h3
    have ht : ∀ Q X P J, tailT 3 Q X P J = Q ++ P ++ [32, 111, 110, 32] ++ J ++ [10] := fun _ _ _ _ => rfl
    rw [ht]
    clear ht
    have hM : mthL 3 = [109, 101, 114, 103, 101] := rfl
    rw [hM]
    clear hM
    obtain ⟨Y1, e1, y1⟩ := cat_ex [109, 101, 114, 103, 101] [32]
    have e1' : (⟨#[109, 101, 114, 103, 101]⟩ : ByteArray) ++ (⟨#[32]⟩ : ByteArray) = str Y1 := e1
    have l1 := congrArg List.length y1
    simp only [List.length_append, List.length_cons, List.length_nil] at l1
    have o1 : ¬ 9223372036854775807 < 5 + 1 := by (try simp only [str_size]); omega
    obtain ⟨Y2, e2, y2⟩ := cat_ex Y1 T
    have e2' : str Y1 ++ str T = str Y2 := e2
    have l2 := congrArg List.length y2
    simp only [List.length_append, List.length_cons, List.length_nil] at l2
    have o2 : ¬ 9223372036854775807 < (str Y1).size + (str T).size := by (try simp only [str_size]); omega
    obtain ⟨Y3, e3, y3⟩ := cat_ex Y2 [35]
    have e3' : str Y2 ++ (⟨#[35]⟩ : ByteArray) = str Y3 := e3
    have l3 := congrArg List.length y3
    simp only [List.length_append, List.length_cons, List.length_nil] at l3
    have o3 : ¬ 9223372036854775807 < (str Y2).size + 1 := by (try simp only [str_size]); omega
    obtain ⟨Y4, e4, y4⟩ := cat_ex Y3 I
    have e4' : str Y3 ++ str I = str Y4 := e4
    have l4 := congrArg List.length y4
    simp only [List.length_append, List.length_cons, List.length_nil] at l4
    have o4 : ¬ 9223372036854775807 < (str Y3).size + (str I).size := by (try simp only [str_size]); omega
    obtain ⟨Y5, e5, y5⟩ := cat_ex Y4 [32]
    have e5' : str Y4 ++ (⟨#[32]⟩ : ByteArray) = str Y5 := e5
    have l5 := congrArg List.length y5
    simp only [List.length_append, List.length_cons, List.length_nil] at l5
    have o5 : ¬ 9223372036854775807 < (str Y4).size + 1 := by (try simp only [str_size]); omega
    obtain ⟨Y6, e6, y6⟩ := cat_ex Y5 P
    have e6' : str Y5 ++ str P = str Y6 := e6
    have l6 := congrArg List.length y6
    simp only [List.length_append, List.length_cons, List.length_nil] at l6
    have o6 : ¬ 9223372036854775807 < (str Y5).size + (str P).size := by (try simp only [str_size]); omega
    obtain ⟨Y7, e7, y7⟩ := cat_ex Y6 [32, 111, 110, 32]
    have e7' : str Y6 ++ (⟨#[32, 111, 110, 32]⟩ : ByteArray) = str Y7 := e7
    have l7 := congrArg List.length y7
    simp only [List.length_append, List.length_cons, List.length_nil] at l7
    have o7 : ¬ 9223372036854775807 < (str Y6).size + 4 := by (try simp only [str_size]); omega
    obtain ⟨Y8, e8, y8⟩ := cat_ex Y7 J
    have e8' : str Y7 ++ str J = str Y8 := e8
    have l8 := congrArg List.length y8
    simp only [List.length_append, List.length_cons, List.length_nil] at l8
    have o8 : ¬ 9223372036854775807 < (str Y7).size + (str J).size := by (try simp only [str_size]); omega
    obtain ⟨Y9, e9, y9⟩ := cat_ex Y8 [10]
    have e9' : str Y8 ++ (⟨#[10]⟩ : ByteArray) = str Y9 := e9
    have l9 := congrArg List.length y9
    simp only [List.length_append, List.length_cons, List.length_nil] at l9
    have o9 : ¬ 9223372036854775807 < (str Y8).size + 1 := by (try simp only [str_size]); omega
    have HY := Lib.hid (And.intro y1 (And.intro y2 (And.intro y3 (And.intro y4 (And.intro y5 (And.intro y6 (And.intro y7 (And.intro y8 y9))))))))
    clear y1 l1 e1 y2 l2 e2 y3 l3 e3 y4 l4 e4 y5 l5 e5 y6 l6 e6 y7 l7 e7 y8 l8 e8 y9 l9 e9
    obtain ⟨W1, hW1⟩ : ∃ W1, WA.alloc (.cells #[.string ⟨#[102, 105, 114, 115, 116]⟩, .string ⟨#[108, 111, 111, 112]⟩, .string ⟨#[112, 114, 111, 98, 101]⟩, .string ⟨#[109, 101, 114, 103, 101]⟩] 9) = W1 := ⟨_, rfl⟩
    have hb1 : Below WA.heap.size WA W1 := hW1 ▸ ball (Below.refl _ _) _
    have BL : Blk W1 WA.heap.size 9 #[.string ⟨#[102, 105, 114, 115, 116]⟩, .string ⟨#[108, 111, 111, 112]⟩, .string ⟨#[112, 114, 111, 98, 101]⟩, .string ⟨#[109, 101, 114, 103, 101]⟩] := hW1 ▸ Blk.new WA _ _
    have b3 : W1.cell? ⟨WA.heap.size, 3, none⟩ = some (.string ⟨#[109, 101, 114, 103, 101]⟩) := BL.cell 3
    obtain ⟨g0, g1, g2, g3, g4, g5, g6, g7, g8, g9, g10, g11, g12, g13, g14, g15, g16, g17, g18, g19, g20, g21, g22, g23, -⟩ := hS.out WA (Below.refl _ _)
    obtain ⟨f0, f1, f2, f3, f4, f5, f6, f7, f8, f9, f10, f11, f12, f13, f14, f15, f16, f17, f18, f19, f20, f21, f22, f23, -⟩ := hS.out W1 hb1
    go_enter Tryd.func23, Tryd.ntmps23
    go_upto_region 5 with fail
    go_cut [28] (fun s28 wx => s28 = .bool ok1 ∧ wx = W1)
    case first =>
      rcases HTAB.out with ⟨rfl, -, hq⟩ | ⟨rfl, k, ad, z, hxk, hk, hK, -⟩
      · rcases Int.lt_or_le xtb 0 with h | h
        · go_wp2_with fail
          go_meet
          case rel => exact ⟨by first | rfl | (simp; done) | (simp; omega), rfl⟩
        · have h2 : (kn : Int) ≤ xtb := by omega
          clear hq
          go_wp2_with fail
          go_meet
          case rel => exact ⟨by first | rfl | (simp; done) | (simp; omega), rfl⟩
      · have h0 : (0 : Int) ≤ xtb := by omega
        have h2 : xtb < (kn : Int) := by omega
        clear hxk hk hK
        go_wp2_with fail
        go_meet
        case rel => exact ⟨by first | rfl | (simp; done) | (simp; omega), rfl⟩
    case rest =>
      obtain ⟨rfl, hwc⟩ := hcut
      replace hwc := hwc.symm
      subst hwc
      go_upto_if 28 with fail
      go_cut [8] (fun s8 wx => s8 = .string (str T) ∧ wx = W1)
      case first =>
        rcases HTAB.out with ⟨rfl, rfl, hq⟩ | ⟨rfl, k, ad, z, rfl, hk, rfl, hab, hc0, hzb, hz⟩
        · go_wp2_with fail
          go_meet
          case rel => exact ⟨rfl, rfl⟩
        · have h0 : (0 : Int) ≤ (k : Int) := by omega
          have h2 : (k : Int) < (kn : Int) := by omega
          have c0 := (hb1.cell (p := ad.add k) (by rw [block_of_add]; omega)).trans hc0
          obtain ⟨z0, z1⟩ := hzb
          rcases hz with ⟨rfl, hz⟩ | ⟨j, ad2, rfl, hj, rfl, hab2, hd0⟩
          · rcases Int.lt_or_le z 0 with hz0 | hz0
            · go_wp2_with fail
              go_meet
              case rel => exact ⟨rfl, rfl⟩
            · have hz1 : (n : Int) ≤ z := by omega
              go_wp2_with fail
              go_meet
              case rel => exact ⟨rfl, rfl⟩
          · have j0 : (0 : Int) ≤ (j : Int) := by omega
            have j1 : (j : Int) < (n : Int) := by omega
            have d0 := (hb1.cell (p := ad2.add (j * 5)) (by rw [block_of_add]; omega)).trans hd0
            go_wp2_with fail
            go_meet
            case rel => exact ⟨rfl, rfl⟩
      case rest =>
        obtain ⟨rfl, hwc⟩ := hcut
        replace hwc := hwc.symm
        subst hwc
        go_wp2_with (first | (go_at_call 41; (with_reducible refine (HT1.out _).mono ?_); rintro e w' ⟨rfl, rfl⟩) | fail)
        refine (HPT.out _ hb1).mono ?_
        rintro e w2 ⟨rfl, hb2⟩
        have hb3 := bto0 hb1 hb2
        clear f0 f1 f2 f3 f4 f5 f6 f7 f8 f9 f10 f11 f12 f13 f14 f15 f16 f17 f18 f19 f20 f21 f22 f23
        obtain ⟨f0, f1, f2, f3, f4, f5, f6, f7, f8, f9, f10, f11, f12, f13, f14, f15, f16, f17, f18, f19, f20, f21, f22, f23, -⟩ := hS.out w2 hb3
        go_wp2_with (go_at_call 41; (with_reducible refine (HT2.out _).mono ?_); rintro e w' ⟨rfl, rfl⟩)
        go_ret
        obtain ⟨y1, y2, y3, y4, y5, y6, y7, y8, y9⟩ := HY.out
        exact ⟨by rw [y9, y8, y7, y6, y5, y4, y3, y2, y1]; simp [headT], bto0 HBA.out (hb3)⟩
  have ht : ∀ Q X P J, tailT xm Q X P J = Q ++ P ++ [10] := fun _ _ _ _ => by unfold tailT; rw [if_neg h2, if_neg h3]
  have hM : mthL xm = [63] := by unfold mthL; rw [if_neg h0, if_neg h1, if_neg h2, if_neg h3]
  rw [ht, hM]
  have m4 : 4 ≤ xm := by omega
  have q2 : (xm == 2) = false := beq_eq_false_iff_ne.2 h2
  have q3 : (xm == 3) = false := beq_eq_false_iff_ne.2 h3
  clear ht hM h0 h1 h2 h3
  obtain ⟨Y1, e1, y1⟩ := cat_ex [63] [32]
  have e1' : (⟨#[63]⟩ : ByteArray) ++ (⟨#[32]⟩ : ByteArray) = str Y1 := e1
  have l1 := congrArg List.length y1
  simp only [List.length_append, List.length_cons, List.length_nil] at l1
  have o1 : ¬ 9223372036854775807 < 1 + 1 := by (try simp only [str_size]); omega
  obtain ⟨Y2, e2, y2⟩ := cat_ex Y1 T
  have e2' : str Y1 ++ str T = str Y2 := e2
  have l2 := congrArg List.length y2
  simp only [List.length_append, List.length_cons, List.length_nil] at l2
  have o2 : ¬ 9223372036854775807 < (str Y1).size + (str T).size := by (try simp only [str_size]); omega
  obtain ⟨Y3, e3, y3⟩ := cat_ex Y2 [35]
  have e3' : str Y2 ++ (⟨#[35]⟩ : ByteArray) = str Y3 := e3
  have l3 := congrArg List.length y3
  simp only [List.length_append, List.length_cons, List.length_nil] at l3
  have o3 : ¬ 9223372036854775807 < (str Y2).size + 1 := by (try simp only [str_size]); omega
  obtain ⟨Y4, e4, y4⟩ := cat_ex Y3 I
  have e4' : str Y3 ++ str I = str Y4 := e4
  have l4 := congrArg List.length y4
  simp only [List.length_append, List.length_cons, List.length_nil] at l4
  have o4 : ¬ 9223372036854775807 < (str Y3).size + (str I).size := by (try simp only [str_size]); omega
  obtain ⟨Y5, e5, y5⟩ := cat_ex Y4 [32]
  have e5' : str Y4 ++ (⟨#[32]⟩ : ByteArray) = str Y5 := e5
  have l5 := congrArg List.length y5
  simp only [List.length_append, List.length_cons, List.length_nil] at l5
  have o5 : ¬ 9223372036854775807 < (str Y4).size + 1 := by (try simp only [str_size]); omega
  obtain ⟨Y6, e6, y6⟩ := cat_ex Y5 P
  have e6' : str Y5 ++ str P = str Y6 := e6
  have l6 := congrArg List.length y6
  simp only [List.length_append, List.length_cons, List.length_nil] at l6
  have o6 : ¬ 9223372036854775807 < (str Y5).size + (str P).size := by (try simp only [str_size]); omega
  obtain ⟨Y7, e7, y7⟩ := cat_ex Y6 [10]
  have e7' : str Y6 ++ (⟨#[10]⟩ : ByteArray) = str Y7 := e7
  have l7 := congrArg List.length y7
  simp only [List.length_append, List.length_cons, List.length_nil] at l7
  have o7 : ¬ 9223372036854775807 < (str Y6).size + 1 := by (try simp only [str_size]); omega
  have HY := Lib.hid (And.intro y1 (And.intro y2 (And.intro y3 (And.intro y4 (And.intro y5 (And.intro y6 y7))))))
  clear y1 l1 e1 y2 l2 e2 y3 l3 e3 y4 l4 e4 y5 l5 e5 y6 l6 e6 y7 l7 e7
  obtain ⟨f0, f1, f2, f3, f4, f5, f6, f7, f8, f9, f10, f11, f12, f13, f14, f15, f16, f17, f18, f19, f20, f21, f22, f23, -⟩ := hS.out WA (Below.refl _ _)
  go_enter Tryd.func23, Tryd.ntmps23
  go_upto_region 5 with fail
  go_cut [28] (fun s28 wx => s28 = .bool ok1 ∧ wx = WA)
  case first =>
    rcases HTAB.out with ⟨rfl, -, hq⟩ | ⟨rfl, k, ad, z, hxk, hk, hK, -⟩
    · rcases Int.lt_or_le xtb 0 with h | h
      · go_wp2_with fail
        go_meet
        case rel => exact ⟨by first | rfl | (simp; done) | (simp; omega), rfl⟩
      · have h2 : (kn : Int) ≤ xtb := by omega
        clear hq
        go_wp2_with fail
        go_meet
        case rel => exact ⟨by first | rfl | (simp; done) | (simp; omega), rfl⟩
    · have h0 : (0 : Int) ≤ xtb := by omega
      have h2 : xtb < (kn : Int) := by omega
      clear hxk hk hK
      go_wp2_with fail
      go_meet
      case rel => exact ⟨by first | rfl | (simp; done) | (simp; omega), rfl⟩
  case rest =>
    obtain ⟨rfl, hwc⟩ := hcut
    replace hwc := hwc.symm
    subst hwc
    go_upto_if 28 with fail
    go_cut [8] (fun s8 wx => s8 = .string (str T) ∧ wx = WA)
    case first =>
      rcases HTAB.out with ⟨rfl, rfl, hq⟩ | ⟨rfl, k, ad, z, rfl, hk, rfl, hab, hc0, hzb, hz⟩
      · go_wp2_with fail
        go_meet
        case rel => exact ⟨rfl, rfl⟩
      · have h0 : (0 : Int) ≤ (k : Int) := by omega
        have h2 : (k : Int) < (kn : Int) := by omega
        have c0 := ((Below.refl WA.heap.size WA).cell (p := ad.add k) (by rw [block_of_add]; omega)).trans hc0
        obtain ⟨z0, z1⟩ := hzb
        rcases hz with ⟨rfl, hz⟩ | ⟨j, ad2, rfl, hj, rfl, hab2, hd0⟩
        · rcases Int.lt_or_le z 0 with hz0 | hz0
          · go_wp2_with fail
            go_meet
            case rel => exact ⟨rfl, rfl⟩
          · have hz1 : (n : Int) ≤ z := by omega
            go_wp2_with fail
            go_meet
            case rel => exact ⟨rfl, rfl⟩
        · have j0 : (0 : Int) ≤ (j : Int) := by omega
          have j1 : (j : Int) < (n : Int) := by omega
          have d0 := ((Below.refl WA.heap.size WA).cell (p := ad2.add (j * 5)) (by rw [block_of_add]; omega)).trans hd0
          go_wp2_with fail
          go_meet
          case rel => exact ⟨rfl, rfl⟩
    case rest =>
      obtain ⟨rfl, hwc⟩ := hcut
      replace hwc := hwc.symm
      subst hwc
      go_wp2_with (first | (go_at_call 41; (with_reducible refine (HT1.out _).mono ?_); rintro e w' ⟨rfl, rfl⟩) | fail)
      refine (HPT.out _ (Below.refl WA.heap.size WA)).mono ?_
      rintro e w2 ⟨rfl, hb2⟩
      have hb3 := bto0 (Below.refl WA.heap.size WA) hb2
      clear f0 f1 f2 f3 f4 f5 f6 f7 f8 f9 f10 f11 f12 f13 f14 f15 f16 f17 f18 f19 f20 f21 f22 f23
      obtain ⟨f0, f1, f2, f3, f4, f5, f6, f7, f8, f9, f10, f11, f12, f13, f14, f15, f16, f17, f18, f19, f20, f21, f22, f23, -⟩ := hS.out w2 hb3
      go_wp2
      go_ret
      obtain ⟨y1, y2, y3, y4, y5, y6, y7⟩ := HY.out
      exact ⟨by rw [y7, y6, y5, y4, y3, y2, y1]; simp [headT], bto0 HBA.out (hb3)⟩
end
end Go.Proofs.YtblpflobpffjnaaDoor
