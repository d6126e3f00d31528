
/-
  The program's step: its words.
-/
import Derived.Test.YtblpflobpffjnaaDoorWi
set_option linter.unusedSimpArgs false
set_option linter.unusedVariables false
namespace Go.Proofs.YtblpflobpffjnaaDoor
open Go.RowKit

def Sp.agg (x : Sp) : Value := .agg #[.int .i64 x.tb, .int .u8 x.m, .int .u8 x.pk, .int .i64 x.pi, .slice x.rA x.rn x.rc, .slice x.cA x.cn x.cc, .int .i64 x.po, .slice x.aA x.an x.ac, .slice x.mA x.mn x.mc, .int .i64 x.ix, .int .i64 x.jn]
def stepW (tbs : List Tb) (ks : List Int) (ixs : List Ix) (x : Sp) : List (List UInt8) :=
  [mthL x.m, tabL tbs ks x.tb ++ 35 :: Lib.itoa x.tb] ++ (if x.m = 2 then [idxL ixs x.ix] else pthL ixs x) ++ (if x.m = 2 ∨ x.m = 3 then [[111, 110], Lib.itoa x.jn] else [])
theorem own_arr {w : World} {g base k : Nat} {t : TypeId} {arr : Array Value} {xs : List Value} (h : Blk w g t arr) (hb : base ≤ g) (hk : arr.size = k) (hxs : arr.toList = xs) (hm : k ≤ 1000) : w.ownsRow base t 1 (.slice (some ⟨g, 0, none⟩) k k) k xs := by
  subst hk
  subst hxs
  exact ⟨by simp, .inr ⟨g, arr.size, arr, rfl, hb, h, Nat.le_refl _, by unfold maxLen; omega, by simp, by rw [Nat.mul_one, ← Array.length_toList]; exact List.take_length⟩⟩
theorem itoa_len {i : Int} (h : I64 i) : (Lib.itoa i).length ≤ 21 := Lib.itoa_length_le i h.1 h.2
theorem pthL_len {ixs : List Ix} (x : Sp) : (pthL ixs x).length ≤ 5 := by
  unfold pthL
  repeat (split; (simp))
  simp
theorem vStr_app (a b : List (List UInt8)) : vStr (a ++ b) = vStr a ++ vStr b := by simp [vStr]
theorem vStr_one (l : List (List UInt8)) : ∀ u ∈ vStr l, u.oneCell' = true := by
  intro u hu
  obtain ⟨x, _, rfl⟩ := List.mem_map.1 hu
  rfl

section
variable {w : World} {Bd : Nat} {A : Option Addr} {n : Nat} {tbs : List Tb} {B : Option Addr} {m : Nat} {ixs : List Ix} {K : Option Addr} {kn : Nat} {ks : List Int}
set_option maxRecDepth 100000 in
set_option maxHeartbeats 4000000 in
theorem step30_any (E : EnvB w Bd A n tbs B m ixs K kn ks) (hBd : Bd ≤ w.heap.size) (hv : VT w) (c d kc : Nat) (v0 v2 v3 v4 v5 v6 v7 v8 v9 v10 : Value) (x : Sp) (hx : x.ok) :
    Calls Tryd.prog 21 #[.agg #[.slice A n c, .slice B m d], .agg #[v0, .slice K kn kc, v2, v3, v4, v5, v6, v7, v8, v9, v10], x.agg] w (RetW (stepW tbs ks ixs x) w) := by
  obtain ⟨i0, hi0, hz0, hs0, hy0⟩ := int_info8 Tryd.infoS30
  have hpl := pthL_len (ixs := ixs) x
  have hPT := fun (W : World) (e : EnvB W Bd A n tbs B m ixs K kn ks) (h : Bd ≤ W.heap.size) (h2 : VT W) => path_any e h h2 c d x hx
  have hTl := tabL_len E.tn ks x.tb
  have hTi := itoa_len hx.tb
  have hix := hx.ix
  have hjn := hx.jn
  have htb := hx.tb
  clear hx
  unfold stepW
  generalize pthL ixs x = PW at *
  obtain ⟨xtb, xm, xpk, xpi, rA, rn, rc, cA, cn, cc, xpo, aA, an, ac, mA, mn, mc, xix, xjn⟩ := x
  unfold Sp.path at hPT
  unfold Sp.agg
  simp only at *
  obtain ⟨WA, hWA⟩ : ∃ WA, ((w.alloc (.cells #[.slice A n c, .slice B m d] 25)).alloc (.cells #[v0, .slice K kn kc, v2, v3, v4, v5, v6, v7, v8, v9, v10] 32)).alloc (.cells #[.int .i64 xtb, .int .u8 xm, .int .u8 xpk, .int .i64 xpi, .slice rA rn rc, .slice cA cn cc, .int .i64 xpo, .slice aA an ac, .slice mA mn mc, .int .i64 xix, .int .i64 xjn] 71) = WA := ⟨_, rfl⟩
  have hbA : Below w.heap.size w WA := hWA ▸ ball (ball (ball (Below.refl w.heap.size w) _) _) _
  have B0 : Blk WA w.heap.size 25 #[.slice A n c, .slice B m d] := hWA ▸ ((Blk.new w _ _).alloc _).alloc _
  have B1 : Blk WA (w.heap.size + 1) 32 #[v0, .slice K kn kc, v2, v3, v4, v5, v6, v7, v8, v9, v10] := by
    have h := Blk.new (w.alloc (.cells #[.slice A n c, .slice B m d] 25)) 32 #[v0, .slice K kn kc, v2, v3, v4, v5, v6, v7, v8, v9, v10]
    rw [alloc_size] at h
    exact hWA ▸ h.alloc _
  have B2 : Blk WA (w.heap.size + 2) 71 #[.int .i64 xtb, .int .u8 xm, .int .u8 xpk, .int .i64 xpi, .slice rA rn rc, .slice cA cn cc, .int .i64 xpo, .slice aA an ac, .slice mA mn mc, .int .i64 xix, .int .i64 xjn] := by
    have h := Blk.new ((w.alloc (.cells #[.slice A n c, .slice B m d] 25)).alloc (.cells #[v0, .slice K kn kc, v2, v3, v4, v5, v6, v7, v8, v9, v10] 32)) 71 #[.int .i64 xtb, .int .u8 xm, .int .u8 xpk, .int .i64 xpi, .slice rA rn rc, .slice cA cn cc, .int .i64 xpo, .slice aA an ac, .slice mA mn mc, .int .i64 xix, .int .i64 xjn]
    rw [alloc_size, alloc_size] at h
    exact hWA ▸ h
  have hzA : w.heap.size + 2 < WA.heap.size := B2.lt
  have nu : w.heap.size < WA.heap.size := by omega
  have nu1 : w.heap.size + 1 < WA.heap.size := by omega
  have HM := Lib.hid fun (W : World) => method_any xm W
  have HTB := Lib.hid fun (W : World) (hb : Below WA.heap.size WA W) => table_any (E.below ((bto0 hbA hb).mono hBd)) (Nat.le_trans hBd (bto0 hbA hb).size) c d kc v0 v2 v3 v4 v5 v6 v7 v8 v9 v10 xtb htb
  have HT1 := Lib.hid fun (W : World) (hb : Below WA.heap.size WA W) => itoa_any xtb htb W (hv.below0 (bto0 hbA hb))
  have HT2 := Lib.hid fun (W : World) (hb : Below WA.heap.size WA W) => itoa_any xjn hjn W (hv.below0 (bto0 hbA hb))
  have HIX := Lib.hid fun (W : World) (hb : Below WA.heap.size WA W) => index_any (E.below ((bto0 hbA hb).mono hBd)) (Nat.le_trans hBd (bto0 hbA hb).size) c d xix hix
  have HPT := Lib.hid fun (W : World) (hb : Below WA.heap.size WA W) => hPT W (E.below ((bto0 hbA hb).mono hBd)) (Nat.le_trans hBd (bto0 hbA hb).size) (hv.below0 (bto0 hbA hb))
  have hS := Lib.hid fun (W : World) (hb : Below WA.heap.size WA W) => (show W.cell? ⟨w.heap.size, 0, none⟩ = some (.slice A n c) ∧ W.cell? ⟨w.heap.size, 1, none⟩ = some (.slice B m d) ∧ W.cell? ⟨w.heap.size + 1, 0, none⟩ = some (v0) ∧ W.cell? ⟨w.heap.size + 1, 1, none⟩ = some (.slice K kn kc) ∧ W.cell? ⟨w.heap.size + 1, 2, none⟩ = some (v2) ∧ W.cell? ⟨w.heap.size + 1, 3, none⟩ = some (v3) ∧ W.cell? ⟨w.heap.size + 1, 4, none⟩ = some (v4) ∧ W.cell? ⟨w.heap.size + 1, 5, none⟩ = some (v5) ∧ W.cell? ⟨w.heap.size + 1, 6, none⟩ = some (v6) ∧ W.cell? ⟨w.heap.size + 1, 7, none⟩ = some (v7) ∧ W.cell? ⟨w.heap.size + 1, 8, none⟩ = some (v8) ∧ W.cell? ⟨w.heap.size + 1, 9, none⟩ = some (v9) ∧ W.cell? ⟨w.heap.size + 1, 10, none⟩ = some (v10) ∧ W.cell? ⟨w.heap.size + 1 + 1, 0, none⟩ = some (.int .i64 xtb) ∧ W.cell? ⟨w.heap.size + 1 + 1, 1, none⟩ = some (.int .u8 xm) ∧ W.cell? ⟨w.heap.size + 1 + 1, 2, none⟩ = some (.int .u8 xpk) ∧ W.cell? ⟨w.heap.size + 1 + 1, 3, none⟩ = some (.int .i64 xpi) ∧ W.cell? ⟨w.heap.size + 1 + 1, 4, none⟩ = some (.slice rA rn rc) ∧ W.cell? ⟨w.heap.size + 1 + 1, 5, none⟩ = some (.slice cA cn cc) ∧ W.cell? ⟨w.heap.size + 1 + 1, 6, none⟩ = some (.int .i64 xpo) ∧ W.cell? ⟨w.heap.size + 1 + 1, 7, none⟩ = some (.slice aA an ac) ∧ W.cell? ⟨w.heap.size + 1 + 1, 8, none⟩ = some (.slice mA mn mc) ∧ W.cell? ⟨w.heap.size + 1 + 1, 9, none⟩ = some (.int .i64 xix) ∧ W.cell? ⟨w.heap.size + 1 + 1, 10, none⟩ = some (.int .i64 xjn) ∧ Below WA.heap.size WA W from
    ⟨(hb.cell (by simp; omega)).trans (B0.cell 0), (hb.cell (by simp; omega)).trans (B0.cell 1), (hb.cell (by simp; omega)).trans (B1.cell 0), (hb.cell (by simp; omega)).trans (B1.cell 1), (hb.cell (by simp; omega)).trans (B1.cell 2), (hb.cell (by simp; omega)).trans (B1.cell 3), (hb.cell (by simp; omega)).trans (B1.cell 4), (hb.cell (by simp; omega)).trans (B1.cell 5), (hb.cell (by simp; omega)).trans (B1.cell 6), (hb.cell (by simp; omega)).trans (B1.cell 7), (hb.cell (by simp; omega)).trans (B1.cell 8), (hb.cell (by simp; omega)).trans (B1.cell 9), (hb.cell (by simp; omega)).trans (B1.cell 10), (hb.cell (by simp; omega)).trans (B2.cell 0), (hb.cell (by simp; omega)).trans (B2.cell 1), (hb.cell (by simp; omega)).trans (B2.cell 2), (hb.cell (by simp; omega)).trans (B2.cell 3), (hb.cell (by simp; omega)).trans (B2.cell 4), (hb.cell (by simp; omega)).trans (B2.cell 5), (hb.cell (by simp; omega)).trans (B2.cell 6), (hb.cell (by simp; omega)).trans (B2.cell 7), (hb.cell (by simp; omega)).trans (B2.cell 8), (hb.cell (by simp; omega)).trans (B2.cell 9), (hb.cell (by simp; omega)).trans (B2.cell 10), hb⟩)
  have HBA := Lib.hid hbA
  generalize tabL tbs ks xtb = T at *
  generalize Lib.itoa xtb = I at *
  generalize mthL xm = M at *
  have e1 : str T ++ (⟨#[35]⟩ : ByteArray) = str (T ++ [35]) := str_app30 T [35]
  have e2 : str (T ++ [35]) ++ str I = str (T ++ 35 :: I) := by rw [str_app30]; simp
  have o1 : ¬ 9223372036854775807 < (str T).size + 1 := by rw [str_size]; omega
  have o2 : ¬ 9223372036854775807 < (str (T ++ [35])).size + (str I).size := by rw [str_size, str_size, List.length_append]; simp only [List.length_cons, List.length_nil]; omega
  have HPL := Lib.hid hpl
  clear E hv B0 B1 B2 hbA hPT hTl hTi hix hjn htb hpl hzA
  by_cases h2 : xm = 2
  · rw [if_pos h2, if_pos (.inl h2)]
    have q2 : (xm == 2) = true := beq_iff_eq.2 h2
    clear h2
    go_enter Tryd.func21, Tryd.ntmps21
    go_wp2
    go_region_held3 (fun W => W.cell? ⟨w.heap.size, 0, none⟩ = some (.slice A n c) ∧ W.cell? ⟨w.heap.size, 1, none⟩ = some (.slice B m d) ∧ W.cell? ⟨w.heap.size + 1, 0, none⟩ = some (v0) ∧ W.cell? ⟨w.heap.size + 1, 1, none⟩ = some (.slice K kn kc) ∧ W.cell? ⟨w.heap.size + 1, 2, none⟩ = some (v2) ∧ W.cell? ⟨w.heap.size + 1, 3, none⟩ = some (v3) ∧ W.cell? ⟨w.heap.size + 1, 4, none⟩ = some (v4) ∧ W.cell? ⟨w.heap.size + 1, 5, none⟩ = some (v5) ∧ W.cell? ⟨w.heap.size + 1, 6, none⟩ = some (v6) ∧ W.cell? ⟨w.heap.size + 1, 7, none⟩ = some (v7) ∧ W.cell? ⟨w.heap.size + 1, 8, none⟩ = some (v8) ∧ W.cell? ⟨w.heap.size + 1, 9, none⟩ = some (v9) ∧ W.cell? ⟨w.heap.size + 1, 10, none⟩ = some (v10) ∧ W.cell? ⟨w.heap.size + 1 + 1, 0, none⟩ = some (.int .i64 xtb) ∧ W.cell? ⟨w.heap.size + 1 + 1, 1, none⟩ = some (.int .u8 xm) ∧ W.cell? ⟨w.heap.size + 1 + 1, 2, none⟩ = some (.int .u8 xpk) ∧ W.cell? ⟨w.heap.size + 1 + 1, 3, none⟩ = some (.int .i64 xpi) ∧ W.cell? ⟨w.heap.size + 1 + 1, 4, none⟩ = some (.slice rA rn rc) ∧ W.cell? ⟨w.heap.size + 1 + 1, 5, none⟩ = some (.slice cA cn cc) ∧ W.cell? ⟨w.heap.size + 1 + 1, 6, none⟩ = some (.int .i64 xpo) ∧ W.cell? ⟨w.heap.size + 1 + 1, 7, none⟩ = some (.slice aA an ac) ∧ W.cell? ⟨w.heap.size + 1 + 1, 8, none⟩ = some (.slice mA mn mc) ∧ W.cell? ⟨w.heap.size + 1 + 1, 9, none⟩ = some (.int .i64 xix) ∧ W.cell? ⟨w.heap.size + 1 + 1, 10, none⟩ = some (.int .i64 xjn) ∧ Below WA.heap.size WA W)
      (first | exact hS.out _ (by (with_reducible repeat (first | exact Below.refl _ _ | exact hb2 | exact hb1 | refine bto0 ?_ hb2 | refine bto0 ?_ hb1 | refine bdr ?_ _ | refine Below.drew ?_ | refine ball ?_ _))) | assumption)
      (first
        | (go_at_call 36; (with_reducible refine (HM.out _).mono ?_); rintro e w0 ⟨rfl, rfl⟩)
        | (go_at_call 37; (with_reducible refine (HTB.out _ (by (with_reducible repeat (first | exact Below.refl _ _ | exact hb2 | exact hb1 | refine bto0 ?_ hb2 | refine bto0 ?_ hb1 | refine bdr ?_ _ | refine Below.drew ?_ | refine ball ?_ _)))).mono ?_); rintro e w1 ⟨rfl, hb1⟩)
        | (go_at_call 38; (with_reducible refine (HT1.out _ (by (with_reducible repeat (first | exact Below.refl _ _ | exact hb2 | exact hb1 | refine bto0 ?_ hb2 | refine bto0 ?_ hb1 | refine bdr ?_ _ | refine Below.drew ?_ | refine ball ?_ _)))).mono ?_); rintro e w2 ⟨rfl, hb2⟩))
    clear e1 e2 o1 o2
    have hb2A : Below WA.heap.size WA w2 := by (with_reducible repeat (first | exact Below.refl _ _ | exact hb2 | exact hb1 | refine bto0 ?_ hb2 | refine bto0 ?_ hb1 | refine bdr ?_ _ | refine Below.drew ?_ | refine ball ?_ _))
    generalize hW1 : w2.alloc (Obj.cells #[Value.string (str M), Value.string (str (T ++ 35 :: I))] 9) = W1
    have hbA1 : Below WA.heap.size WA W1 := hW1 ▸ ball hb2A _
    have own1 : W1.ownsRow WA.heap.size 9 1 (.slice (some ⟨w2.heap.size, 0, none⟩) 2 2) 2 (vStr [M, T ++ 35 :: I]) := own_arr (hW1 ▸ Blk.new w2 _ _) hb2A.size rfl rfl (by decide)
    clear hW1 hb1 hb2 hb2A
    obtain ⟨f0, f1, f2, f3, f4, f5, f6, f7, f8, f9, f10, f11, f12, f13, f14, f15, f16, f17, f18, f19, f20, f21, f22, f23, -⟩ := hS.out W1 hbA1
    go_wp2_with fail
    refine (HIX.out _ hbA1).mono ?_
    rintro e w3 ⟨rfl, hb3⟩
    have hbA3 := bto0 hbA1 hb3
    have own3 := own_below own1 hb3
    have hz3 := hbA3.size
    clear own1 hb3 hbA1
    generalize idxL ixs xix = X at *
    go_wp2_with (at_builtin; go_loud (refine wpList_pushX (news := [.string (str X)]) rfl _ _ 28 rfl WA.heap.size 9 i0 _ 1 16 Tryd.underlying28 hi0 hz0 hs0 hy0 rfl (by decide) (.slice (some ⟨w2.heap.size, 0, none⟩) 2 2) 2 _ rfl own3 rfl _ rfl rfl rfl (by intro u hu; rw [List.mem_singleton] at hu; subst hu; rfl) (by omega) (by omega) hz3 ?_); intro v4 w4 own4' hg4; have hbA4 : Below WA.heap.size WA w4 := belowX_grown own3 (Nat.le_refl _) hz3 hg4 hbA3; have own4 : w4.ownsRow WA.heap.size 9 1 v4 3 (vStr [M, T ++ 35 :: I, X]) := own4'; clear own4' own3 hg4 hbA3; clear f0 f1 f2 f3 f4 f5 f6 f7 f8 f9 f10 f11 f12 f13 f14 f15 f16 f17 f18 f19 f20 f21 f22 f23; obtain ⟨g0, g1, g2, g3, g4, g5, g6, g7, g8, g9, g10, g11, g12, g13, g14, g15, g16, g17, g18, g19, g20, g21, g22, g23, -⟩ := hS.out w4 hbA4)
    have hz4 := hbA4.size
    refine (HT2.out _ hbA4).mono ?_
    rintro e w5 ⟨rfl, hb5⟩
    have hbA5 := bto0 hbA4 hb5
    have own5 := own_below own4 hb5
    obtain ⟨A4, c4, e4, hc4⟩ := own_form own5
    subst e4
    have hz5 := hbA5.size
    clear own4 hb5 hz4
    generalize Lib.itoa xjn = J at *
    have hr5 : Reads (w5.alloc (.cells #[.string ⟨#[111, 110]⟩, .string (str J)] 9)) (w5.heap.size + 1) 1 (some ⟨w5.heap.size, 0, none⟩) 2 (vStr [[111, 110], J]) := reads_new w5 _ _ rfl rfl
    go_wp2_with (at_builtin; go_loud (refine wpList_append_any _ rfl _ _ 28 rfl WA.heap.size 9 i0 (.string ⟨#[]⟩) 1 16 Tryd.underlying28 hi0 hz0 hs0 hy0 rfl (by decide) (.slice A4 (3) c4) (3) (vStr ([M, T ++ 35 :: I, X])) rfl (own5.alloc _) _ _ 2 2 (vStr [[111, 110], J]) rfl hr5 (vStr_one _) (by unfold maxLen; have := HPL.out; omega) (by have := HPL.out; omega) (by simp; omega) ?_); intro v6 w6 own6 hg6 _)
    have hbA6 : Below WA.heap.size WA w6 := bgrow (ball hbA5 _) hg6 (own5.alloc _) (Nat.le_refl _) (by simp; omega)
    rw [← vStr_app] at own6
    obtain ⟨A6, c6, rfl, hc6⟩ := own_form own6
    have hr6 := Reads.of_own own6
    have ha6 := own_addr own6
    clear own5 own6 hg6 hr5
    have hL : ([M, T ++ 35 :: I, X] ++ [[111, 110], J]).length = 3 + 2 := by simp only [List.length_append, List.length_cons, List.length_nil] <;> omega
    go_wp2
    go_ret
    exact (show RetW ([M, T ++ 35 :: I, X] ++ [[111, 110], J]) w _ _ from ⟨A6, c6, by rw [hL]; rfl, by rw [hL]; exact hr6, by rw [hL]; exact hc6, bto0 HBA.out hbA6, ha6⟩)
  · rw [if_neg h2]
    have q2 : (xm == 2) = false := beq_eq_false_iff_ne.2 h2
    by_cases h3 : xm = 3
    · rw [if_pos (.inr h3)]
      have q3 : (xm == 3) = true := beq_iff_eq.2 h3
      clear h2 h3
      go_enter Tryd.func21, Tryd.ntmps21
      go_wp2
      go_region_held3 (fun W => W.cell? ⟨w.heap.size, 0, none⟩ = some (.slice A n c) ∧ W.cell? ⟨w.heap.size, 1, none⟩ = some (.slice B m d) ∧ W.cell? ⟨w.heap.size + 1, 0, none⟩ = some (v0) ∧ W.cell? ⟨w.heap.size + 1, 1, none⟩ = some (.slice K kn kc) ∧ W.cell? ⟨w.heap.size + 1, 2, none⟩ = some (v2) ∧ W.cell? ⟨w.heap.size + 1, 3, none⟩ = some (v3) ∧ W.cell? ⟨w.heap.size + 1, 4, none⟩ = some (v4) ∧ W.cell? ⟨w.heap.size + 1, 5, none⟩ = some (v5) ∧ W.cell? ⟨w.heap.size + 1, 6, none⟩ = some (v6) ∧ W.cell? ⟨w.heap.size + 1, 7, none⟩ = some (v7) ∧ W.cell? ⟨w.heap.size + 1, 8, none⟩ = some (v8) ∧ W.cell? ⟨w.heap.size + 1, 9, none⟩ = some (v9) ∧ W.cell? ⟨w.heap.size + 1, 10, none⟩ = some (v10) ∧ W.cell? ⟨w.heap.size + 1 + 1, 0, none⟩ = some (.int .i64 xtb) ∧ W.cell? ⟨w.heap.size + 1 + 1, 1, none⟩ = some (.int .u8 xm) ∧ W.cell? ⟨w.heap.size + 1 + 1, 2, none⟩ = some (.int .u8 xpk) ∧ W.cell? ⟨w.heap.size + 1 + 1, 3, none⟩ = some (.int .i64 xpi) ∧ W.cell? ⟨w.heap.size + 1 + 1, 4, none⟩ = some (.slice rA rn rc) ∧ W.cell? ⟨w.heap.size + 1 + 1, 5, none⟩ = some (.slice cA cn cc) ∧ W.cell? ⟨w.heap.size + 1 + 1, 6, none⟩ = some (.int .i64 xpo) ∧ W.cell? ⟨w.heap.size + 1 + 1, 7, none⟩ = some (.slice aA an ac) ∧ W.cell? ⟨w.heap.size + 1 + 1, 8, none⟩ = some (.slice mA mn mc) ∧ W.cell? ⟨w.heap.size + 1 + 1, 9, none⟩ = some (.int .i64 xix) ∧ W.cell? ⟨w.heap.size + 1 + 1, 10, none⟩ = some (.int .i64 xjn) ∧ Below WA.heap.size WA W)
        (first | exact hS.out _ (by (with_reducible repeat (first | exact Below.refl _ _ | exact hb2 | exact hb1 | refine bto0 ?_ hb2 | refine bto0 ?_ hb1 | refine bdr ?_ _ | refine Below.drew ?_ | refine ball ?_ _))) | assumption)
        (first
          | (go_at_call 36; (with_reducible refine (HM.out _).mono ?_); rintro e w0 ⟨rfl, rfl⟩)
          | (go_at_call 37; (with_reducible refine (HTB.out _ (by (with_reducible repeat (first | exact Below.refl _ _ | exact hb2 | exact hb1 | refine bto0 ?_ hb2 | refine bto0 ?_ hb1 | refine bdr ?_ _ | refine Below.drew ?_ | refine ball ?_ _)))).mono ?_); rintro e w1 ⟨rfl, hb1⟩)
          | (go_at_call 38; (with_reducible refine (HT1.out _ (by (with_reducible repeat (first | exact Below.refl _ _ | exact hb2 | exact hb1 | refine bto0 ?_ hb2 | refine bto0 ?_ hb1 | refine bdr ?_ _ | refine Below.drew ?_ | refine ball ?_ _)))).mono ?_); rintro e w2 ⟨rfl, hb2⟩))
      clear e1 e2 o1 o2
      have hb2A : Below WA.heap.size WA w2 := by (with_reducible repeat (first | exact Below.refl _ _ | exact hb2 | exact hb1 | refine bto0 ?_ hb2 | refine bto0 ?_ hb1 | refine bdr ?_ _ | refine Below.drew ?_ | refine ball ?_ _))
      generalize hW1 : w2.alloc (Obj.cells #[Value.string (str M), Value.string (str (T ++ 35 :: I))] 9) = W1
      have hbA1 : Below WA.heap.size WA W1 := hW1 ▸ ball hb2A _
      have own1 : W1.ownsRow WA.heap.size 9 1 (.slice (some ⟨w2.heap.size, 0, none⟩) 2 2) 2 (vStr [M, T ++ 35 :: I]) := own_arr (hW1 ▸ Blk.new w2 _ _) hb2A.size rfl rfl (by decide)
      clear hW1 hb1 hb2 hb2A
      obtain ⟨f0, f1, f2, f3, f4, f5, f6, f7, f8, f9, f10, f11, f12, f13, f14, f15, f16, f17, f18, f19, f20, f21, f22, f23, -⟩ := hS.out W1 hbA1
      go_wp2_with fail
      refine (HPT.out _ hbA1).mono ?_
      rintro e w3 ⟨A3, c3, rfl, hr3, hc3, hb3, -⟩
      have hbA3 := bto0 hbA1 hb3
      have own3 := own_below own1 hb3
      have hz3 := hbA3.size
      clear own1 hb3 hbA1
      go_wp2_with (at_builtin; go_loud (refine wpList_append_any _ rfl _ _ 28 rfl WA.heap.size 9 i0 (.string ⟨#[]⟩) 1 16 Tryd.underlying28 hi0 hz0 hs0 hy0 rfl (by decide) (.slice (some ⟨w2.heap.size, 0, none⟩) 2 2) 2 (vStr [M, T ++ 35 :: I]) rfl own3 _ _ PW.length c3 (vStr PW) rfl hr3 (vStr_one _) (by unfold maxLen; have := HPL.out; omega) (by have := HPL.out; omega) hz3 ?_); intro v4 w4 own4' hg4 _; have hbA4 : Below WA.heap.size WA w4 := bgrow hbA3 hg4 own3 (Nat.le_refl _) hz3; have own4 : w4.ownsRow WA.heap.size 9 1 v4 (2 + PW.length) (vStr ([M, T ++ 35 :: I] ++ PW)) := (by rw [vStr_app]; exact own4'); clear own4' own3 hg4 hbA3 hr3; clear f0 f1 f2 f3 f4 f5 f6 f7 f8 f9 f10 f11 f12 f13 f14 f15 f16 f17 f18 f19 f20 f21 f22 f23; obtain ⟨g0, g1, g2, g3, g4, g5, g6, g7, g8, g9, g10, g11, g12, g13, g14, g15, g16, g17, g18, g19, g20, g21, g22, g23, -⟩ := hS.out w4 hbA4)
      have hz4 := hbA4.size
      refine (HT2.out _ hbA4).mono ?_
      rintro e w5 ⟨rfl, hb5⟩
      have hbA5 := bto0 hbA4 hb5
      have own5 := own_below own4 hb5
      obtain ⟨A4, c4, e4, hc4⟩ := own_form own5
      subst e4
      have hz5 := hbA5.size
      clear own4 hb5 hz4
      generalize Lib.itoa xjn = J at *
      have hr5 : Reads (w5.alloc (.cells #[.string ⟨#[111, 110]⟩, .string (str J)] 9)) (w5.heap.size + 1) 1 (some ⟨w5.heap.size, 0, none⟩) 2 (vStr [[111, 110], J]) := reads_new w5 _ _ rfl rfl
      go_wp2_with (at_builtin; go_loud (refine wpList_append_any _ rfl _ _ 28 rfl WA.heap.size 9 i0 (.string ⟨#[]⟩) 1 16 Tryd.underlying28 hi0 hz0 hs0 hy0 rfl (by decide) (.slice A4 (2 + PW.length) c4) (2 + PW.length) (vStr ([M, T ++ 35 :: I] ++ PW)) rfl (own5.alloc _) _ _ 2 2 (vStr [[111, 110], J]) rfl hr5 (vStr_one _) (by unfold maxLen; have := HPL.out; omega) (by have := HPL.out; omega) (by simp; omega) ?_); intro v6 w6 own6 hg6 _)
      have hbA6 : Below WA.heap.size WA w6 := bgrow (ball hbA5 _) hg6 (own5.alloc _) (Nat.le_refl _) (by simp; omega)
      rw [← vStr_app] at own6
      obtain ⟨A6, c6, rfl, hc6⟩ := own_form own6
      have hr6 := Reads.of_own own6
      have ha6 := own_addr own6
      clear own5 own6 hg6 hr5
      have hL : ([M, T ++ 35 :: I] ++ PW ++ [[111, 110], J]).length = 2 + PW.length + 2 := by simp only [List.length_append, List.length_cons, List.length_nil] <;> omega
      go_wp2
      go_ret
      exact (show RetW ([M, T ++ 35 :: I] ++ PW ++ [[111, 110], J]) w _ _ from ⟨A6, c6, by rw [hL]; rfl, by rw [hL]; exact hr6, by rw [hL]; exact hc6, bto0 HBA.out hbA6, ha6⟩)
    · rw [if_neg (fun h => h.elim h2 h3), List.append_nil]
      have q3 : (xm == 3) = false := beq_eq_false_iff_ne.2 h3
      clear h2 h3
      go_enter Tryd.func21, Tryd.ntmps21
      go_wp2
      go_region_held3 (fun W => W.cell? ⟨w.heap.size, 0, none⟩ = some (.slice A n c) ∧ W.cell? ⟨w.heap.size, 1, none⟩ = some (.slice B m d) ∧ W.cell? ⟨w.heap.size + 1, 0, none⟩ = some (v0) ∧ W.cell? ⟨w.heap.size + 1, 1, none⟩ = some (.slice K kn kc) ∧ W.cell? ⟨w.heap.size + 1, 2, none⟩ = some (v2) ∧ W.cell? ⟨w.heap.size + 1, 3, none⟩ = some (v3) ∧ W.cell? ⟨w.heap.size + 1, 4, none⟩ = some (v4) ∧ W.cell? ⟨w.heap.size + 1, 5, none⟩ = some (v5) ∧ W.cell? ⟨w.heap.size + 1, 6, none⟩ = some (v6) ∧ W.cell? ⟨w.heap.size + 1, 7, none⟩ = some (v7) ∧ W.cell? ⟨w.heap.size + 1, 8, none⟩ = some (v8) ∧ W.cell? ⟨w.heap.size + 1, 9, none⟩ = some (v9) ∧ W.cell? ⟨w.heap.size + 1, 10, none⟩ = some (v10) ∧ W.cell? ⟨w.heap.size + 1 + 1, 0, none⟩ = some (.int .i64 xtb) ∧ W.cell? ⟨w.heap.size + 1 + 1, 1, none⟩ = some (.int .u8 xm) ∧ W.cell? ⟨w.heap.size + 1 + 1, 2, none⟩ = some (.int .u8 xpk) ∧ W.cell? ⟨w.heap.size + 1 + 1, 3, none⟩ = some (.int .i64 xpi) ∧ W.cell? ⟨w.heap.size + 1 + 1, 4, none⟩ = some (.slice rA rn rc) ∧ W.cell? ⟨w.heap.size + 1 + 1, 5, none⟩ = some (.slice cA cn cc) ∧ W.cell? ⟨w.heap.size + 1 + 1, 6, none⟩ = some (.int .i64 xpo) ∧ W.cell? ⟨w.heap.size + 1 + 1, 7, none⟩ = some (.slice aA an ac) ∧ W.cell? ⟨w.heap.size + 1 + 1, 8, none⟩ = some (.slice mA mn mc) ∧ W.cell? ⟨w.heap.size + 1 + 1, 9, none⟩ = some (.int .i64 xix) ∧ W.cell? ⟨w.heap.size + 1 + 1, 10, none⟩ = some (.int .i64 xjn) ∧ Below WA.heap.size WA W)
        (first | exact hS.out _ (by (with_reducible repeat (first | exact Below.refl _ _ | exact hb2 | exact hb1 | refine bto0 ?_ hb2 | refine bto0 ?_ hb1 | refine bdr ?_ _ | refine Below.drew ?_ | refine ball ?_ _))) | assumption)
        (first
          | (go_at_call 36; (with_reducible refine (HM.out _).mono ?_); rintro e w0 ⟨rfl, rfl⟩)
          | (go_at_call 37; (with_reducible refine (HTB.out _ (by (with_reducible repeat (first | exact Below.refl _ _ | exact hb2 | exact hb1 | refine bto0 ?_ hb2 | refine bto0 ?_ hb1 | refine bdr ?_ _ | refine Below.drew ?_ | refine ball ?_ _)))).mono ?_); rintro e w1 ⟨rfl, hb1⟩)
          | (go_at_call 38; (with_reducible refine (HT1.out _ (by (with_reducible repeat (first | exact Below.refl _ _ | exact hb2 | exact hb1 | refine bto0 ?_ hb2 | refine bto0 ?_ hb1 | refine bdr ?_ _ | refine Below.drew ?_ | refine ball ?_ _)))).mono ?_); rintro e w2 ⟨rfl, hb2⟩))
      clear e1 e2 o1 o2
      have hb2A : Below WA.heap.size WA w2 := by (with_reducible repeat (first | exact Below.refl _ _ | exact hb2 | exact hb1 | refine bto0 ?_ hb2 | refine bto0 ?_ hb1 | refine bdr ?_ _ | refine Below.drew ?_ | refine ball ?_ _))
      generalize hW1 : w2.alloc (Obj.cells #[Value.string (str M), Value.string (str (T ++ 35 :: I))] 9) = W1
      have hbA1 : Below WA.heap.size WA W1 := hW1 ▸ ball hb2A _
      have own1 : W1.ownsRow WA.heap.size 9 1 (.slice (some ⟨w2.heap.size, 0, none⟩) 2 2) 2 (vStr [M, T ++ 35 :: I]) := own_arr (hW1 ▸ Blk.new w2 _ _) hb2A.size rfl rfl (by decide)
      clear hW1 hb1 hb2 hb2A
      obtain ⟨f0, f1, f2, f3, f4, f5, f6, f7, f8, f9, f10, f11, f12, f13, f14, f15, f16, f17, f18, f19, f20, f21, f22, f23, -⟩ := hS.out W1 hbA1
      go_wp2_with fail
      refine (HPT.out _ hbA1).mono ?_
      rintro e w3 ⟨A3, c3, rfl, hr3, hc3, hb3, -⟩
      have hbA3 := bto0 hbA1 hb3
      have own3 := own_below own1 hb3
      have hz3 := hbA3.size
      clear own1 hb3 hbA1
      go_wp2_with (at_builtin; go_loud (refine wpList_append_any _ rfl _ _ 28 rfl WA.heap.size 9 i0 (.string ⟨#[]⟩) 1 16 Tryd.underlying28 hi0 hz0 hs0 hy0 rfl (by decide) (.slice (some ⟨w2.heap.size, 0, none⟩) 2 2) 2 (vStr [M, T ++ 35 :: I]) rfl own3 _ _ PW.length c3 (vStr PW) rfl hr3 (vStr_one _) (by unfold maxLen; have := HPL.out; omega) (by have := HPL.out; omega) hz3 ?_); intro v4 w4 own4' hg4 _; have hbA4 : Below WA.heap.size WA w4 := bgrow hbA3 hg4 own3 (Nat.le_refl _) hz3; have own4 : w4.ownsRow WA.heap.size 9 1 v4 (2 + PW.length) (vStr ([M, T ++ 35 :: I] ++ PW)) := (by rw [vStr_app]; exact own4'); clear own4' own3 hg4 hbA3 hr3; clear f0 f1 f2 f3 f4 f5 f6 f7 f8 f9 f10 f11 f12 f13 f14 f15 f16 f17 f18 f19 f20 f21 f22 f23; obtain ⟨g0, g1, g2, g3, g4, g5, g6, g7, g8, g9, g10, g11, g12, g13, g14, g15, g16, g17, g18, g19, g20, g21, g22, g23, -⟩ := hS.out w4 hbA4; obtain ⟨A4, c4, rfl, hc4⟩ := own_form own4; have hr4 := Reads.of_own own4; have ha4 := own_addr own4; clear own4)
      go_ret
      have hL : ([M, T ++ 35 :: I] ++ PW).length = 2 + PW.length := by simp only [List.length_append, List.length_cons, List.length_nil] <;> omega
      exact (show RetW ([M, T ++ 35 :: I] ++ PW) w _ _ from ⟨A4, c4, by rw [hL]; rfl, by rw [hL]; exact hr4, by rw [hL]; exact hc4, bto0 HBA.out hbA4, ha4⟩)
end
end Go.Proofs.YtblpflobpffjnaaDoor
