/-
  Several texts in one: Iq Ii.
-/
import Derived.Test.YtflolnilagogpaaMgk
import Derived.Test.YtflolnilagogpaaMgh
/-
  The program's mayIndex.
-/
namespace Go.Proofs.Ytflolnilagogpaa
section
set_option linter.unusedSimpArgs false
set_option linter.unusedVariables false
open Go.RowKit

theorem mayX_iff {ts : List PT} {x : PX} {t : PT} (ht : ts[x.tb.toNat]? = some t) : MayX ts x ↔ nameB x.nm = true ∧ (0 ≤ x.tb ∧ x.tb < ts.length) ∧ (1 ≤ x.cs.length ∧ x.cs.length ≤ 2) ∧ (∀ z ∈ x.cs, lowB t.cols.length z = true) ∧ Apart x.cs x.cs.length ∧ x.ds.length = x.cs.length ∧ (∀ z ∈ x.ds, num31 z = true) ∧ (num31 x.root = true ∧ num31 x.lv = true ∧ num31 x.hi = true) := by
  have lowI : ∀ (N : Nat) (z : Int), lowB N z = true ↔ 0 ≤ z ∧ z < (N : Int) := fun N z => by simp [lowB]
  constructor
  · intro h
    obtain ⟨h1, h2, h3, h4, h5, h6, h7, h8, h9⟩ := h
    refine ⟨h1, ⟨h2, h3⟩, ⟨h4, h5⟩, fun z hz => ?_, ?_, h6, fun z hz => ?_, h9⟩
    · obtain ⟨i, hi, he⟩ := List.mem_iff_getElem.1 hz
      have h10 := (h7 t ht i z _ (by rw [List.getElem?_eq_getElem hi, he]) (List.getElem?_eq_getElem (show i < x.ds.length by omega))).1
      exact (lowI _ _).2 h10
    · intro i hi a ha k hk b hb hab
      subst hab
      obtain ⟨p, q, hpq⟩ := two_of (show x.cs.length = 2 by omega)
      rw [hpq] at ha hb hi
      simp only [List.length_cons, List.length_nil] at hi
      obtain rfl : i = 1 := by omega
      obtain rfl : k = 0 := by omega
      simp at ha hb
      exact h8 p q hpq (by rw [hb, ha])
    · obtain ⟨i, hi, he⟩ := List.mem_iff_getElem.1 hz
      exact (h7 t ht i _ z (List.getElem?_eq_getElem (show i < x.cs.length by omega)) (by rw [List.getElem?_eq_getElem hi, he])).2
  · rintro ⟨h1, ⟨h2, h3⟩, ⟨h4, h5⟩, h6, h7, h8, h9, h10⟩
    refine ⟨h1, h2, h3, h4, h5, h8, fun t' ht' i c d hc hd => ?_, fun c d hcd => ?_, h10⟩
    · rw [ht] at ht'
      cases ht'
      exact ⟨(lowI _ _).1 (h6 c (List.mem_of_getElem? hc)), h9 d (List.mem_of_getElem? hd)⟩
    · exact h7 1 (by rw [hcd]; simp) d (by rw [hcd]; rfl) 0 (by omega) c (by rw [hcd]; rfl)
theorem mk_below2 (n : Nat) (w : World) : Calls Try.prog 43 #[.int .i64 (n : Int)] w fun e w' => ∃ g, e = .returned (.func (.func 56) #[] #[.pointer (some ⟨g, 0, none⟩)]) ∧ g < w'.heap.size ∧ w'.cell? ⟨g, 0, none⟩ = some (.int .i64 (n : Int)) ∧ Below w.heap.size w w' :=
  (mk_below n w).mono fun e w' h => by
    obtain ⟨he, rfl⟩ := h
    have B := Blk.new w 3 #[.int .i64 (n : Int)]
    exact ⟨_, he, B.lt, B.cell 0, ball (Below.refl _ _) _⟩
set_option maxRecDepth 100000 in
set_option maxHeartbeats 8000000 in
theorem mayIndex_any (A : Option Addr) (n c : Nat) (l : List Tb) (B : Option Addr) (m d : Nat) (x : Ix) (w : World) (hr : Reads w w.heap.size 5 A n (vTb l)) (hl : ∀ t ∈ l, TbOk w w.heap.size t) (hnx : n ≤ maxLen) (hx : IxIn w w.heap.size x) :
    Calls Try.prog 22 #[.agg #[.slice A n c, .slice B m d], x.agg] w (RetM w (MayX (l.map Tb.pt) x.px)) := by
  have hln : l.length = n := by have := hr.1; rw [vTb_len] at this; omega
  have hlp : (l.map Tb.pt).length = n := by rw [List.length_map]; exact hln
  obtain ⟨⟨z0, z1, z2⟩, hc, hd, hro⟩ := hx
  obtain ⟨nm, tb, XA, xn, xc, root, lv, hi, XB, xm, xe, cs, ds⟩ := x
  simp only at z0 z1 z2 hc hd hro
  have hcl : cs.length = xn := by have := hc.1; rw [vI64_len] at this; omega
  have hdl : ds.length = xm := by have := hd.1; rw [vI64_len] at this; omega
  have hxn : xn ≤ maxLen := Nat.le_trans z1.1 z1.2
  have hxm : xm ≤ maxLen := Nat.le_trans z2.1 z2.2
  have hxc : xn ≤ xc := z1.1
  unfold maxLen at hnx z1 z2
  have nI : (n : Int) ≤ 9223372036854775807 := by omega
  have xnI : (xn : Int) ≤ 9223372036854775807 := by omega
  have xmI : (xm : Int) ≤ 9223372036854775807 := by omega
  have wro : IntKind.i64.wrap root = root := Go.IntWalk.i64_in _ ⟨by omega, by omega⟩
  have HZ := Lib.hid z0
  have HC := Lib.hid (And.intro hr (And.intro hl (And.intro hln (And.intro hlp (And.intro hc (And.intro hd (And.intro hcl (And.intro hdl (And.intro hxn (And.intro hxm hxc))))))))))
  have HB0 : Hid (Below w.heap.size w ((w.alloc (.cells #[.slice A n c, .slice B m d] 25)).alloc (.cells #[.string nm, .int .i64 tb, .slice XA xn xc, .int .u32 root, .int .i64 lv, .int .i64 hi, .slice XB xm xe] 49)) ∧ Blk ((w.alloc (.cells #[.slice A n c, .slice B m d] 25)).alloc (.cells #[.string nm, .int .i64 tb, .slice XA xn xc, .int .u32 root, .int .i64 lv, .int .i64 hi, .slice XB xm xe] 49)) w.heap.size 25 #[.slice A n c, .slice B m d] ∧ Blk ((w.alloc (.cells #[.slice A n c, .slice B m d] 25)).alloc (.cells #[.string nm, .int .i64 tb, .slice XA xn xc, .int .u32 root, .int .i64 lv, .int .i64 hi, .slice XB xm xe] 49)) (w.heap.size + 1) 49 #[.string nm, .int .i64 tb, .slice XA xn xc, .int .u32 root, .int .i64 lv, .int .i64 hi, .slice XB xm xe]) := Lib.hid ⟨ball (ball (Below.refl _ _) _) _, (Blk.new _ _ _).alloc _, newAtI (by simp)⟩
  clear hr hl hnx z0 z1 z2 hc hd hln hlp hcl hdl hxn hxm hxc
  obtain ⟨bn, hbn⟩ : ∃ b, nameB nm.data.toList = b := ⟨_, rfl⟩
  have NM : Hid (∀ W : World, Calls Try.prog 9 #[.string nm] W fun e w' => e = .returned (.bool bn) ∧ w' = W) := Lib.hid fun W => by have h := name2_any nm HZ.out W; rw [hbn] at h; exact h.mono fun e w' h => ⟨h.1, h.2.symm⟩
  have HN := Lib.hid hbn
  clear hbn
  cases bn with
  | false =>
    go_enter Try.func22, Try.ntmps22
    go_wp2
    go_quiet ((go_at_call 9; with_reducible exact Calls.quiet_of_same (NM.out _)))
    go_wp2
    go_ret
    exact ⟨false, rfl, ⟨fun h => (by cases h), fun h => (by have h1 := h.1; change nameB nm.data.toList = true at h1; rw [HN.out] at h1; cases h1)⟩, bdr HB0.out.1 _⟩
  | true =>
    have MB := Lib.hid fun (W : World) => mk_below2 n W
    have hS : Hid (∀ W, Below ((w.alloc (.cells #[.slice A n c, .slice B m d] 25)).alloc (.cells #[.string nm, .int .i64 tb, .slice XA xn xc, .int .u32 root, .int .i64 lv, .int .i64 hi, .slice XB xm xe] 49)).heap.size ((w.alloc (.cells #[.slice A n c, .slice B m d] 25)).alloc (.cells #[.string nm, .int .i64 tb, .slice XA xn xc, .int .u32 root, .int .i64 lv, .int .i64 hi, .slice XB xm xe] 49)) W → W.cell? ⟨w.heap.size, 0, none⟩ = some (.slice A n c) ∧ W.cell? ⟨w.heap.size + 1, 0, none⟩ = some (.string nm) ∧ W.cell? ⟨w.heap.size + 1, 1, none⟩ = some (.int .i64 tb) ∧ Below ((w.alloc (.cells #[.slice A n c, .slice B m d] 25)).alloc (.cells #[.string nm, .int .i64 tb, .slice XA xn xc, .int .u32 root, .int .i64 lv, .int .i64 hi, .slice XB xm xe] 49)).heap.size ((w.alloc (.cells #[.slice A n c, .slice B m d] 25)).alloc (.cells #[.string nm, .int .i64 tb, .slice XA xn xc, .int .u32 root, .int .i64 lv, .int .i64 hi, .slice XB xm xe] 49)) W) := Lib.hid fun W hW => by
      have P := HB0.out.2.1.below hW HB0.out.2.1.lt
      have Q := HB0.out.2.2.below hW HB0.out.2.2.lt
      exact ⟨P.cell 0, Q.cell 0, Q.cell 1, hW⟩
    obtain ⟨bl, hbl⟩ : ∃ b, lowB n tb = b := ⟨_, rfl⟩
    have HBL := Lib.hid hbl
    go_enter Try.func22, Try.ntmps22
    go_wp2_with fail
    go_region_held3 (fun W => W.cell? ⟨w.heap.size, 0, none⟩ = some (.slice A n c) ∧ W.cell? ⟨w.heap.size + 1, 0, none⟩ = some (.string nm) ∧ W.cell? ⟨w.heap.size + 1, 1, none⟩ = some (.int .i64 tb) ∧ Below ((w.alloc (.cells #[.slice A n c, .slice B m d] 25)).alloc (.cells #[.string nm, .int .i64 tb, .slice XA xn xc, .int .u32 root, .int .i64 lv, .int .i64 hi, .slice XB xm xe] 49)).heap.size ((w.alloc (.cells #[.slice A n c, .slice B m d] 25)).alloc (.cells #[.string nm, .int .i64 tb, .slice XA xn xc, .int .u32 root, .int .i64 lv, .int .i64 hi, .slice XB xm xe] 49)) W)
      (first | exact hS.out _ (by with_reducible repeat (first | exact Below.refl _ _ | exact hb2 | refine bto0 ?_ hb2 | refine Below.drew ?_ | refine bdr ?_ _ | refine ball ?_ _)) | assumption)
      (first
        | (go_at_call 9; (with_reducible refine (NM.out _).mono ?_); rintro e w1 ⟨rfl, hw1⟩; subst hw1)
        | (go_at_call 43; (with_reducible refine (MB.out _).mono ?_); rintro e w2 ⟨g, rfl, hg, hgc, hb2⟩; have BC : Hid (∀ W : World, Below w2.heap.size w2 W → Calls Try.prog 56 #[.int .i64 tb, .pointer (some ⟨g, 0, none⟩)] W fun e w' => e = .returned (.bool bl) ∧ w' = W) := Lib.hid fun W hW => by (have h := below_any n g tb W ((hW.cell (p := ⟨g, 0, none⟩) hg).trans hgc); rw [HBL.out] at h; exact h.mono fun e w' h => ⟨h.1, h.2.symm⟩))
        | (go_at_call 56; (with_reducible refine (BC.out _ (by with_reducible repeat (first | exact Below.refl _ _ | refine Below.drew ?_ | refine bdr ?_ _))).mono ?_); rintro e w3 ⟨rfl, hw3⟩; subst hw3))
    have bX : Below ((w.alloc (.cells #[.slice A n c, .slice B m d] 25)).alloc (.cells #[.string nm, .int .i64 tb, .slice XA xn xc, .int .u32 root, .int .i64 lv, .int .i64 hi, .slice XB xm xe] 49)).heap.size ((w.alloc (.cells #[.slice A n c, .slice B m d] 25)).alloc (.cells #[.string nm, .int .i64 tb, .slice XA xn xc, .int .u32 root, .int .i64 lv, .int .i64 hi, .slice XB xm xe] 49)) w3 := (by with_reducible repeat (first | exact Below.refl _ _ | exact hb2 | refine bto0 ?_ hb2 | refine Below.drew ?_ | refine bdr ?_ _ | refine ball ?_ _))
    have P3 := HB0.out.2.1.below bX HB0.out.2.1.lt
    have Q3 := HB0.out.2.2.below bX HB0.out.2.2.lt
    have H3 : Hid (Below w.heap.size w w3 ∧ Blk w3 w.heap.size 25 #[.slice A n c, .slice B m d] ∧ Blk w3 (w.heap.size + 1) 49 #[.string nm, .int .i64 tb, .slice XA xn xc, .int .u32 root, .int .i64 lv, .int .i64 hi, .slice XB xm xe]) := Lib.hid ⟨bto0 HB0.out.1 bX, P3, Q3⟩
    have lowI : ∀ (N : Nat) (z : Int), lowB N z = true ↔ 0 ≤ z ∧ z < (N : Int) := fun N z => by simp [lowB]
    cases bl with
    | false =>
      have LO := Lib.hid (lowI n tb)
      clear P3 Q3 bX hS BC hbl lowI
      go_wp2
      go_ret
      exact ⟨false, rfl, ⟨fun h => (by cases h), fun h => (by
        have h1 : 0 ≤ tb := h.2.1
        have h2 : tb < ((l.map Tb.pt).length : Int) := h.2.2.1
        rw [HC.out.2.2.2.1] at h2
        have h3 := LO.out.2 ⟨h1, h2⟩
        rw [HBL.out] at h3
        cases h3)⟩, H3.out.1⟩
    | true =>
      have htb := (lowI n tb).1 hbl
      obtain ⟨tk, rfl⟩ : ∃ tk : Nat, tb = tk := ⟨tb.toNat, by omega⟩
      have tkl : tk < n := by omega
      have tk0 : (0 : Int) ≤ (tk : Int) := by omega
      have tk1 : (tk : Int) < (n : Int) := by omega
      obtain ⟨ta, t, htA, htab, ht, e0, e1, e2, e3, e4⟩ := (HC.out.1.below H3.out.1).tb_ tkl
      have htl : t.pt.cols.length = t.n := by have := (HC.out.2.1 t (List.mem_of_getElem? ht)).1.2.2.1.1; rw [vC_len] at this; show (t.cols.map Cl.pc).length = _; rw [List.length_map]; omega
      have htn : (t.n : Int) ≤ 9223372036854775807 := by have h0 := (HC.out.2.1 t (List.mem_of_getElem? ht)).1.2.1; have h1 := h0.1; have h2 := h0.2; unfold maxLen at h2; omega
      have hpt : (l.map Tb.pt)[((tk : Nat) : Int).toNat]? = some t.pt := by rw [Int.toNat_natCast, List.getElem?_map, ht]; rfl
      have IFF : Hid (MayX (l.map Tb.pt) ⟨nm.data.toList, (tk : Int), cs, root, lv, hi, ds⟩ ↔ (1 ≤ xn ∧ xn ≤ 2) ∧ (∀ z ∈ cs, lowB t.n z = true) ∧ Apart cs xn ∧ xm = xn ∧ (∀ z ∈ ds, num31 z = true) ∧ (num31 root = true ∧ num31 lv = true ∧ num31 hi = true)) := Lib.hid (by
        have h := mayX_iff (ts := l.map Tb.pt) (x := ⟨nm.data.toList, (tk : Int), cs, root, lv, hi, ds⟩) (t := t.pt) hpt
        rw [h, htl, HC.out.2.2.2.1]
        simp only [HC.out.2.2.2.2.2.2.1, HC.out.2.2.2.2.2.2.2.1, HN.out, true_and]
        constructor
        · rintro ⟨_, h⟩; exact h
        · intro h; exact ⟨⟨by omega, by omega⟩, h⟩)
      have b0 : w3.cell? ⟨w.heap.size, 0, none⟩ = some (.slice A n c) := P3.cell 0
      have b1 : w3.cell? ⟨w.heap.size + 1, 1, none⟩ = some (.int .i64 tk) := Q3.cell 1
      have plt := P3.lt
      have qlt := Q3.lt
      have M2 := Lib.hid fun (W : World) => mk_below2 t.n W
      subst htA
      clear P3 Q3 bX hS BC hbl lowI htl hpt ht htb e0 e2 e3 e4 MB
      go_wp2_with fail
      refine (M2.out _).mono ?_
      rintro e w4 ⟨g2, rfl, hg2, hgc2, hb4⟩
      have P4 := H3.out.2.1.below hb4 plt
      have Q4 := H3.out.2.2.below hb4 qlt
      have bw4 := bto0 H3.out.1 hb4
      have AC : Hid (∀ W, Below w4.heap.size w4 W → Calls Try.prog 40 #[.func (.func 56) #[] #[.pointer (some ⟨g2, 0, none⟩)], .slice XA xn xc] W (RetM W (∀ z ∈ cs, lowB t.n z = true))) := Lib.hid fun W hW => allB_any XA xn xc cs W ((HC.out.2.2.2.2.1.below (bto0 bw4 hW)).more (bto0 bw4 hW).size) HC.out.2.2.2.2.2.2.2.2.1 t.n g2 ((hW.cell (p := ⟨g2, 0, none⟩) hg2).trans hgc2) (by have := hW.size; omega)
      have DC : Hid (∀ W, Below w4.heap.size w4 W → Calls Try.prog 44 #[.slice XA xn xc] W (RetM W (Apart cs xn))) := Lib.hid fun W hW => differI_any XA xn xc cs W ((HC.out.2.2.2.2.1.below (bto0 bw4 hW)).more (bto0 bw4 hW).size) HC.out.2.2.2.2.2.2.2.2.1 HC.out.2.2.2.2.2.2.2.2.2.2
      have AF : Hid (∀ W, Below w4.heap.size w4 W → Calls Try.prog 40 #[.func (.func 41) #[] #[], .slice XB xm xe] W (RetM W (∀ z ∈ ds, num31 z = true))) := Lib.hid fun W hW => allF_any XB xm xe ds W ((HC.out.2.2.2.2.2.1.below (bto0 bw4 hW)).more (bto0 bw4 hW).size) HC.out.2.2.2.2.2.2.2.2.2.1
      have A3 := Lib.hid fun (W : World) (g : Nat) (hg : g = W.heap.size) => all3_any root lv hi W g hg
      have q2 : w4.cell? ⟨w.heap.size + 1, 2, none⟩ = some (.slice XA xn xc) := Q4.cell 2
      have H4 : Hid (Below w.heap.size w w4 ∧ Blk w4 w.heap.size 25 _ ∧ Blk w4 (w.heap.size + 1) 49 _) := Lib.hid ⟨bw4, P4, Q4⟩
      have qlt4 := Q4.lt
      clear P4 Q4 bw4 hb4 b0 b1
      by_cases x1 : 1 ≤ xn
      · by_cases x2 : xn ≤ 2
        · have x1I : (1 : Int) ≤ (xn : Int) := by omega
          have x2I : (xn : Int) ≤ 2 := by omega
          go_wp2_with fail
          refine (AC.out _ (Below.refl _ _)).mono ?_
          rintro e w5 ⟨b, rfl, hbb, hb5⟩
          have Q5 := H4.out.2.2.below hb5 qlt4
          have q2' : w5.cell? ⟨w.heap.size + 1, 2, none⟩ = some (.slice XA xn xc) := Q5.cell 2
          have H5 := Lib.hid (And.intro hbb (And.intro hb5 Q5))
          have qlt5 := Q5.lt
          clear Q5 hbb hb5 q2
          cases b with
          | false =>
            go_wp2
            go_ret
            exact ⟨false, rfl, ⟨fun h => (by cases h), fun h => absurd (H5.out.1.2 (IFF.out.1 h).2.1) (by decide)⟩, bto0 H4.out.1 H5.out.2.1⟩
          | true =>
            go_wp2_with fail
            refine (DC.out _ H5.out.2.1).mono ?_
            rintro e w6 ⟨b, rfl, hbb, hb6⟩
            have Q6 := H5.out.2.2.below hb6 qlt5
            have q2 : w6.cell? ⟨w.heap.size + 1, 2, none⟩ = some (.slice XA xn xc) := Q6.cell 2
            have q6 : w6.cell? ⟨w.heap.size + 1, 6, none⟩ = some (.slice XB xm xe) := Q6.cell 6
            have H6 := Lib.hid (And.intro hbb (And.intro (bto0 H5.out.2.1 hb6) Q6))
            have qlt6 := Q6.lt
            clear Q6 hbb hb6 q2'
            cases b with
            | false =>
              go_wp2
              go_ret
              exact ⟨false, rfl, ⟨fun h => (by cases h), fun h => absurd (H6.out.1.2 (IFF.out.1 h).2.2.1) (by decide)⟩, bto0 H4.out.1 H6.out.2.1⟩
            | true =>
              by_cases xmn : xm = xn
              · have em : ((xm : Int) == (xn : Int)) = true := by simp; omega
                have HM := Lib.hid xmn
                clear xmn
                go_wp2_with fail
                refine (AF.out _ H6.out.2.1).mono ?_
                rintro e w7 ⟨b, rfl, hbb, hb7⟩
                have Q7 := H6.out.2.2.below hb7 qlt6
                have q3 : w7.cell? ⟨w.heap.size + 1, 3, none⟩ = some (.int .u32 root) := Q7.cell 3
                have q4 : w7.cell? ⟨w.heap.size + 1, 4, none⟩ = some (.int .i64 lv) := Q7.cell 4
                have q5 : w7.cell? ⟨w.heap.size + 1, 5, none⟩ = some (.int .i64 hi) := Q7.cell 5
                have H7 := Lib.hid (And.intro hbb (bto0 H6.out.2.1 hb7))
                clear Q7 hbb hb7 q2 q6
                cases b with
                | false =>
                  go_wp2
                  go_ret
                  exact ⟨false, rfl, ⟨fun h => (by cases h), fun h => absurd (H7.out.1.2 (IFF.out.1 h).2.2.2.2.1) (by decide)⟩, bto0 H4.out.1 H7.out.2⟩
                | true =>
                  go_wp2_with fail
                  refine (A3.out _ _ (by simp)).mono ?_
                  rintro e w8 ⟨b, rfl, hbb, hb8⟩
                  have H8 := Lib.hid (And.intro hbb (bto0 H7.out.2 hb8))
                  clear hbb hb8
                  go_wp2
                  go_ret
                  exact ⟨b, rfl, ⟨fun h => IFF.out.2 ⟨⟨x1, x2⟩, H5.out.1.1 (by first | rfl | trivial), H6.out.1.1 (by first | rfl | trivial), HM.out, H7.out.1.1 (by first | rfl | trivial), H8.out.1.1 h⟩, fun h => H8.out.1.2 (IFF.out.1 h).2.2.2.2.2⟩, bto0 H4.out.1 H8.out.2⟩
              · have em : ((xm : Int) == (xn : Int)) = false := by simp; omega
                have HM := Lib.hid xmn
                clear xmn
                go_wp2
                go_ret
                exact ⟨false, rfl, ⟨fun h => (by cases h), fun h => absurd (IFF.out.1 h).2.2.2.1 HM.out⟩, bto0 H4.out.1 H6.out.2.1⟩
        · have x2I : (2 : Int) < (xn : Int) := by omega
          go_wp2
          go_ret
          exact ⟨false, rfl, ⟨fun h => (by cases h), fun h => (by have := (IFF.out.1 h).1.2; omega)⟩, H4.out.1⟩
      · have x1I : (xn : Int) < 1 := by omega
        go_wp2
        go_ret
        exact ⟨false, rfl, ⟨fun h => (by cases h), fun h => (by have := (IFF.out.1 h).1.1; omega)⟩, H4.out.1⟩
end
end Go.Proofs.Ytflolnilagogpaa
/-
  Are two lists of numbers, of columns the same?
-/
namespace Go.Proofs.Ytflolnilagogpaa
section
set_option linter.unusedSimpArgs false
set_option linter.unusedVariables false
open Go.RowKit

theorem list_eq {α : Type} {l r : List α} (hl : l.length = r.length) (h : ∀ j, j < l.length → ∀ a b, l[j]? = some a → r[j]? = some b → a = b) : l = r := by
  apply List.ext_getElem? 
  intro j
  by_cases hj : j < l.length
  · have h1 := List.getElem?_eq_getElem hj
    have h2 := List.getElem?_eq_getElem (show j < r.length by omega)
    rw [h1, h2, h j hj _ _ h1 h2]
  · rw [List.getElem?_eq_none (by omega), List.getElem?_eq_none (by omega)]
set_option maxHeartbeats 1000000 in
theorem eqi_any (A : Option Addr) (n c : Nat) (l : List Int) (B : Option Addr) (m d : Nat) (r : List Int) (w : World) (hl : Reads w w.heap.size 1 A n (vI64 l)) (hr : Reads w w.heap.size 1 B m (vI64 r)) (hn : n ≤ maxLen) (hm : m ≤ maxLen) :
    Calls Try.prog 51 #[.slice A n c, .slice B m d] w (RetM w (l = r)) := by
  have hln : l.length = n := by have := hl.1; rw [vI64_len] at this; omega
  have hrn : r.length = m := by have := hr.1; rw [vI64_len] at this; omega
  unfold maxLen at hn hm
  have nI : (n : Int) ≤ 9223372036854775807 := by omega
  have mI : (m : Int) ≤ 9223372036854775807 := by omega
  have HC := Lib.hid (And.intro hl (And.intro hr (And.intro hln hrn)))
  clear hl hr hln hrn hn hm
  by_cases hnm : n = m
  · subst hnm
    have e1 : ((n : Int) != (n : Int)) = false := by simp
    go_enter Try.func51, Try.ntmps51
    go_wp2
    go_loopw [13] (fun v wr => ∃ i : Nat, i ≤ n ∧ v = .int .i64 i ∧ Below w.heap.size w wr ∧ ∀ j, j < i → ∀ a b, l[j]? = some a → r[j]? = some b → a = b) (fun v _ => n - (intOf v).toNat)
    case atStart => exact ⟨0, by omega, rfl, Below.refl _ _, fun j hj => by omega⟩
    case round =>
      obtain ⟨i, hi, rfl, hb, hg⟩ := hrel
      have q0 : (0 : Int) ≤ (i : Int) := by omega
      by_cases hlt : i < n
      · have q1 : (i : Int) < (n : Int) := by omega
        obtain ⟨ad, x, hA, hab, hx, f0⟩ := (HC.out.1.below hb).i64_ hlt
        obtain ⟨ad2, y, hB, hab2, hy, f1⟩ := (HC.out.2.1.below hb).i64_ hlt
        subst hA hB
        have HG := Lib.hid (And.intro hx (And.intro hy (And.intro hb hg)))
        clear hx hy hb hg
        by_cases hxy : x = y
        · have e2 : (x != y) = false := by simpa using hxy
          have HX := Lib.hid hxy
          clear hxy
          go_wp2
          go_quiet (fail)
          go_wp2
          exact ⟨⟨i + 1, by omega, by go_num, bdr HG.out.2.2.1 _, fun j hj a b ha hb => by
            by_cases hji : j < i
            · exact HG.out.2.2.2 j hji a b ha hb
            · obtain rfl : j = i := by omega
              rw [HG.out.1] at ha
              rw [HG.out.2.1] at hb
              cases ha
              cases hb
              exact HX.out⟩, by simp [intOf]; omega⟩
        · have e2 : (x != y) = true := by simpa using hxy
          have HX := Lib.hid hxy
          clear hxy
          go_wp2
          go_quiet (fail)
          go_wp2
          go_ret
          exact ⟨false, rfl, ⟨fun h => (by cases h), fun h => absurd (by have h1 := HG.out.1; rw [h, HG.out.2.1] at h1; exact (Option.some.inj h1).symm) HX.out⟩, bdr HG.out.2.2.1 _⟩
      · obtain rfl : i = n := by omega
        have HL := Lib.hid (list_eq (HC.out.2.2.1.trans HC.out.2.2.2.symm) fun j hj => hg j (by rw [← HC.out.2.2.1]; exact hj))
        clear hg
        go_wp2
        go_ret
        exact ⟨true, rfl, ⟨fun _ => HL.out, fun _ => rfl⟩, hb⟩
  · have e1 : ((n : Int) != (m : Int)) = true := by simp; omega
    have HX : Hid (l ≠ r) := Lib.hid fun h => hnm (by rw [← HC.out.2.2.1, ← HC.out.2.2.2, h])
    go_enter Try.func51, Try.ntmps51
    go_wp2
    go_ret
    exact ⟨false, rfl, ⟨fun h => (by cases h), fun h => absurd h HX.out⟩, Below.refl _ _⟩
set_option maxHeartbeats 1000000 in
theorem eqc_any (A : Option Addr) (n c : Nat) (l : List Cl) (B : Option Addr) (m d : Nat) (r : List Cl) (w : World) (hl : Reads w w.heap.size 4 A n (vC l)) (hr : Reads w w.heap.size 4 B m (vC r)) (hn : n ≤ maxLen) (hm : m ≤ maxLen) :
    Calls Try.prog 50 #[.slice A n c, .slice B m d] w (RetM w (l.map Cl.pc = r.map Cl.pc)) := by
  have hln : l.length = n := by have := hl.1; rw [vC_len] at this; omega
  have hrn : r.length = m := by have := hr.1; rw [vC_len] at this; omega
  unfold maxLen at hn hm
  have nI : (n : Int) ≤ 9223372036854775807 := by omega
  have mI : (m : Int) ≤ 9223372036854775807 := by omega
  have HC := Lib.hid (And.intro hl (And.intro hr (And.intro hln hrn)))
  clear hl hr hln hrn hn hm
  by_cases hnm : n = m
  · subst hnm
    have e1 : ((n : Int) != (n : Int)) = false := by simp
    go_enter Try.func50, Try.ntmps50
    go_wp2
    go_loopw [13] (fun v wr => ∃ i : Nat, i ≤ n ∧ v = .int .i64 i ∧ Below w.heap.size w wr ∧ ∀ j, j < i → ∀ a b, (l.map Cl.pc)[j]? = some a → (r.map Cl.pc)[j]? = some b → a = b) (fun v _ => n - (intOf v).toNat)
    case atStart => exact ⟨0, by omega, rfl, Below.refl _ _, fun j hj => by omega⟩
    case round =>
      obtain ⟨i, hi, rfl, hb, hg⟩ := hrel
      have q0 : (0 : Int) ≤ (i : Int) := by omega
      by_cases hlt : i < n
      · have q1 : (i : Int) < (n : Int) := by omega
        obtain ⟨ad, x, hA, hab, hx0, f0, f1, f2, f3⟩ := (HC.out.1.below hb).cl_ hlt
        obtain ⟨ad2, y, hB, hab2, hy0, g0, g1, g2, g3⟩ := (HC.out.2.1.below hb).cl_ hlt
        have hx : (l.map Cl.pc)[i]? = some x.pc := by rw [List.getElem?_map, hx0]; rfl
        have hy : (r.map Cl.pc)[i]? = some y.pc := by rw [List.getElem?_map, hy0]; rfl
        clear hx0 hy0
        subst hA hB
        have HG := Lib.hid (And.intro hx (And.intro hy (And.intro hb hg)))
        clear hx hy hb hg
        obtain ⟨xn, xk, xd, xu⟩ := x
        obtain ⟨yn, yk, yd, yu⟩ := y
        simp only at f0 f1 f2 f3 g0 g1 g2 g3
        by_cases hall : (xn.data.toList = yn.data.toList ∧ xk = yk) ∧ (xd = yd ∧ xu = yu)
        · obtain ⟨⟨h1, rfl⟩, rfl, rfl⟩ := hall
          obtain rfl : xn = yn := nm_bytes _ _ (by rw [ByteArray.toList_eq, ByteArray.toList_eq]; exact h1)
          clear h1
          go_wp2
          go_quiet (fail)
          go_wp2
          exact ⟨⟨i + 1, by omega, by go_num, bdr HG.out.2.2.1 _, fun j hj a b ha hb => by
            by_cases hji : j < i
            · exact HG.out.2.2.2 j hji a b ha hb
            · obtain rfl : j = i := by omega
              rw [HG.out.1] at ha
              rw [HG.out.2.1] at hb
              cases ha
              cases hb
              rfl⟩, by simp [intOf]; omega⟩
        · have HX : Hid ((l.map Cl.pc) ≠ r.map Cl.pc) := Lib.hid fun h => hall (by
            have h1 := HG.out.1
            rw [h, HG.out.2.1] at h1
            have h2 := Option.some.inj h1
            unfold Cl.pc at h2
            simp only [PC.mk.injEq] at h2
            exact ⟨⟨h2.1.symm, h2.2.1.symm⟩, h2.2.2.1.symm, h2.2.2.2.symm⟩)
          have B1 : ∃ b : Bool, (xn.toList == yn.toList) = b ∧ (b = true → xn.data.toList = yn.data.toList) := by
            rcases nm_cases2 xn yn with ⟨h1, h2⟩ | ⟨h1, h2⟩
            · exact ⟨true, h2, fun _ => h1⟩
            · exact ⟨false, h2, fun h => by cases h⟩
          obtain ⟨b1, e1', c1⟩ := B1
          obtain ⟨b2, e2, c2⟩ : ∃ b : Bool, (xk == yk) = b ∧ (b = true → xk = yk) := ⟨_, rfl, fun h => by simpa using h⟩
          obtain ⟨b3, e3, c3⟩ : ∃ b : Bool, (xd == yd) = b ∧ (b = true → xd = yd) := ⟨_, rfl, fun h => by simpa using h⟩
          obtain ⟨b4, e4, c4⟩ : ∃ b : Bool, (xu == yu) = b ∧ (b = true → xu = yu) := ⟨_, rfl, fun h => by simpa using h⟩
          have hno : (b1 && b2 && b3 && b4) = false := by
            cases hq : (b1 && b2 && b3 && b4) with
            | false => rfl
            | true =>
              simp only [Bool.and_eq_true] at hq
              exact absurd ⟨⟨c1 hq.1.1.1, c2 hq.1.1.2⟩, c3 hq.1.2, c4 hq.2⟩ hall
          clear hall c1 c2 c3 c4
          cases b1 <;> cases b2 <;> cases b3 <;> cases b4
          all_goals first
            | (exfalso; revert hno; decide)
            | (clear hno
               go_wp2
               go_quiet (fail)
               go_wp2
               go_ret
               exact ⟨false, rfl, ⟨fun h => (by cases h), fun h => absurd h HX.out⟩, bdr HG.out.2.2.1 _⟩)
      · obtain rfl : i = n := by omega
        have HL := Lib.hid (list_eq (by rw [List.length_map, List.length_map]; exact HC.out.2.2.1.trans HC.out.2.2.2.symm) fun j hj => hg j (by rw [List.length_map] at hj; rw [← HC.out.2.2.1]; exact hj))
        clear hg
        go_wp2
        go_ret
        exact ⟨true, rfl, ⟨fun _ => HL.out, fun _ => rfl⟩, hb⟩
  · have e1 : ((n : Int) != (m : Int)) = true := by simp; omega
    have HX : Hid (l.map Cl.pc ≠ r.map Cl.pc) := Lib.hid fun h => hnm (by have h1 := congrArg List.length h; rw [List.length_map, List.length_map] at h1; rw [← HC.out.2.2.1, ← HC.out.2.2.2]; exact h1)
    go_enter Try.func50, Try.ntmps50
    go_wp2
    go_ret
    exact ⟨false, rfl, ⟨fun h => (by cases h), fun h => absurd h HX.out⟩, Below.refl _ _⟩
end
end Go.Proofs.Ytflolnilagogpaa
