/-
  Several texts in one: Ie.
-/
import Derived.Test.YtjlpfhioacphkaaMsat
import Derived.BigQuiet
import Derived.Deep.QuietTactic
/-
  The reference's index: may one be?
-/
namespace Go.Proofs.Ytjlpfhioacphkaa
section
set_option linter.unusedSimpArgs false
set_option linter.unusedVariables false
open Go.RowKit

@[reducible] def Ix.agg (x : Ix) : Value := .agg #[.string x.nm, .int .i64 x.tb, .slice x.A x.n x.c, .int .u32 x.root, .int .i64 x.lv, .int .i64 x.hi, .slice x.B x.m x.e]
theorem pt_at {l : List Tb} {k : Nat} {t : PT} (h : (l.map Tb.pt)[k]? = some t) : ∃ q, l[k]? = some q ∧ t = q.pt := by
  rw [List.getElem?_map] at h
  cases hq : l[k]? with
  | none => rw [hq] at h; cases h
  | some q => rw [hq] at h; exact ⟨q, rfl, (Option.some.inj h).symm⟩
theorem Reads.i64_ {w : World} {B n k : Nat} {A : Option Addr} {l : List Int} (h : Reads w B 1 A n (vI64 l)) (hk : k < n) : ∃ ad x, A = some ad ∧ ad.block < B ∧ l[k]? = some x ∧ w.cell? (ad.add k) = some (.int .i64 x) := by
  obtain ⟨ad, u, hA, hb, hu, hc⟩ := h.at_ hk
  obtain ⟨x, hx, rfl⟩ := vI64_at hu
  exact ⟨ad, x, hA, hb, hx, hc⟩
theorem add_zero_ (a : Addr) : a.add 0 = a := by simp [Addr.add]
theorem add_one_ (a : Addr) : a.add 1 = ⟨a.block, a.off + 1, none⟩ := by simp [Addr.add]
theorem two_of12 {l : List Int} (h : l.length = 2) : ∃ a b, l = [a, b] := by
  match l, h with
  | [a, b], _ => exact ⟨a, b, rfl⟩
set_option maxRecDepth 100000 in
set_option maxHeartbeats 4000000 in
theorem rindex_any (A : Option Addr) (n c : Nat) (l : List Tb) (B : Option Addr) (m d : Nat) (x : Ix) (w : World) (hr : Reads w w.heap.size 5 A n (vTb l)) (hl : ∀ t ∈ l, TbIn w w.heap.size t) (hnx : n ≤ maxLen) (hx : IxIn w w.heap.size x) :
    Calls Try.prog 33 #[.agg #[.slice A n c, .slice B m d], x.agg] w (RetM w (MayX (l.map Tb.pt) x.px)) := by
  have hln : l.length = n := by have := hr.1; rw [vTb_len] at this; omega
  have hlp : (l.map Tb.pt).length = n := by rw [List.length_map]; exact hln
  obtain ⟨⟨z0, z1, z2⟩, hc, hd, hro⟩ := hx
  obtain ⟨nm, tb, XA, xn, xc, root, lv, hi, XB, xm, xe, cs, ds⟩ := x
  simp only at z0 z1 z2 hc hd hro
  have hcl : cs.length = xn := by have := hc.1; rw [vI64_len] at this; omega
  have hdl : ds.length = xm := by have := hd.1; rw [vI64_len] at this; omega
  unfold maxLen at hnx z1 z2
  have nI : (n : Int) ≤ 9223372036854775807 := by omega
  have xnI : (xn : Int) ≤ 9223372036854775807 := by omega
  have xmI : (xm : Int) ≤ 9223372036854775807 := by omega
  have HZ := Lib.hid z0
  have HC := Lib.hid (And.intro hr (And.intro hl (And.intro hln (And.intro hlp (And.intro hc (And.intro hd (And.intro hcl hdl)))))))
  clear hr hl hnx z0 z1 z2 hc hd hln hlp hcl hdl
  have hbb : Below w.heap.size w ((w.alloc (.cells #[.slice A n c, .slice B m d] 25)).alloc (.cells #[.string nm, .int .i64 tb, .slice XA xn xc, .int .u32 root, .int .i64 lv, .int .i64 hi, .slice XB xm xe] 67)) := ball (ball (Below.refl _ _) _) _
  have HBB := Lib.hid hbb
  clear hbb
  by_cases cN : nameB nm.data.toList = true
  · skip
    by_cases c0 : 0 ≤ tb
    · skip
      by_cases c1 : tb < (n : Int)
      · skip
        by_cases c2 : 1 ≤ xn
        · skip
          have c2I : (1 : Int) ≤ (xn : Int) := by omega
          by_cases c3 : xn ≤ 2
          · skip
            have c3I : (xn : Int) ≤ 2 := by omega
            by_cases c4 : xm = xn
            · skip
              subst c4
              obtain ⟨tk, rfl⟩ : ∃ tk : Nat, tb = tk := ⟨tb.toNat, by omega⟩
              have tkl : tk < n := by omega
              have NM : Hid (∀ W : World, Calls Try.prog 56 #[.string nm] W fun e w' => e = .returned (.bool true) ∧ W = w') := Lib.hid fun W => by have h := rname_any nm HZ.out W; rwa [cN] at h
              obtain ⟨ta, t, htA, htb, ht, e0, e1, e2, e3, e4⟩ := HC.out.1.tb_ tkl
              subst htA
              have htin := HC.out.2.1 t (List.mem_of_getElem? ht)
              have htl : t.pt.cols.length = t.n := by have := htin.2.2.1.1; rw [vC_len] at this; show (t.cols.map Cl.pc).length = _; rw [List.length_map]; omega
              have htn : (t.n : Int) ≤ 9223372036854775807 := by have := htin.2.1.1; have := htin.2.1.2; unfold maxLen at this; omega
              have hpt : (l.map Tb.pt)[((tk : Nat) : Int).toNat]? = some t.pt := by rw [Int.toNat_natCast, List.getElem?_map, ht]; rfl
              have HT := Lib.hid (And.intro ht (And.intro htl hpt))
              have HE := Lib.hid e1
              have MX := Lib.hid (fun (g : ∀ (i : Nat) (c d : Int), cs[i]? = some c → ds[i]? = some d → (0 ≤ c ∧ c < (t.n : Int)) ∧ num31 d = true) (g2 : ∀ c d, cs = [c, d] → c ≠ d) (g3 : num31 root = true) (g4 : num31 lv = true) (g5 : num31 hi = true) => (show MayX (l.map Tb.pt) ⟨nm.data.toList, (tk : Int), cs, root, lv, hi, ds⟩ from ⟨cN, c0, by rw [HC.out.2.2.2.1]; exact c1, by rw [HC.out.2.2.2.2.2.2.1]; exact c2, by rw [HC.out.2.2.2.2.2.2.1]; exact c3, by rw [HC.out.2.2.2.2.2.2.1]; exact HC.out.2.2.2.2.2.2.2, fun t' ht' => by
                rw [hpt] at ht'
                cases ht'
                rw [htl]
                exact g, g2, g3, g4, g5⟩))
              have MN := Lib.hid (fun (h : MayX (l.map Tb.pt) ⟨nm.data.toList, (tk : Int), cs, root, lv, hi, ds⟩) => And.intro (fun (i : Nat) (c d : Int) (hc : cs[i]? = some c) (hd : ds[i]? = some d) => (show (0 ≤ c ∧ c < (t.n : Int)) ∧ num31 d = true from by rw [← htl]; exact h.2.2.2.2.2.2.1 t.pt hpt i c d hc hd)) h.2.2.2.2.2.2.2)
              clear cN hpt htl htin ht e0 e2 e3 e4
              have dn : decide (n ≤ tk) = false := decide_eq_false (by omega)
              have dn0 : decide ((tk : Int) < 0) = false := decide_eq_false (by omega)
              have dn1 : decide ((xm : Int) < 1) = false := decide_eq_false (by omega)
              have dn2 : decide (2 < (xm : Int)) = false := decide_eq_false (by omega)
              go_enter Try.func33, Try.ntmps33
              go_wp2_with (first
                              | (go_at_call 56; (with_reducible refine (NM.out _).mono ?_); rintro e w' ⟨rfl, rfl⟩))
              clear NM e1
              go_loopw [47] (fun v wr => ∃ i : Nat, i ≤ xm ∧ v = .int .i64 i ∧ Below w.heap.size w wr ∧ Blk wr w.heap.size 25 #[.slice (some ta) n c, .slice B m d] ∧ Blk wr (w.heap.size + 1) 67 #[.string nm, .int .i64 tk, .slice XA xm xc, .int .u32 root, .int .i64 lv, .int .i64 hi, .slice XB xm xe] ∧ ∀ j, j < i → ∀ c d : Int, cs[j]? = some c → ds[j]? = some d → (0 ≤ c ∧ c < (t.n : Int)) ∧ num31 d = true) (fun v _ => xm - (intOf v).toNat)
              case atStart => exact ⟨0, by omega, rfl, HBB.out, (Blk.new _ _ _).alloc _, newAtI (by simp), fun j hj => by omega⟩
              case round =>
                obtain ⟨i, hi', rfl, hb, hbk, hbx, hg⟩ := hrel
                have q0 : (0 : Int) ≤ (i : Int) := by omega
                have b0 : wr.cell? ⟨w.heap.size, 0, none⟩ = some (.slice (some ta) n c) := hbk.cell 0
                have b1 : wr.cell? ⟨w.heap.size + 1, 1, none⟩ = some (.int .i64 tk) := hbx.cell 1
                have b2 : wr.cell? ⟨w.heap.size + 1, 2, none⟩ = some (.slice XA xm xc) := hbx.cell 2
                have b3 : wr.cell? ⟨w.heap.size + 1, 3, none⟩ = some (.int .u32 root) := hbx.cell 3
                have b4 : wr.cell? ⟨w.heap.size + 1, 4, none⟩ = some (.int .i64 lv) := hbx.cell 4
                have b5 : wr.cell? ⟨w.heap.size + 1, 5, none⟩ = some (.int .i64 hi) := hbx.cell 5
                have b6 : wr.cell? ⟨w.heap.size + 1, 6, none⟩ = some (.slice XB xm xe) := hbx.cell 6
                obtain ⟨tadr, htadr⟩ : ∃ p : Addr, ⟨(ta.add (tk * 5)).block, (ta.add (tk * 5)).off + 1, none⟩ = p := ⟨_, rfl⟩
                have bt : wr.cell? ⟨(ta.add (tk * 5)).block, (ta.add (tk * 5)).off + 1, none⟩ = some (.slice t.A t.n t.c) := (hb.cell (p := ⟨(ta.add (tk * 5)).block, (ta.add (tk * 5)).off + 1, none⟩) (by rw [block_of_add]; exact htb)).trans HE.out
                clear htadr tadr
                by_cases hlt : i < xm
                · have q1 : (i : Int) < (xm : Int) := by omega
                  obtain ⟨ca, ci, hcA, hcab, hci, f0⟩ := (HC.out.2.2.2.2.1.below hb).i64_ hlt
                  obtain ⟨da, di, hdA, hdab, hdi, f1⟩ := (HC.out.2.2.2.2.2.1.below hb).i64_ hlt
                  subst hcA hdA
                  have HK := Lib.hid (And.intro hci (And.intro hdi (And.intro hb (And.intro hbk (And.intro hbx hg)))))
                  clear hci hdi hb hbk hbx hg b3 b4 b5
                  by_cases a0 : 0 ≤ ci
                  · by_cases a1 : ci < (t.n : Int)
                    · have ND : Hid (∀ W : World, Calls Try.prog 57 #[.int .i64 di] W fun e w' => e = .returned (.bool (num31 di)) ∧ w' = W) := Lib.hid fun W => (number_any di W).mono fun e w' h => ⟨h.1, h.2.symm⟩
                      obtain ⟨b, hbn⟩ : ∃ b, num31 di = b := ⟨_, rfl⟩
                      rw [hbn] at ND
                      have HD := Lib.hid hbn
                      clear hbn
                      cases b with
                      | true =>
                        go_wp2
                        go_quiet ((go_at_call 57; with_reducible exact Calls.quiet_of_same (ND.out _)))
                        go_wp2
                        exact ⟨⟨i + 1, by omega, by go_num, bdr HK.out.2.2.1 _, HK.out.2.2.2.1.drewN _, HK.out.2.2.2.2.1.drewN _, fun j hj c d hc hd => by
                          by_cases hji : j < i
                          · exact HK.out.2.2.2.2.2 j hji c d hc hd
                          · obtain rfl : j = i := by omega
                            rw [HK.out.1] at hc
                            rw [HK.out.2.1] at hd
                            cases hc
                            cases hd
                            exact ⟨⟨a0, a1⟩, HD.out⟩⟩, by simp [intOf]; omega⟩
                      | false =>
                        go_wp2
                        go_quiet ((go_at_call 57; with_reducible exact Calls.quiet_of_same (ND.out _)))
                        go_wp2
                        go_ret
                        exact ⟨false, rfl, ⟨fun h => (by cases h), fun h => (by have := ((MN.out h).1 i ci di HK.out.1 HK.out.2.1).2; rw [HD.out] at this; cases this)⟩, bdr HK.out.2.2.1 _⟩
                    · have a2 : (t.n : Int) ≤ ci := by omega
                      go_wp2
                      go_quiet (fail)
                      go_wp2
                      go_ret
                      exact ⟨false, rfl, ⟨fun h => (by cases h), fun h => (by have := ((MN.out h).1 i ci di HK.out.1 HK.out.2.1).1.2; omega)⟩, bdr HK.out.2.2.1 _⟩
                  · have a2 : ci < 0 := by omega
                    go_wp2
                    go_quiet (fail)
                    go_wp2
                    go_ret
                    exact ⟨false, rfl, ⟨fun h => (by cases h), fun h => (by have := ((MN.out h).1 i ci di HK.out.1 HK.out.2.1).1.1; omega)⟩, bdr HK.out.2.2.1 _⟩
                · obtain rfl : i = xm := by omega
                  have MX2 := Lib.hid (fun (g2 : ∀ c d, cs = [c, d] → c ≠ d) => MX.out (fun j c d hc hd => hg j (by have := (List.getElem?_eq_some_iff.1 hc).1; rw [HC.out.2.2.2.2.2.2.1] at this; exact this) c d hc hd) g2)
                  clear hg bt
                  obtain ⟨r1, hr1⟩ : ∃ b, num31 root = b := ⟨_, rfl⟩
                  obtain ⟨r2, hr2⟩ : ∃ b, num31 lv = b := ⟨_, rfl⟩
                  obtain ⟨r3, hr3⟩ : ∃ b, num31 hi = b := ⟨_, rfl⟩
                  have N1 : Hid (∀ W : World, Calls Try.prog 57 #[.int .i64 root] W fun e w' => e = .returned (.bool r1) ∧ W = w') := Lib.hid fun W => by have h := number_any root W; rwa [hr1] at h
                  have N2 : Hid (∀ W : World, Calls Try.prog 57 #[.int .i64 lv] W fun e w' => e = .returned (.bool r2) ∧ W = w') := Lib.hid fun W => by have h := number_any lv W; rwa [hr2] at h
                  have N3 : Hid (∀ W : World, Calls Try.prog 57 #[.int .i64 hi] W fun e w' => e = .returned (.bool r3) ∧ W = w') := Lib.hid fun W => by have h := number_any hi W; rwa [hr3] at h
                  have HR3 := Lib.hid (And.intro hr1 (And.intro hr2 hr3))
                  have r32 : IntKind.i64.wrap root = root := Go.IntWalk.i64_in _ ⟨by omega, by omega⟩
                  clear hr1 hr2 hr3
                  by_cases h2 : i = 2
                  · obtain ⟨p0, p1, hpp⟩ := two_of12 (HC.out.2.2.2.2.2.2.1.trans h2)
                    obtain ⟨ca, y0, hcA, hcab, hy0, f0⟩ := (HC.out.2.2.2.2.1.below hb).i64_ (show 0 < i by omega)
                    subst hcA
                    obtain ⟨ca', y1, hcA, _, hy1, f1⟩ := (HC.out.2.2.2.2.1.below hb).i64_ (show 1 < i by omega)
                    cases hcA
                    rw [hpp] at hy0 hy1
                    cases hy0
                    cases hy1
                    rw [add_zero_] at f0
                    rw [add_one_] at f1
                    have HB := Lib.hid hb
                    have HP := Lib.hid hpp
                    have e2 : ((i : Int) == 2) = true := by simp; omega
                    clear hb hbk hbx hpp
                    by_cases hpe : p0 = p1
                    · have e3 : (p0 == p1) = true := by simpa using hpe
                      clear N1 N2 N3
                      have HPE := Lib.hid hpe
                      clear hpe
                      go_wp2
                      go_quiet (fail)
                      go_wp2
                      go_ret
                      exact ⟨false, rfl, ⟨fun h => (by cases h), fun h => absurd HPE.out ((MN.out h).2.1 _ _ HP.out)⟩, bdr HB.out _⟩
                    · have e3 : (p0 == p1) = false := by simpa using hpe
                      have HPE := Lib.hid (MX2.out fun c d hcd => by rw [HP.out] at hcd; cases hcd; exact hpe)
                      clear hpe
                      cases r1 <;> cases r2 <;> cases r3
                      all_goals
                        go_wp2
                        go_quiet (fail)
                        go_wp2_with (first | (go_at_call 57; (with_reducible refine (N1.out _).mono ?_); rintro e w' ⟨rfl, rfl⟩) | (go_at_call 57; (with_reducible refine (N2.out _).mono ?_); rintro e w' ⟨rfl, rfl⟩) | (go_at_call 57; (with_reducible refine (N3.out _).mono ?_); rintro e w' ⟨rfl, rfl⟩))
                        go_ret
                        first
                          | exact ⟨true, rfl, ⟨fun _ => HPE.out HR3.out.1 HR3.out.2.1 HR3.out.2.2, fun _ => rfl⟩, bdr HB.out _⟩
                          | exact ⟨false, rfl, ⟨fun h => (by cases h), fun h => (by have g := (MN.out h).2.2; have q := HR3.out; rw [g.1, g.2.1, g.2.2] at q; simp at q)⟩, bdr HB.out _⟩
                  · have e2 : ((i : Int) == 2) = false := by simp; omega
                    have HPE := Lib.hid (MX2.out fun c d hcd => by
                      have := HC.out.2.2.2.2.2.2.1
                      rw [hcd] at this
                      simp at this
                      omega)
                    have HB := Lib.hid hb
                    clear hb hbk hbx
                    cases r1 <;> cases r2 <;> cases r3
                    all_goals
                      go_wp2
                      go_quiet (fail)
                      go_wp2_with (first | (go_at_call 57; (with_reducible refine (N1.out _).mono ?_); rintro e w' ⟨rfl, rfl⟩) | (go_at_call 57; (with_reducible refine (N2.out _).mono ?_); rintro e w' ⟨rfl, rfl⟩) | (go_at_call 57; (with_reducible refine (N3.out _).mono ?_); rintro e w' ⟨rfl, rfl⟩))
                      go_ret
                      first
                        | exact ⟨true, rfl, ⟨fun _ => HPE.out HR3.out.1 HR3.out.2.1 HR3.out.2.2, fun _ => rfl⟩, bdr HB.out _⟩
                        | exact ⟨false, rfl, ⟨fun h => (by cases h), fun h => (by have g := (MN.out h).2.2; have q := HR3.out; rw [g.1, g.2.1, g.2.2] at q; simp at q)⟩, bdr HB.out _⟩
            · skip
              have NM : Hid (∀ W : World, Calls Try.prog 56 #[.string nm] W fun e w' => e = .returned (.bool true) ∧ W = w') := Lib.hid fun W => by have h := rname_any nm HZ.out W; rwa [cN] at h
              have c4' : ((xm : Int) != (xn : Int)) = true := by simp; omega
              have HX := Lib.hid (fun (h : MayX (l.map Tb.pt) ⟨nm.data.toList, tb, cs, root, lv, hi, ds⟩) => c4 (by have := h.2.2.2.2.2.1; rw [← HC.out.2.2.2.2.2.2.1, ← HC.out.2.2.2.2.2.2.2]; exact this))
              clear cN c4
              go_enter Try.func33, Try.ntmps33
              go_wp2_with (first
                              | (go_at_call 56; (with_reducible refine (NM.out _).mono ?_); rintro e w' ⟨rfl, rfl⟩))
              go_ret
              exact ⟨false, rfl, ⟨fun h => (by cases h), fun h => (HX.out h).elim⟩, HBB.out⟩
          · skip
            have NM : Hid (∀ W : World, Calls Try.prog 56 #[.string nm] W fun e w' => e = .returned (.bool true) ∧ W = w') := Lib.hid fun W => by have h := rname_any nm HZ.out W; rwa [cN] at h
            have c3' : (2 : Int) < (xn : Int) := by omega
            have HX := Lib.hid (fun (h : MayX (l.map Tb.pt) ⟨nm.data.toList, tb, cs, root, lv, hi, ds⟩) => c3 (by have := h.2.2.2.2.1; rw [← HC.out.2.2.2.2.2.2.1]; exact this))
            clear cN
            go_enter Try.func33, Try.ntmps33
            go_wp2_with (first
                          | (go_at_call 56; (with_reducible refine (NM.out _).mono ?_); rintro e w' ⟨rfl, rfl⟩))
            go_ret
            exact ⟨false, rfl, ⟨fun h => (by cases h), fun h => (HX.out h).elim⟩, HBB.out⟩
        · skip
          have NM : Hid (∀ W : World, Calls Try.prog 56 #[.string nm] W fun e w' => e = .returned (.bool true) ∧ W = w') := Lib.hid fun W => by have h := rname_any nm HZ.out W; rwa [cN] at h
          have c2' : (xn : Int) < 1 := by omega
          have HX := Lib.hid (fun (h : MayX (l.map Tb.pt) ⟨nm.data.toList, tb, cs, root, lv, hi, ds⟩) => c2 (by have := h.2.2.2.1; rw [← HC.out.2.2.2.2.2.2.1]; exact this))
          clear cN
          go_enter Try.func33, Try.ntmps33
          go_wp2_with (first
                      | (go_at_call 56; (with_reducible refine (NM.out _).mono ?_); rintro e w' ⟨rfl, rfl⟩))
          go_ret
          exact ⟨false, rfl, ⟨fun h => (by cases h), fun h => (HX.out h).elim⟩, HBB.out⟩
      · skip
        have NM : Hid (∀ W : World, Calls Try.prog 56 #[.string nm] W fun e w' => e = .returned (.bool true) ∧ W = w') := Lib.hid fun W => by have h := rname_any nm HZ.out W; rwa [cN] at h
        have c1' : (n : Int) ≤ tb := by omega
        have HX := Lib.hid (fun (h : MayX (l.map Tb.pt) ⟨nm.data.toList, tb, cs, root, lv, hi, ds⟩) => c1 (by have := h.2.2.1; rw [HC.out.2.2.2.1] at this; exact this))
        clear cN
        go_enter Try.func33, Try.ntmps33
        go_wp2_with (first
                  | (go_at_call 56; (with_reducible refine (NM.out _).mono ?_); rintro e w' ⟨rfl, rfl⟩))
        go_ret
        exact ⟨false, rfl, ⟨fun h => (by cases h), fun h => (HX.out h).elim⟩, HBB.out⟩
    · skip
      have NM : Hid (∀ W : World, Calls Try.prog 56 #[.string nm] W fun e w' => e = .returned (.bool true) ∧ W = w') := Lib.hid fun W => by have h := rname_any nm HZ.out W; rwa [cN] at h
      have c0' : tb < 0 := by omega
      have HX := Lib.hid (fun (h : MayX (l.map Tb.pt) ⟨nm.data.toList, tb, cs, root, lv, hi, ds⟩) => c0 h.2.1)
      clear cN
      go_enter Try.func33, Try.ntmps33
      go_wp2_with (first
              | (go_at_call 56; (with_reducible refine (NM.out _).mono ?_); rintro e w' ⟨rfl, rfl⟩))
      go_ret
      exact ⟨false, rfl, ⟨fun h => (by cases h), fun h => (HX.out h).elim⟩, HBB.out⟩
  · skip
    have NM : Hid (∀ W : World, Calls Try.prog 56 #[.string nm] W fun e w' => e = .returned (.bool false) ∧ W = w') := Lib.hid fun W => by have h := rname_any nm HZ.out W; rwa [(by simpa using cN : nameB nm.data.toList = false)] at h
    have HX := Lib.hid (fun (h : MayX (l.map Tb.pt) ⟨nm.data.toList, tb, cs, root, lv, hi, ds⟩) => cN h.1)
    clear cN
    go_enter Try.func33, Try.ntmps33
    go_wp2_with (first
          | (go_at_call 56; (with_reducible refine (NM.out _).mono ?_); rintro e w' ⟨rfl, rfl⟩))
    go_ret
    exact ⟨false, rfl, ⟨fun h => (by cases h), fun h => (HX.out h).elim⟩, HBB.out⟩
end
end Go.Proofs.Ytjlpfhioacphkaa
