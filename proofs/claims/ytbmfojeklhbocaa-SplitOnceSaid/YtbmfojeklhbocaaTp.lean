/-
  Split: the law's same.
-/
import Derived.Test.YtbmfojeklhbocaaTo
import Derived.Deep.RegionHeld3
set_option linter.unusedSimpArgs false
set_option linter.unusedVariables false
namespace Go.Proofs.Ytbmfojeklhbocaa
open Go.RowKit

theorem Reads.jn {w : World} {B : Nat} {A : Option Addr} {n k : Nat} {l : List (Nat × JT)} (hr : Reads w B 5 A n (vJ l)) (hk : k < n) :
    ∃ ad x, A = some ad ∧ ad.block < B ∧ l[k]? = some x ∧ w.cell? (ad.add (k * 5)) = some (.int .i64 (x.1 : Int)) ∧ w.cell? ⟨(ad.add (k * 5)).block, (ad.add (k * 5)).off + 1, none⟩ = some (.int .i64 x.2.1) ∧ w.cell? ⟨(ad.add (k * 5)).block, (ad.add (k * 5)).off + 2, none⟩ = some (.int .i64 x.2.2.1) ∧ w.cell? ⟨(ad.add (k * 5)).block, (ad.add (k * 5)).off + 3, none⟩ = some (.int .i64 x.2.2.2.1) ∧ w.cell? ⟨(ad.add (k * 5)).block, (ad.add (k * 5)).off + 4, none⟩ = some (.int .i64 x.2.2.2.2) := by
  have hl : l.length = n := by have := hr.1; rw [vJ_len] at this; omega
  obtain ⟨ad, hA, hb, hc⟩ := hr.2 (by omega)
  have hv : l[k]? = some (l[k]'(by omega)) := List.getElem?_eq_getElem (by omega)
  generalize l[k]'(by omega) = v at hv
  have hcell : ∀ j u, j < 5 → (jC v)[j]? = some u → w.cell? (ad.add (k * 5 + j)) = some u := fun j u hj hu => hc (k * 5 + j) u (by rw [vJ_at hv j hj]; exact hu)
  refine ⟨ad, v, hA, hb, hv, ?_, ?_, ?_, ?_, ?_⟩
  · have := hcell 0 _ (by omega) rfl
    rw [Nat.add_zero] at this
    exact this
  all_goals rw [field_add _ _ _ (by omega)]
  · exact hcell 1 _ (by omega) rfl
  · exact hcell 2 _ (by omega) rfl
  · exact hcell 3 _ (by omega) rfl
  · exact hcell 4 _ (by omega) rfl
/-- Parts as they are read. -/
structure PRs (w : World) (K gL : Nat) (AN : Option Addr) (iN : List Nat) (AM : Option Addr) (iM : List Nat) (rl : List (Value × List Nat)) (AJ : Option Addr) (js : List (Nat × JT)) : Prop where
  rN : Reads w w.heap.size 1 AN iN.length (vI iN)
  rM : Reads w w.heap.size 1 AM iM.length (vI iM)
  rJ : Reads w w.heap.size 5 AJ js.length (vJ js)
  bL : Blk w gL 39 (rl.map Prod.fst).toArray
  len : rl.length = K
  rR : ∀ (j : Nat) (v : Value) (i : List Nat), rl[j]? = some (v, i) → ∃ A c, v = .slice A i.length c ∧ Reads w w.heap.size 1 A i.length (vI i)
theorem PRs.below {w w' : World} {K gL : Nat} {AN AM AJ : Option Addr} {iN iM : List Nat} {rl : List (Value × List Nat)} {js : List (Nat × JT)} (h : PRs w K gL AN iN AM iM rl AJ js) (hb : Below w.heap.size w w') : PRs w' K gL AN iN AM iM rl AJ js :=
  ⟨(h.rN.below hb).more hb.size, (h.rM.below hb).more hb.size, (h.rJ.below hb).more hb.size, h.bL.below hb h.bL.lt, h.len, fun j v i hj => by
    obtain ⟨A, c, e, hr⟩ := h.rR j v i hj
    exact ⟨A, c, e, (hr.below hb).more hb.size⟩⟩
@[reducible] def pvV (K gL : Nat) (AN : Option Addr) (nN cN : Nat) (AM : Option Addr) (nM cM : Nat) (AJ : Option Addr) (nJ cJ : Nat) : Value := .agg #[.slice AN nN cN, .slice (some ⟨gL, 0, none⟩) K K, .slice AM nM cM, .slice AJ nJ cJ]
/-- Parts that came back are read. -/
theorem RetParts.reads {w w' : World} {K : Nat} {ps : List (List Nat)} {js : List (Nat × JT)} {e : Ending} (h : RetParts w K ps js e w') :
    ∃ gL AN cN iN AM cM iM rl AJ cJ, e = .returned (pvV K gL AN iN.length cN AM iM.length cM AJ js.length cJ) ∧ PRs w' K gL AN iN AM iM rl AJ js ∧ iN :: iM :: rl.map Prod.snd = ps ∧ Below w.heap.size w w' := by
  obtain ⟨gL, vN, vM, vj, iN, iM, rl, rfl, hp, hs⟩ := h
  have oN : w'.ownsRow w.heap.size 3 1 vN iN.length (vI iN) := hp.rws.own 0 _ rfl
  have oM : w'.ownsRow w.heap.size 3 1 vM iM.length (vI iM) := hp.rws.own 1 _ rfl
  have oJ := hp.jn
  obtain ⟨AN, cN, rfl, hcN⟩ := own_form oN
  obtain ⟨AM, cM, rfl, hcM⟩ := own_form oM
  obtain ⟨AJ, cJ, rfl, hcJ⟩ := own_form oJ
  refine ⟨gL, AN, cN, iN, AM, cM, iM, rl, AJ, cJ, rfl, ⟨Reads.of_own oN, Reads.of_own oM, Reads.of_own oJ, hp.bL, hp.len, ?_⟩, hs, hp.bel⟩
  intro j v i hj
  have o : w'.ownsRow w.heap.size 3 1 v i.length (vI i) := hp.rws.own (j + 2) (v, i) hj
  obtain ⟨A, c, rfl, hc⟩ := own_form o
  exact ⟨A, c, rfl, Reads.of_own o⟩

set_option maxRecDepth 100000 in
set_option maxHeartbeats 8000000 in
theorem psame_any (K gL gL2 : Nat) (AN AM AJ AN2 AM2 AJ2 : Option Addr) (cN cM cJ cN2 cM2 cJ2 : Nat) (iN iM : List Nat) (rl rl2 : List (Value × List Nat)) (js : List (Nat × JT)) (w : World) (h : PRs w K gL AN iN AM iM rl AJ js) (h2 : PRs w K gL2 AN2 iN AM2 iM rl2 AJ2 js) (hrl : rl.map Prod.snd = rl2.map Prod.snd) (hK : K ≤ 31) (hnN : iN.length ≤ 1000) (hnM : iM.length ≤ 1000) (hnJ : js.length ≤ 1000) (hnR : ∀ r ∈ rl, r.2.length ≤ 1000) :
    Calls Try.prog 19 #[pvV K gL AN iN.length cN AM iM.length cM AJ js.length cJ, pvV K gL2 AN2 iN.length cN2 AM2 iM.length cM2 AJ2 js.length cJ2] w (RetB w (.bool true)) := by
  have SM := Lib.hid fun (A A2 : Option Addr) (c c2 : Nat) (l : List Nat) (W : World) (hr : Reads W W.heap.size 1 A l.length (vI l)) (hr2 : Reads W W.heap.size 1 A2 l.length (vI l)) (hn : l.length ≤ 1000) => sameI_any A l.length c A2 c2 l W hr hr2 (by omega)
  have X1 := ((Blk.new w 43 #[.slice AN iN.length cN, .slice (some ⟨gL, 0, none⟩) K K, .slice AM iM.length cM, .slice AJ js.length cJ])).alloc (.cells #[.slice AN2 iN.length cN2, .slice (some ⟨gL2, 0, none⟩) K K, .slice AM2 iM.length cM2, .slice AJ2 js.length cJ2] 43)
  have X2 : Blk ((w.alloc (.cells #[.slice AN iN.length cN, .slice (some ⟨gL, 0, none⟩) K K, .slice AM iM.length cM, .slice AJ js.length cJ] 43)).alloc (.cells #[.slice AN2 iN.length cN2, .slice (some ⟨gL2, 0, none⟩) K K, .slice AM2 iM.length cM2, .slice AJ2 js.length cJ2] 43)) (w.heap.size + 1) 43 #[.slice AN2 iN.length cN2, .slice (some ⟨gL2, 0, none⟩) K K, .slice AM2 iM.length cM2, .slice AJ2 js.length cJ2] := by
    have h := Blk.new (w.alloc (.cells #[.slice AN iN.length cN, .slice (some ⟨gL, 0, none⟩) K K, .slice AM iM.length cM, .slice AJ js.length cJ] 43)) 43 #[.slice AN2 iN.length cN2, .slice (some ⟨gL2, 0, none⟩) K K, .slice AM2 iM.length cM2, .slice AJ2 js.length cJ2]
    simpa using h
  have B0 : Below w.heap.size w ((w.alloc (.cells #[.slice AN iN.length cN, .slice (some ⟨gL, 0, none⟩) K K, .slice AM iM.length cM, .slice AJ js.length cJ] 43)).alloc (.cells #[.slice AN2 iN.length cN2, .slice (some ⟨gL2, 0, none⟩) K K, .slice AM2 iM.length cM2, .slice AJ2 js.length cJ2] 43)) := ball (ball (Below.refl _ _) _) _
  have HX := Lib.hid (And.intro X1 (And.intro X2 B0))
  have HP := Lib.hid (And.intro h (And.intro h2 hrl))
  clear X1 X2 B0 h h2 hrl
  have kI : (K : Int) ≤ 31 := by omega
  have nI1 : (iN.length : Int) ≤ 1000 := by omega
  have nI2 : (iM.length : Int) ≤ 1000 := by omega
  have nI3 : (js.length : Int) ≤ 1000 := by omega
  have HNR := Lib.hid hnR
  clear hnR
  go_enter Try.func19, Try.ntmps19
  go_wp2_with fail
  obtain ⟨W0, hW0⟩ : ∃ W0, (w.alloc (.cells #[.slice AN iN.length cN, .slice (some ⟨gL, 0, none⟩) K K, .slice AM iM.length cM, .slice AJ js.length cJ] 43)).alloc (.cells #[.slice AN2 iN.length cN2, .slice (some ⟨gL2, 0, none⟩) K K, .slice AM2 iM.length cM2, .slice AJ2 js.length cJ2] 43) = W0 := ⟨_, rfl⟩
  rw [hW0] at HX ⊢
  clear hW0
  have P0 := HP.out.1.below HX.out.2.2
  have P02 := HP.out.2.1.below HX.out.2.2
  refine (SM.out _ _ _ _ _ _ P0.rN P02.rN hnN).mono ?_
  rintro e w1 ⟨rfl, hb1⟩
  have X11 := HX.out.1.below hb1 HX.out.1.lt
  have X12 := HX.out.2.1.below hb1 HX.out.2.1.lt
  have P1 := P0.below hb1
  have P12 := P02.below hb1
  have B1 := bto0 HX.out.2.2 hb1
  have y0 : w1.cell? ⟨w.heap.size, 0, none⟩ = some (.slice AN iN.length cN) := X11.cell 0
  have y1 : w1.cell? ⟨w.heap.size, 1, none⟩ = some (.slice (some ⟨gL, 0, none⟩) K K) := X11.cell 1
  have y2 : w1.cell? ⟨w.heap.size, 2, none⟩ = some (.slice AM iM.length cM) := X11.cell 2
  have y3 : w1.cell? ⟨w.heap.size, 3, none⟩ = some (.slice AJ js.length cJ) := X11.cell 3
  have z0 : w1.cell? ⟨w.heap.size + 1, 0, none⟩ = some (.slice AN2 iN.length cN2) := X12.cell 0
  have z1 : w1.cell? ⟨w.heap.size + 1, 1, none⟩ = some (.slice (some ⟨gL2, 0, none⟩) K K) := X12.cell 1
  have z2 : w1.cell? ⟨w.heap.size + 1, 2, none⟩ = some (.slice AM2 iM.length cM2) := X12.cell 2
  have z3 : w1.cell? ⟨w.heap.size + 1, 3, none⟩ = some (.slice AJ2 js.length cJ2) := X12.cell 3
  have H1 := Lib.hid (And.intro X11 (And.intro X12 (And.intro P1 (And.intro P12 B1))))
  clear P0 P02 hb1 X11 X12 P1 P12 B1 HX
  go_wp2_with fail
  refine (SM.out _ _ _ _ _ _ H1.out.2.2.1.rM H1.out.2.2.2.1.rM hnM).mono ?_
  rintro e w2 ⟨rfl, hb2⟩
  have X11 := H1.out.1.below hb2 H1.out.1.lt
  have X12 := H1.out.2.1.below hb2 H1.out.2.1.lt
  have P1 := H1.out.2.2.1.below hb2
  have P12 := H1.out.2.2.2.1.below hb2
  have B1 := bto0 H1.out.2.2.2.2 hb2
  clear y0 y1 y2 y3 z0 z1 z2 z3
  have y1 : w2.cell? ⟨w.heap.size, 1, none⟩ = some (.slice (some ⟨gL, 0, none⟩) K K) := X11.cell 1
  have y3 : w2.cell? ⟨w.heap.size, 3, none⟩ = some (.slice AJ js.length cJ) := X11.cell 3
  have z1 : w2.cell? ⟨w.heap.size + 1, 1, none⟩ = some (.slice (some ⟨gL2, 0, none⟩) K K) := X12.cell 1
  have z3 : w2.cell? ⟨w.heap.size + 1, 3, none⟩ = some (.slice AJ2 js.length cJ2) := X12.cell 3
  have H2 := Lib.hid (And.intro X11 (And.intro X12 (And.intro P1 (And.intro P12 B1))))
  clear hb2 X11 X12 P1 P12 B1 H1
  go_wp2_with fail
  go_loopw [42] (fun iv wr => ∃ j : Nat, j ≤ K ∧ iv = .int .i64 j ∧ Below w2.heap.size w2 wr) (fun iv _ => K - (intOf iv).toNat)
  case atStart => exact ⟨0, by omega, rfl, Below.refl _ _⟩
  case round =>
    clear y1 y3 z1 z3
    obtain ⟨j, hj, rfl, hb⟩ := hrel
    have q0 : (0 : Int) ≤ (j : Int) := by omega
    by_cases hlt : j < K
    · have q1 : (j : Int) < (K : Int) := by omega
      have Q1 := H2.out.2.2.1.below hb
      have Q2 := H2.out.2.2.2.1.below hb
      obtain ⟨v, i, hr1⟩ := rl_at Q1.len hlt
      obtain ⟨v', i', hr2⟩ := rl_at Q2.len hlt
      have hi : i = i' := by
        have h1 : (rl.map Prod.snd)[j]? = some i := by rw [List.getElem?_map, hr1]; rfl
        have h2 : (rl2.map Prod.snd)[j]? = some i' := by rw [List.getElem?_map, hr2]; rfl
        rw [HP.out.2.2, h2] at h1
        injection h1 with h1
        exact h1.symm
      subst hi
      obtain ⟨A, cA, rfl, hA⟩ := Q1.rR j v i hr1
      obtain ⟨A', cA', rfl, hA'⟩ := Q2.rR j v' i hr2
      have hil := HNR.out _ (List.mem_of_getElem? hr1)
      simp only at hil
      have d1 : (rl.map Prod.fst).toArray[j]? = some (.slice A i.length cA) := by simp [hr1]
      have d2 : (rl2.map Prod.fst).toArray[j]? = some (.slice A' i.length cA') := by simp [hr2]
      have HS : Hid (∀ W : World, Below wr.heap.size wr W → W.cell? ⟨w.heap.size, 1, none⟩ = some (.slice (some ⟨gL, 0, none⟩) K K) ∧ W.cell? ⟨gL, j, none⟩ = some (.slice A i.length cA) ∧ W.cell? ⟨w.heap.size + 1, 1, none⟩ = some (.slice (some ⟨gL2, 0, none⟩) K K) ∧ W.cell? ⟨gL2, j, none⟩ = some (.slice A' i.length cA') ∧ Below wr.heap.size wr W) := Lib.hid fun W hW => by
        have E1 := (H2.out.1.below hb H2.out.1.lt)
        have E2 := (H2.out.2.1.below hb H2.out.2.1.lt)
        exact ⟨(E1.below hW E1.lt).cell 1, ((Q1.bL.below hW Q1.bL.lt).cell j).trans d1, (E2.below hW E2.lt).cell 1, ((Q2.bL.below hW Q2.bL.lt).cell j).trans d2, hW⟩
      have HC := Lib.hid fun W hW => SM.out A A' cA cA' i W ((hA.below hW).more (Below.size hW)) ((hA'.below hW).more (Below.size hW)) hil
      obtain ⟨y1, y2, z1, z2, _⟩ := HS.out wr (Below.refl _ _)
      have HB := Lib.hid hb
      clear Q1 Q2 hr1 hr2 hA hA' d1 d2 hb
      go_wp2
      go_region_held3 (fun W => W.cell? ⟨w.heap.size, 1, none⟩ = some (.slice (some ⟨gL, 0, none⟩) K K) ∧ W.cell? ⟨gL, j, none⟩ = some (.slice A i.length cA) ∧ W.cell? ⟨w.heap.size + 1, 1, none⟩ = some (.slice (some ⟨gL2, 0, none⟩) K K) ∧ W.cell? ⟨gL2, j, none⟩ = some (.slice A' i.length cA') ∧ Below wr.heap.size wr W)
        (first | exact HS.out _ (Below.drew (Below.refl _ _)) | exact HS.out _ (by (with_reducible repeat (first | exact Below.refl _ _ | exact hb3 | refine bto0 ?_ hb3 | refine bdr ?_ _ | refine Below.drew ?_ | refine ball ?_ _))) | assumption)
        (first | (go_at_call 22; (with_reducible refine (HC.out _ (Below.drew (Below.refl _ _))).mono ?_); rintro e w3 ⟨rfl, hb3⟩))
      go_wp2
      go_roundw
      case rel => exact ⟨j + 1, by omega, by go_num, bto0 HB.out (by (with_reducible repeat (first | exact Below.refl _ _ | exact hb3 | refine bto0 ?_ hb3 | refine bdr ?_ _ | refine Below.drew ?_ | refine ball ?_ _)))⟩
      case measure => simp [intOf]; omega
    · obtain rfl : j = K := by omega
      have E1 := (H2.out.1.below hb H2.out.1.lt)
      have E2 := (H2.out.2.1.below hb H2.out.2.1.lt)
      have y3 : wr.cell? ⟨w.heap.size, 3, none⟩ = some (.slice AJ js.length cJ) := E1.cell 3
      have z3 : wr.cell? ⟨w.heap.size + 1, 3, none⟩ = some (.slice AJ2 js.length cJ2) := E2.cell 3
      have Q1 := (H2.out.2.2.1.below hb).rJ
      have Q2 := (H2.out.2.2.2.1.below hb).rJ
      have hbw := bto0 H2.out.2.2.2.2 hb
      have HE := Lib.hid (And.intro E1 E2)
      clear E1 E2
      go_wp2_with fail
      obtain ⟨W3, hW3⟩ : ∃ W3 : World, wr = W3 := ⟨_, rfl⟩
      rw [hW3] at Q1 Q2 hbw y3 z3 HE ⊢
      clear hW3
      go_loopw [61] (fun iv wr => ∃ m : Nat, m ≤ js.length ∧ iv = .int .i64 m ∧ Below W3.heap.size W3 wr) (fun iv _ => js.length - (intOf iv).toNat)
      case atStart => exact ⟨0, by omega, rfl, Below.refl _ _⟩
      case round =>
        clear y3 z3
        obtain ⟨m, hm, rfl, hb⟩ := hrel
        have q2 : (0 : Int) ≤ (m : Int) := by omega
        by_cases hmt : m < js.length
        · have q3 : (m : Int) < (js.length : Int) := by omega
          obtain ⟨ad, x, rfl, hab, hx, d0, d1, d2, d3, d4⟩ := (Q1.below hb).jn hmt
          obtain ⟨ad2, x2, rfl, hab2, hx2, f0, f1, f2, f3, f4⟩ := (Q2.below hb).jn hmt
          rw [hx] at hx2
          injection hx2 with hx2
          subst hx2
          have y3 : wr.cell? ⟨w.heap.size, 3, none⟩ = some (.slice (some ad) js.length cJ) := (HE.out.1.below hb HE.out.1.lt).cell 3
          have z3 : wr.cell? ⟨w.heap.size + 1, 3, none⟩ = some (.slice (some ad2) js.length cJ2) := (HE.out.2.below hb HE.out.2.lt).cell 3
          clear hx
          go_wp2
          go_quiet (fail)
          go_wp2
          go_roundw
          case rel => exact ⟨m + 1, by omega, by go_num, bdr hb _⟩
          case measure => simp [intOf]; omega
        · obtain rfl : m = js.length := by omega
          go_wp2
          go_ret
          exact ⟨rfl, bto0 hbw hb⟩
end Go.Proofs.Ytbmfojeklhbocaa
