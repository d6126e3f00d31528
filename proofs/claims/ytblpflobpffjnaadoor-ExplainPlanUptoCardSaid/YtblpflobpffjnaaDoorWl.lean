
/-
  The program's Plan.
-/
import Derived.Test.YtblpflobpffjnaaDoorWk
set_option linter.unusedSimpArgs false
set_option linter.unusedVariables false
namespace Go.Proofs.YtblpflobpffjnaaDoor
open Go.RowKit

theorem flat_take {α β : Type} (f : α → List β) {l : List α} {k : Nat} {x : α} (h : l[k]? = some x) : (l.take (k + 1)).flatMap f = (l.take k).flatMap f ++ f x := by
  rw [List.take_add_one, h]; simp
theorem flat_bound {α β : Type} (f : α → List β) (M : Nat) : ∀ l : List α, (∀ x ∈ l, (f x).length ≤ M) → (l.flatMap f).length ≤ l.length * M
  | [], _ => by simp
  | x :: r, h => by
    have h1 := h x (by simp)
    have h2 := flat_bound f M r fun y hy => h y (by simp [hy])
    rw [List.flatMap_cons, List.length_append, List.length_cons, Nat.add_mul, Nat.one_mul]
    omega
theorem str_map (l : List (List UInt8)) : (l.map str).map (fun s => s.data.toList) = l := by
  induction l with
  | nil => rfl
  | cons x r ih => simp [ih, str_data]

section
variable {w : World} {Bd : Nat} {A : Option Addr} {n : Nat} {tbs : List Tb} {B : Option Addr} {m : Nat} {ixs : List Ix} {K : Option Addr} {kn : Nat} {ks : List Int}
set_option maxRecDepth 100000 in
set_option maxHeartbeats 4000000 in
theorem plan_any (E : EnvB w Bd A n tbs B m ixs K kn ks) (hBd : Bd ≤ w.heap.size) (hv : VT w) (c d kc : Nat) (v0 v2 v3 v4 v5 v6 v7 v8 v9 v10 : Value) (P : Option Addr) (pn pc : Nat) (sps : List Sp) (srt : Bool)
    (hr : Reads w w.heap.size 11 P pn (vSp sps)) (hok : ∀ x ∈ sps, x.ok) (hn : pn ≤ 50) :
    Calls Tryd.prog 8 #[.agg #[.slice A n c, .slice B m d], .agg #[v0, .slice K kn kc, v2, v3, v4, v5, v6, v7, v8, v9, v10], .agg #[.slice P pn pc, .bool srt]] w (RetB w (.string (str (planT tbs ks ixs sps srt)))) := by
  have hln : sps.length = pn := by have := hr.1; rw [vSp_len] at this; omega
  have pI : (pn : Int) ≤ 50 := by omega
  obtain ⟨WA, hWA⟩ : ∃ WA, ((w.alloc (.cells #[.slice A n c, .slice B m d] 25)).alloc (.cells #[v0, .slice K kn kc, v2, v3, v4, v5, v6, v7, v8, v9, v10] 32)).alloc (.cells #[.slice P pn pc, .bool srt] 35) = WA := ⟨_, rfl⟩
  have hbA : Below w.heap.size w WA := hWA ▸ ball (ball (ball (Below.refl w.heap.size w) _) _) _
  have B0 : Blk WA w.heap.size 25 #[.slice A n c, .slice B m d] := hWA ▸ ((Blk.new w _ _).alloc _).alloc _
  have B1 : Blk WA (w.heap.size + 1) 32 #[v0, .slice K kn kc, v2, v3, v4, v5, v6, v7, v8, v9, v10] := by
    have h := Blk.new (w.alloc (.cells #[.slice A n c, .slice B m d] 25)) 32 #[v0, .slice K kn kc, v2, v3, v4, v5, v6, v7, v8, v9, v10]
    rw [alloc_size] at h
    exact hWA ▸ h.alloc _
  have B2 : Blk WA (w.heap.size + 1 + 1) 35 #[.slice P pn pc, .bool srt] := by
    have h := Blk.new ((w.alloc (.cells #[.slice A n c, .slice B m d] 25)).alloc (.cells #[v0, .slice K kn kc, v2, v3, v4, v5, v6, v7, v8, v9, v10] 32)) 35 #[.slice P pn pc, .bool srt]
    rw [alloc_size, alloc_size] at h
    exact hWA ▸ h
  have hzA : w.heap.size + 1 + 1 + 1 = WA.heap.size := by rw [← hWA, alloc_size, alloc_size, alloc_size]
  have hBE : Below WA.heap.size WA (WA.alloc (.cells #[.pointer none, .slice none 0 0] 74)) := ball (Below.refl _ _) _
  have HN := Lib.hid (Bd30.new WA (b := WA.heap.size) rfl)
  have HBE := Lib.hid hBE
  have HEV := Lib.hid fun (W : World) (hb : Below WA.heap.size WA W) => And.intro (E.below ((bto0 hbA hb).mono hBd)) (And.intro (Nat.le_trans hBd (bto0 hbA hb).size) (hv.below0 (bto0 hbA hb)))
  have HRD := Lib.hid fun (W : World) (hb : Below WA.heap.size WA W) => hr.below (bto0 hbA hb)
  have hS := Lib.hid fun (W : World) (hb : Below WA.heap.size WA W) => (show W.cell? ⟨w.heap.size, 0, none⟩ = some (.slice A n c) ∧ W.cell? ⟨w.heap.size, 1, none⟩ = some (.slice B m d) ∧ W.cell? ⟨w.heap.size + 1, 0, none⟩ = some (v0) ∧ W.cell? ⟨w.heap.size + 1, 1, none⟩ = some (.slice K kn kc) ∧ W.cell? ⟨w.heap.size + 1, 2, none⟩ = some (v2) ∧ W.cell? ⟨w.heap.size + 1, 3, none⟩ = some (v3) ∧ W.cell? ⟨w.heap.size + 1, 4, none⟩ = some (v4) ∧ W.cell? ⟨w.heap.size + 1, 5, none⟩ = some (v5) ∧ W.cell? ⟨w.heap.size + 1, 6, none⟩ = some (v6) ∧ W.cell? ⟨w.heap.size + 1, 7, none⟩ = some (v7) ∧ W.cell? ⟨w.heap.size + 1, 8, none⟩ = some (v8) ∧ W.cell? ⟨w.heap.size + 1, 9, none⟩ = some (v9) ∧ W.cell? ⟨w.heap.size + 1, 10, none⟩ = some (v10) ∧ W.cell? ⟨w.heap.size + 1 + 1, 0, none⟩ = some (.slice P pn pc) ∧ W.cell? ⟨w.heap.size + 1 + 1, 1, none⟩ = some (.bool srt) from
    ⟨(hb.cell (by simp <;> omega)).trans (B0.cell 0), (hb.cell (by simp <;> omega)).trans (B0.cell 1), (hb.cell (by simp <;> omega)).trans (B1.cell 0), (hb.cell (by simp <;> omega)).trans (B1.cell 1), (hb.cell (by simp <;> omega)).trans (B1.cell 2), (hb.cell (by simp <;> omega)).trans (B1.cell 3), (hb.cell (by simp <;> omega)).trans (B1.cell 4), (hb.cell (by simp <;> omega)).trans (B1.cell 5), (hb.cell (by simp <;> omega)).trans (B1.cell 6), (hb.cell (by simp <;> omega)).trans (B1.cell 7), (hb.cell (by simp <;> omega)).trans (B1.cell 8), (hb.cell (by simp <;> omega)).trans (B1.cell 9), (hb.cell (by simp <;> omega)).trans (B1.cell 10), (hb.cell (by simp <;> omega)).trans (B2.cell 0), (hb.cell (by simp <;> omega)).trans (B2.cell 1)⟩)
  have HBA := Lib.hid hbA
  have HOK := Lib.hid hok
  have HLN := Lib.hid hln
  have HTN := Lib.hid (And.intro E.tn E.xn)
  have HST := Lib.hid fun (x : Sp) (hx : x.ok) (W : World) (hb : Below WA.heap.size WA W) => step30_any (E.below ((bto0 hbA hb).mono hBd)) (Nat.le_trans hBd (bto0 hbA hb).size) (hv.below0 (bto0 hbA hb)) c d kc v0 v2 v3 v4 v5 v6 v7 v8 v9 v10 x hx
  clear E hv B0 B1 B2 hbA hok hln hr hBE hn
  have nu : w.heap.size < WA.heap.size := by omega
  have nu1 : w.heap.size + 1 < WA.heap.size := by omega
  have nu2 : w.heap.size + 1 + 1 < WA.heap.size := by omega
  obtain ⟨f0, f1, f2, f3, f4, f5, f6, f7, f8, f9, f10, f11, f12, f13, f14⟩ := hS.out _ HBE.out
  have hwin : (pn : Int) ≤ 9223372036854775807 := by omega
  clear hzA
  go_enter Tryd.func8, Tryd.ntmps8
  go_wp2
  clear f0 f1 f2 f3 f4 f5 f6 f7 f8 f9 f10 f11 f12 f13 f14
  go_loopw [13] (fun kv wr => ∃ k : Nat, k ≤ pn ∧ kv = .int .i64 k ∧ Bd30 wr WA.heap.size ((sps.take k).flatMap (stepT tbs ks ixs)) ∧ Below WA.heap.size WA wr) (fun kv _ => pn - (intOf kv).toNat)
  case atStart => exact ⟨0, Nat.zero_le _, rfl, HN.out, HBE.out⟩
  case round =>
    obtain ⟨k, hk, rfl, hbd, hb⟩ := hrel
    have k0 : (0 : Int) ≤ (k : Int) := by omega
    have hzr := hb.size
    have hgt := hbd.lt
    have g0 : w.heap.size < wr.heap.size := by omega
    have g1 : w.heap.size + 1 < wr.heap.size := by omega
    have g2 : w.heap.size + 1 + 1 < wr.heap.size := by omega
    obtain ⟨f0, f1, f2, f3, f4, f5, f6, f7, f8, f9, f10, f11, f12, f13, f14⟩ := hS.out wr hb
    have hlb := flat_bound (stepT tbs ks ixs) 9439001 (sps.take k) fun x hx => by
      have := join30_bd (ks := ks) HTN.out.1 HTN.out.2 (HOK.out x (List.mem_of_mem_take hx))
      unfold stepT
      rw [List.length_append, List.length_cons, List.length_nil]
      omega
    have hlt2 : (sps.take k).length ≤ 50 := by rw [List.length_take, HLN.out]; omega
    have hlb2 : ((sps.take k).flatMap (stepT tbs ks ixs)).length ≤ 50 * 9439001 := Nat.le_trans hlb (Nat.mul_le_mul_right _ hlt2)
    clear hlb hlt2
    by_cases hlt : k < pn
    · have k1 : (k : Int) < (pn : Int) := by omega
      obtain ⟨ad, x, rfl, hab, hx, d0, dall⟩ := (HRD.out wr hb).sp_ hlt
      have d1 := dall 0 _ rfl
      have d2 := dall 1 _ rfl
      have d3 := dall 2 _ rfl
      have d4 := dall 3 _ rfl
      have d5 := dall 4 _ rfl
      have d6 := dall 5 _ rfl
      have d7 := dall 6 _ rfl
      have d8 := dall 7 _ rfl
      have d9 := dall 8 _ rfl
      have d10 := dall 9 _ rfl
      have hxm := List.mem_of_getElem? hx
      have hnx := flat_take (stepT tbs ks ixs) hx
      have hjb := join30_bd (ks := ks) HTN.out.1 HTN.out.2 (HOK.out x hxm)
      have htw := (stepW_two tbs ks ixs x).1
      have htw2 := (stepW_two tbs ks ixs x).2
      have HSX := Lib.hid (HST.out x (HOK.out x hxm))
      unfold Sp.agg at HSX
      rw [show stepT tbs ks ixs x = Lib.join (stepW tbs ks ixs x) [32] ++ [10] from rfl] at hnx
      have HNX := Lib.hid hnx
      clear dall hx hxm hnx
      generalize hSW : stepW tbs ks ixs x = SW at *
      clear hSW
      have HL2 := Lib.hid hlb2
      have HTW := Lib.hid (And.intro htw htw2)
      have HJB := Lib.hid hjb
      clear hlb2 htw htw2 hjb
      go_wp2_with fail
      refine (HSX.out _ (ball hb _)).mono ?_
      rintro e w1 ⟨A1, c1, rfl, hr1, hc1, hb1, ha1⟩
      obtain ⟨ad1, rfl, hlt1, hcl1⟩ := hr1.2 (by have := HTW.out; omega)
      obtain ⟨g, rfl⟩ := ha1 ad1 rfl
      have hcells : ∀ (j : Nat) y, (SW.map str)[j]? = some y → w1.cell? ⟨g, 0 + j, none⟩ = some (.string y) := by
        intro j y hy
        have h := hcl1 j (.string y) (by
          unfold vStr
          rw [List.getElem?_map] at hy ⊢
          obtain ⟨z, hz, rfl⟩ := Option.map_eq_some_iff.1 hy
          rw [hz]; rfl)
        rw [add_head] at h
        rw [Nat.zero_add]; exact h
      have HJ := Tryd.strings_Join g 0 c1 (SW.map str) ⟨#[32]⟩ w1 hcells hlt1 (by rw [List.length_map]; have := HTW.out; omega) (by rw [List.length_map]; exact hc1) (by rw [str_map]; have := HJB.out; exact Nat.le_trans this (by omega))
      rw [List.length_map, str_map] at HJ
      have HJ2 : Hid (Calls Tryd.prog 20 #[.slice (some ⟨g, 0, none⟩) SW.length c1, .string ⟨#[32]⟩] w1 fun e w' => e = .returned (.string (str (Lib.join SW [32]))) ∧ Below w1.heap.size w1 w') := Lib.hid HJ
      clear HJ hcells hcl1 hr1 ha1 hlt1 hc1
      have hbw1 : Below WA.heap.size WA w1 := bto0 (ball hb _) hb1
      have hbd1 : Bd30 w1 WA.heap.size ((sps.take k).flatMap (stepT tbs ks ixs)) := hbd.below0 (bto0 (ball (Below.refl _ _) _) hb1)
      clear hbd hb1
      generalize hJ0 : Lib.join SW [32] = J at *
      clear hJ0
      have o1 : ¬ 9223372036854775807 < (str J).size + 1 := by rw [str_size]; have := HJB.out; omega
      have e1 : str J ++ (⟨#[10]⟩ : ByteArray) = str (J ++ [10]) := str_app30 J [10]
      go_wp2_with fail
      refine HJ2.out.mono ?_
      rintro e w2 ⟨rfl, hb2⟩
      have hbw2 := bto0 hbw1 hb2
      have hbd2 := hbd1.below0 hb2
      have HW := Lib.hid (bws_any WA.heap.size _ (J ++ [10]) w2 hbd2 (by have := HL2.out; have := HJB.out; rw [List.length_append, List.length_cons, List.length_nil]; omega))
      clear hbd1 hbd2 hbw1 hb2
      go_wp2_with fail
      refine HW.out.mono ?_
      rintro e w3 ⟨⟨v, rfl⟩, hbd3, hb3, -⟩
      have hbw3 := hbw2.trans hb3
      go_wp2
      go_roundw
      case rel => exact ⟨k + 1, by omega, by go_num, by rw [HNX.out]; exact hbd3, hbw3⟩
      case measure => simp [intOf]; omega
    · obtain rfl : k = pn := by omega
      have hfin : Hid ((sps.take k).flatMap (stepT tbs ks ixs) = sps.flatMap (stepT tbs ks ixs)) := Lib.hid (by rw [List.take_of_length_le (by rw [HLN.out]; omega)])
      rw [hfin.out] at hbd hlb2
      have HP := Lib.hid (show planT tbs ks ixs sps srt = sps.flatMap (stepT tbs ks ixs) ++ (if srt = true then [115, 111, 114, 116, 10] else []) from rfl)
      generalize sps.flatMap (stepT tbs ks ixs) = L at *
      cases srt
      · have HSS := Lib.hid (bstr_any WA.heap.size _ wr hbd)
        go_wp2_with fail
        refine HSS.out.mono ?_
        rintro e w1 ⟨rfl, hb1⟩
        go_wp2
        go_ret
        exact ⟨by rw [HP.out]; simp, bto HBA.out (hb.trans hb1) HBA.out.size⟩
      · have HW := Lib.hid (bws_str WA.heap.size _ ⟨#[115, 111, 114, 116, 10]⟩ wr hbd (by show _ + 5 ≤ _; omega))
        go_wp2_with fail
        refine HW.out.mono ?_
        rintro e w1 ⟨⟨v, rfl⟩, hbd1, hb1, -⟩
        have HSS := Lib.hid (bstr_any WA.heap.size _ w1 hbd1)
        go_wp2_with fail
        refine HSS.out.mono ?_
        rintro e w2 ⟨rfl, hb2⟩
        go_wp2
        go_ret
        exact ⟨by rw [HP.out]; rfl, bto HBA.out ((hb.trans hb1).trans hb2) HBA.out.size⟩
end
end Go.Proofs.YtblpflobpffjnaaDoor
