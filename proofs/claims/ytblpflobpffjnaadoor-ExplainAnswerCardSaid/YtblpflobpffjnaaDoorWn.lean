
/-
  The law ExplainValues: its walk.
-/
import Derived.Test.YtblpflobpffjnaaDoorWm
import Derived.Test.YtblpflobpffjnaaDoorGr
set_option linter.unusedSimpArgs false
set_option linter.unusedVariables false
namespace Go.Proofs.YtblpflobpffjnaaDoor
open Go.RowKit

theorem VO.vt {w : World} (h : VO w) : VT w := h.tab
theorem grV_small : ∀ {l : List Vl} {n : Int}, 0 ≤ n → grV n l = false → (∀ v ∈ l, v.s.size ≤ 4999) ∧ n + (l.length : Int) ≤ max n 5000
  | [], n, h0, _ => ⟨by simp, by simp; omega⟩
  | v :: r, n, h0, h => by
    unfold grV at h
    split at h
    · cases h
    · rename_i hn
      obtain ⟨h1, h2⟩ := grV_small (l := r) (n := n + (1 + min (v.s.size : Int) 9000)) (by omega) h
      refine ⟨fun u hu => ?_, ?_⟩
      · rcases List.mem_cons.1 hu with rfl | hu
        · omega
        · exact h1 u hu
      · simp only [List.length_cons]
        omega
theorem mayS_len {v : Vl} (h : MayS v) : (showL v).length ≤ 98 := by
  rcases may_cases h.1 with rfl | ⟨i, rfl⟩ | rfl | rfl | ⟨s, rfl, hs⟩
  · decide
  · have := Lib.itoa_length_le i h.2.1 h.2.2
    show (Lib.itoa i).length ≤ 98
    omega
  · decide
  · decide
  · have h1 := dblL_len s.data.toList
    have h2 := len_size s
    show (39 :: (dblL s.data.toList ++ [39])).length ≤ 98
    simp only [List.length_cons, List.length_append, List.length_nil]
    omega

set_option maxRecDepth 100000 in
set_option maxHeartbeats 4000000 in
theorem explainValues_any (s : ByteArray) (A : Option Addr) (n c : Nat) (l : List Vl) (w : World) (hv : VO w) (hr : Reads w w.heap.size 3 A n (vV l)) (hok : ∀ v ∈ l, v.ok) (hn : n ≤ maxLen) :
    Calls Tryd.prog 5 #[.string s, .slice A n c] w (RetB w (.bool true)) := by
  have HV := Lib.hid fun (W : World) (hb : Below w.heap.size w W) => hv.below0 hb
  have HG := Lib.hid fun W (h : Reads W w.heap.size 3 A n (vV l)) => great_any A n c l W w.heap.size h (fun v hv => (hok v hv).2.2) hn
  have HR := Lib.hid hr
  have HOK := Lib.hid hok
  have hln : l.length = n := by have := hr.1; rw [vV_len] at this; omega
  have HLN := Lib.hid hln
  have HF := Lib.hid fun (W : World) (hb : Below w.heap.size w W) => fixed30_any W (hv.below0 hb).vt
  have nI : (n : Int) ≤ 9223372036854775807 := by unfold maxLen at hn; omega
  clear hv hr hok hln hn
  by_cases hl : 3000 < s.size
  · have hl' : (3000 : Int) < (s.size : Int) := by omega
    clear hl
    go_enter Tryd.func5, Tryd.ntmps5
    go_wp2_with fail
    refine (HF.out _ (Below.refl _ _)).mono ?_
    rintro e w2 ⟨rfl, hb2⟩
    go_wp2
    go_ret
    exact ⟨rfl, hb2⟩
  · have hl' : (s.size : Int) ≤ 3000 := by omega
    have HS := Lib.hid (show s.data.toList.length ≤ 3000 by rw [len_size]; omega)
    clear hl
    by_cases hg : grV 0 l = true
    · rw [hg] at HG
      clear hg
      go_enter Tryd.func5, Tryd.ntmps5
      go_wp2_with fail
      refine (HG.out _ HR.out).mono ?_
      rintro e w' ⟨rfl, rfl⟩
      go_wp2_with fail
      refine (HF.out _ (Below.refl _ _)).mono ?_
      rintro e w2 ⟨rfl, hb2⟩
      go_wp2
      go_ret
      exact ⟨rfl, hb2⟩
    · have hg' : grV 0 l = false := by simpa using hg
      have hsm := grV_small (Int.le_refl 0) hg'
      rw [hg'] at HG
      have HSM := Lib.hid hsm
      have n5 : n ≤ 5000 := by have := hsm.2; have := HLN.out; omega
      clear hg hg' hsm
      have HVP := Lib.hid fun (W : World) (hb : Below w.heap.size w W) => values_any s.data.toList W (HV.out W hb) (.inl HS.out) (by have := HS.out; omega)
      have HVR := Lib.hid fun (W : World) => rvalues_any s.data.toList W HS.out
      rw [str_of] at HVP HVR
      rw [vals_eq] at HVP
      have hle : ∀ lv, valsR s.data.toList = some lv → lv.length ≤ 3001 := fun lv h => by
        have := ln_len (valsR_ln h)
        have := HS.out
        omega
      generalize valsR s.data.toList = o at *
      obtain ⟨lv, b, hlv, hlvn⟩ : ∃ (lv : List Vl) (b : Bool), ((o = none ∧ lv = [] ∧ b = false) ∨ (o = some lv ∧ b = true)) ∧ lv.length ≤ 3001 := by
        cases o with
        | none => exact ⟨[], false, .inl ⟨rfl, rfl, rfl⟩, by simp⟩
        | some lv => exact ⟨lv, true, .inr ⟨rfl, rfl⟩, hle lv rfl⟩
      clear hle
      have hret : ∀ (W : World) (e : Ending) (W' : World), RetVals o W e W' → ∃ A c, e = .returned (.tuple #[.slice A lv.length c, .bool b]) ∧ Reads W' W'.heap.size 3 A lv.length (vV lv) ∧ Below W.heap.size W W' := by
        rintro W e W' ⟨hb, h⟩
        rcases hlv with ⟨h1, rfl, rfl⟩ | ⟨h1, rfl⟩
        · rcases h with ⟨_, A, c, he⟩ | ⟨l', A, c, h2, _⟩
          · exact ⟨A, c, he, ⟨rfl, fun h => absurd h (Nat.lt_irrefl _)⟩, hb⟩
          · rw [h1] at h2; cases h2
        · rcases h with ⟨h2, _⟩ | ⟨l', A, c, h2, he, hr⟩
          · rw [h1] at h2; cases h2
          · rw [h1] at h2
            injection h2 with h2
            subst h2
            exact ⟨A, c, he, hr, hb⟩
      have HRET := Lib.hid hret
      clear hlv hret
      have hbne : (b != b) = false := by simp
      go_enter Tryd.func5, Tryd.ntmps5
      go_wp2_with fail
      refine (HG.out _ HR.out).mono ?_
      rintro e w' ⟨rfl, rfl⟩
      go_wp2_with fail
      refine (HVP.out _ (Below.refl _ _)).mono ?_
      intro e w1 h1
      obtain ⟨A1, c1, rfl, hr1, hb1⟩ := HRET.out _ _ _ h1
      clear h1
      go_wp2_with fail
      refine (HVR.out _).mono ?_
      intro e w2 h2
      obtain ⟨A2, c2, rfl, hr2, hb2⟩ := HRET.out _ _ _ h2
      clear h2
      have hbw2 := bto0 hb1 hb2
      have HSA := Lib.hid (same30_any A1 lv.length c1 A2 c2 lv w2 ((hr1.below hb2).more hb2.size) hr2 (by omega))
      clear hb1 hb2 hr1 hr2 hlvn
      go_wp2_with fail
      refine HSA.out.mono ?_
      rintro e w3 ⟨rfl, hb3⟩
      have hbw3 := bto0 hbw2 hb3
      clear hbw2 hb3
      go_wp2
      go_loopw [42] (fun kv wr => ∃ k : Nat, k ≤ n ∧ kv = .int .i64 k ∧ Below w.heap.size w wr ∧ Hid (∀ j, j < k → ∀ v, l[j]? = some v → mayV v = true)) (fun kv _ => n - (intOf kv).toNat)
      case atStart => exact ⟨0, Nat.zero_le _, rfl, hbw3, Lib.hid fun j hj => by omega⟩
      case round =>
        clear hbw3
        obtain ⟨k, hk, rfl, hb, hmay⟩ := hrel
        have k0 : (0 : Int) ≤ (k : Int) := by omega
        by_cases hlt : k < n
        · have k1 : (k : Int) < (n : Int) := by omega
          obtain ⟨ad, v, rfl, hab, hvv, d0, d1, d2⟩ := (HR.out.below hb).val hlt
          have HM := Lib.hid fun W => rmay_any v (HOK.out v (List.mem_of_getElem? hvv)) W
          have HVV := Lib.hid hvv
          cases hmv : mayV v with
          | true =>
            have hst : Hid (∀ j, j < k + 1 → ∀ v, l[j]? = some v → mayV v = true) := Lib.hid fun j hj u hu => by
              by_cases h : j < k
              · exact hmay.out j h u hu
              · have : j = k := by omega
                subst this
                rw [HVV.out] at hu
                injection hu with hu
                subst hu
                exact hmv
            rw [hmv] at HM
            clear hvv hmv
            obtain ⟨vk, vi, vs⟩ := v
            unfold Vl.agg at HM
            simp only at *
            go_wp2_with fail
            refine (HM.out _).mono ?_
            rintro e w4 ⟨rfl, hb4⟩
            have hbw4 := bto0 (ball hb (.cells #[.int .u8 vk, .int .i64 vi, .string vs] 55)) hb4
            clear hb hb4
            go_wp2
            go_roundw
            case rel => exact ⟨k + 1, by omega, by go_num, hbw4, hst⟩
            case measure => simp [intOf]; omega
          | false =>
            rw [hmv] at HM
            clear hvv hmv
            obtain ⟨vk, vi, vs⟩ := v
            unfold Vl.agg at HM
            simp only at *
            go_wp2_with fail
            refine (HM.out _).mono ?_
            rintro e w4 ⟨rfl, hb4⟩
            have hbw4 := bto0 (ball hb (.cells #[.int .u8 vk, .int .i64 vi, .string vs] 55)) hb4
            clear hb hb4
            go_wp2_with fail
            refine (HF.out _ hbw4).mono ?_
            rintro e w5 ⟨rfl, hb5⟩
            go_wp2
            go_ret
            exact ⟨rfl, bto0 hbw4 hb5⟩
        · obtain rfl : k = n := by omega
          by_cases hz : k = 0
          · have hz0 : ((k : Int) == 0) = true := beq_iff_eq.2 (by omega)
            clear hz
            go_wp2_with fail
            refine (HF.out _ hb).mono ?_
            rintro e w5 ⟨rfl, hb5⟩
            go_wp2
            go_ret
            exact ⟨rfl, bto0 hb hb5⟩
          · have hz0 : ((k : Int) == 0) = false := beq_eq_false_iff_ne.2 (by omega)
            have hrow : RowOk l := fun v hv => ⟨(HOK.out v hv).2.1.1, (HOK.out v hv).2.1.2, HSM.out.1 v hv⟩
            have hms : ∀ v ∈ l, MayS v := fun v hv => by
              obtain ⟨j, hj, he⟩ := List.mem_iff_getElem.1 hv
              exact ⟨hmay.out j (by rw [← HLN.out]; exact hj) v (by rw [List.getElem?_eq_getElem hj, he]), (HOK.out v hv).2.1.1, (HOK.out v hv).2.1.2⟩
            have hlnn : Ln (joinB (l.map showL)) l := ⟨fun e => hz (by rw [← HLN.out, e]; rfl), rfl, hms⟩
            have hjl : (joinB (l.map showL)).length ≤ 1000000 := by
              have h1 := joinB_bound 98 (l.map showL) (fun x hx => by
                obtain ⟨v, hv, rfl⟩ := List.mem_map.1 hx
                exact mayS_len (hms v hv))
              rw [List.length_map, HLN.out] at h1
              have h2 : k * (98 + 3) ≤ 5000 * (98 + 3) := Nat.mul_le_mul_right _ n5
              omega
            have hvp := ln_valsP hlnn (f := (joinB (l.map showL)).length + 1) (ln_len hlnn)
            have HL := Lib.hid fun (W : World) (hb : Below w.heap.size w W) => line_any A k c l W ((HR.out.below hb).more hb.size) hrow (by omega)
            have HVB := Lib.hid fun (W : World) (hb : Below w.heap.size w W) => values_any (joinB (l.map showL)) W (HV.out W hb) (.inr ⟨l, hlnn⟩) hjl
            rw [hvp] at HVB
            generalize joinB (l.map showL) = J at *
            clear hrow hms hlnn hjl hvp hz
            go_wp2_with fail
            refine (HL.out _ hb).mono ?_
            rintro e w4 ⟨rfl, hb4⟩
            have hbw4 := bto0 hb hb4
            clear hb hb4
            go_wp2_with fail
            refine (HVB.out _ hbw4).mono ?_
            rintro e w5 ⟨hb5, h5⟩
            obtain ⟨A3, c3, rfl, hr3⟩ : ∃ A3 c3, e = .returned (.tuple #[.slice A3 l.length c3, .bool true]) ∧ Reads w5 w5.heap.size 3 A3 l.length (vV l) := by
              rcases h5 with ⟨h, _⟩ | ⟨l', A, c, h, he, hr⟩
              · cases h
              · injection h with h
                subst h
                exact ⟨A, c, he, hr⟩
            have hbw5 := bto0 hbw4 hb5
            clear hbw4 hb5 h5
            rw [HLN.out] at hr3
            have e3 : l.length = k := HLN.out
            rw [e3]
            clear e3
            go_wp2_with fail
            refine (HF.out _ hbw5).mono ?_
            rintro e w6 ⟨rfl, hb6⟩
            have hbw6 := bto0 hbw5 hb6
            have HSB := Lib.hid (same30_any A3 k c3 A c l w6 ((hr3.below hb6).more hb6.size) ((HR.out.below hbw6).more hbw6.size) (by omega))
            clear hbw5 hb6 hr3
            go_wp2_with fail
            refine HSB.out.mono ?_
            rintro e w7 ⟨rfl, hb7⟩
            go_wp2
            go_ret
            exact ⟨rfl, bto0 hbw6 hb7⟩
end Go.Proofs.YtblpflobpffjnaaDoor
