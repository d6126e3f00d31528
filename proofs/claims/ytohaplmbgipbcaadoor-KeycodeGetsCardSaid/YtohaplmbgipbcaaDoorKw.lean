/-
  Keys as rows: contract of the reference's text.
-/
import Derived.Test.YtohaplmbgipbcaaDoorKm
set_option linter.unusedSimpArgs false
namespace Go.Proofs.YtohaplmbgipbcaaDoor
open Go.RowKit

def RetTx (w : World) (s : ByteArray) (p : Nat) (e : Ending) (w' : World) : Prop := Below w.heap.size w w' ∧ match txt [] (s.data.toList.drop p) with
  | .bad k => e = .returned (.tuple #[.string ⟨#[]⟩, .int .i64 0, .int .i64 k])
  | .ok t r => ∃ (q : Nat) (x : Int), x = (q : Int) ∧ p ≤ q ∧ q ≤ s.size ∧ r = s.data.toList.drop q ∧ e = .returned (.tuple #[.string (str t), .int .i64 x, .int .i64 0])
theorem RetTx.bad_ {w w' : World} {s : ByteArray} {p : Nat} {k : Int} {e : Ending} (ht : txt [] (s.data.toList.drop p) = .bad k) (h : Below w.heap.size w w') (he : e = .returned (.tuple #[.string ⟨#[]⟩, .int .i64 0, .int .i64 k])) : RetTx w s p e w' := by
  refine ⟨h, ?_⟩
  rw [ht]
  exact he
theorem RetTx.ok_ {w w' : World} {s : ByteArray} {p q : Nat} {x : Int} {t : List UInt8} {e : Ending} (ht : txt [] (s.data.toList.drop p) = .ok t (s.data.toList.drop q)) (h : Below w.heap.size w w') (hx : x = (q : Int)) (h1 : p ≤ q) (h2 : q ≤ s.size) (he : e = .returned (.tuple #[.string (str t), .int .i64 x, .int .i64 0])) : RetTx w s p e w' := by
  refine ⟨h, ?_⟩
  rw [ht]
  exact ⟨q, x, hx, h1, h2, rfl, he⟩

set_option maxRecDepth 100000 in
set_option maxHeartbeats 4000000 in
theorem rtext_any (s : ByteArray) (p : Nat) (x : Int) (hx : x = (p : Int)) (w : World) (hs : s.size ≤ 100000) (hp : p ≤ s.size) : Calls Tryd.prog 27 #[.string s, .int .i64 x] w (RetTx w s p) := by
  subst hx
  have hsI : (s.size : Int) ≤ 100000 := by omega
  have hO := Own.empty w (g := w.heap.size) rfl
  have hb0 : Below w.heap.size w (w.alloc (.cells #[] 5)) := ball (Below.refl _ _) _
  have hpI : (p : Int) ≤ (s.size : Int) := by omega
  have hp0 : (0 : Int) ≤ (p : Int) := by omega
  go_enter Tryd.func27, Tryd.ntmps27
  go_wp2
  go_loopw [1, 7] (fun av bv wr => ∃ (i : Nat) (o : List UInt8), p ≤ i ∧ i ≤ s.size ∧ o.length ≤ i ∧ av = .int .i64 (i : Int) ∧ Own wr w.heap.size bv o ∧ Below w.heap.size w wr ∧ txt [] (s.data.toList.drop p) = txt o (s.data.toList.drop i)) (fun av _ _ => s.size - (intOf av).toNat)
  case atStart => exact ⟨p, [], Nat.le_refl _, hp, by simp, rfl, hO, hb0, rfl⟩
  case round =>
    obtain ⟨i, o, hpi, hi, ho, rfl, hown, hb, he⟩ := hrel
    have HE := Lib.hid he; clear he
    have hbs := hb.size
    have q0 : (0 : Int) ≤ (i : Int) := by omega
    by_cases hlt : i < s.size
    · have q1 : (i : Int) < (s.size : Int) := by omega
      have HDR := Lib.hid (drop_at s i hlt)
      by_cases hc : s[i] = 0
      · have hcb : ((s[i].toNat : Int) != 0) = false := by rw [hc]; rfl
        by_cases h1 : i + 1 < s.size
        · have q2 : (i : Int) + 1 < (s.size : Int) := by omega
          have e1 : ((i : Int) + 1 == (s.size : Int)) = false := beq_eq_false_iff_ne.2 (by omega)
          have HDR2 := Lib.hid (drop_at s (i + 1) h1)
          by_cases hd1 : s[i + 1] = 1
          · have hdb1 : ((s[i + 1].toNat : Int) == 1) = true := by rw [hd1]; rfl
            obtain ⟨A5, c5, rfl, hc5⟩ := hown.form
            by_cases h48 : 48 < o.length
            · have g48 : (48 : Int) < (o.length : Int) := by omega
              have hno : Hid (txt [] (s.data.toList.drop p) = .bad 4) := Lib.hid (by rw [HE.out, HDR.out, HDR2.out, hc, hd1, txt_z1, if_pos h48])
              clear hc hd1 hown
              go_wp2
              exact bodyPost_ret (v := .tuple #[.string ⟨#[]⟩, .int .i64 0, .int .i64 4]) (by simp [results, Tryd.results27, go_sem]) rfl (RetTx.bad_ hno.out hb rfl)
            · have g48 : (o.length : Int) ≤ 48 := by omega
              have hyes : Hid (txt [] (s.data.toList.drop p) = .ok o (s.data.toList.drop (i + 2))) := Lib.hid (by rw [HE.out, HDR.out, HDR2.out, hc, hd1, txt_z1, if_neg h48])
              have hcv := hown.conv
              obtain ⟨P, hP⟩ : ∃ P, str o = P := ⟨_, rfl⟩
              rw [hP] at hcv
              have HP := Lib.hid hP
              clear hc hd1 hown hP
              go_wp2
              exact bodyPost_ret (v := .tuple #[.string P, .int .i64 ((i : Int) + 1 + 1), .int .i64 0]) (by simp [results, Tryd.results27, go_sem]) rfl (RetTx.ok_ (x := (i : Int) + 1 + 1) hyes.out hb (by omega) (by omega) (by omega) (by rw [HP.out]))
          · have hdb1 := (u8_ne1 hd1).2
            by_cases hd : s[i + 1] = 255
            · have hdb : ((s[i + 1].toNat : Int) != 255) = false := by rw [hd]; rfl
              have hst : Hid (txt [] (s.data.toList.drop p) = txt (o ++ [0]) (s.data.toList.drop (i + 2))) := Lib.hid (by rw [HE.out, HDR.out, HDR2.out, hc, hd, txt_z255])
              clear hc hd hd1
              go_wp2_with (at_builtin; refine wpList_pushB rfl _ _ rfl w.heap.size u7 o 0 _ rfl hown _ rfl rfl rfl (by omega) hbs ?_; intro v2 w2 own2 kp2)
              go_roundw
              case rel => exact ⟨i + 2, o ++ [0], by omega, by omega, by simp; omega, by go_num, own2, kp2.below _ _ (Nat.le_refl _) hb, hst.out⟩
              case measure => simp [intOf]; omega
            · have hdb : ((s[i + 1].toNat : Int) != 255) = true := by
                have : (s[i + 1].toNat : Int) ≠ 255 := fun e => hd (UInt8.toNat_inj.1 (by show s[i + 1].toNat = 255; omega))
                simpa using this
              have hno : Hid (txt [] (s.data.toList.drop p) = .bad 2) := Lib.hid (by rw [HE.out, HDR.out, HDR2.out, hc, txt, if_pos rfl, if_neg hd, if_neg hd1])
              clear hc hd hd1
              go_wp2
              exact bodyPost_ret (v := .tuple #[.string ⟨#[]⟩, .int .i64 0, .int .i64 2]) (by simp [results, Tryd.results27, go_sem]) rfl (RetTx.bad_ hno.out hb rfl)
        · have e1 : ((i : Int) + 1 == (s.size : Int)) = true := by rw [beq_iff_eq]; omega
          have hno : Hid (txt [] (s.data.toList.drop p) = .bad 3) := Lib.hid (by rw [HE.out, HDR.out, List.drop_eq_nil_of_le (by rw [szl]; omega)]; rfl)
          clear hc
          go_wp2
          exact bodyPost_ret (v := .tuple #[.string ⟨#[]⟩, .int .i64 0, .int .i64 3]) (by simp [results, Tryd.results27, go_sem]) rfl (RetTx.bad_ hno.out hb rfl)
      · have hcb := u8_ne0 hc
        have hst : Hid (txt [] (s.data.toList.drop p) = txt (o ++ [s[i]]) (s.data.toList.drop (i + 1))) := Lib.hid (by rw [HE.out, HDR.out, txt_step hc])
        clear hc
        go_wp2_with (at_builtin; refine wpList_pushB rfl _ _ rfl w.heap.size u7 o s[i] _ rfl hown _ rfl rfl rfl (by omega) hbs ?_; intro v2 w2 own2 kp2)
        go_roundw
        case rel => exact ⟨i + 1, o ++ [s[i]], by omega, by omega, by simp; omega, by go_num, own2, kp2.below _ _ (Nat.le_refl _) hb, hst.out⟩
        case measure => simp [intOf]; omega
    · have hno : Hid (txt [] (s.data.toList.drop p) = .bad 3) := Lib.hid (by rw [HE.out, List.drop_eq_nil_of_le (by rw [szl]; omega)]; simp [txt])
      go_wp2
      exact bodyPost_ret (v := .tuple #[.string ⟨#[]⟩, .int .i64 0, .int .i64 3]) (by simp [results, Tryd.results27, go_sem]) rfl (RetTx.bad_ hno.out hb rfl)
end Go.Proofs.YtohaplmbgipbcaaDoor
