/-
  Keys as rows: contract of the program's getText.
-/
import Derived.Test.YtohaplmbgipbcaaDoorKh
import Derived.Test.YtohaplmbgipbcaaDoorKo
set_option linter.unusedSimpArgs false
namespace Go.Proofs.YtohaplmbgipbcaaDoor
open Go.RowKit

theorem txt_step {c : UInt8} (hc : c ≠ 0) (X o : List UInt8) : txt o (c :: X) = txt (o ++ [c]) X := by
  cases X with
  | nil => simp [txt]
  | cons d q => rw [txt, if_neg hc]
theorem kdT_bad {l : List UInt8} {e : Int} (h : txt [] l = .bad e) : kdT l = .bad e := by unfold kdT; rw [h]
theorem kdT_ok {l t r : List UInt8} (h : txt [] l = .ok t r) : kdT l = .ok ⟨3, 0, str t⟩ r := by unfold kdT; rw [h]; rfl
theorem u8_ne0 {c : UInt8} (h : c ≠ 0) : ((c.toNat : Int) != 0) = true := by
  have : (c.toNat : Int) ≠ 0 := fun e => h (UInt8.toNat_inj.1 (by show c.toNat = 0; omega))
  simpa using this
theorem u8_ne1 {c : UInt8} (h : c ≠ 1) : ((c.toNat : Int) != 1) = true ∧ ((c.toNat : Int) == 1) = false := by
  have : (c.toNat : Int) ≠ 1 := fun e => h (UInt8.toNat_inj.1 (by show c.toNat = 1; omega))
  exact ⟨by simpa using this, by simpa using this⟩

set_option maxRecDepth 100000 in
set_option maxHeartbeats 4000000 in
theorem getText_any (s : ByteArray) (w : World) (hs : s.size ≤ 100000) : Calls Tryd.prog 32 #[.string s] w (RetG w (kdT s.data.toList)) := by
  have HSz := Lib.hid hs
  have hsI : (s.size : Int) ≤ 100000 := by omega
  go_enter Tryd.func32, Tryd.ntmps32
  go_wp2
  go_loopw [5, 6] (fun bv iv wr => ∃ (i : Nat) (o : List UInt8), i ≤ s.size ∧ o.length ≤ i ∧ iv = .int .i64 (i : Int) ∧ Own wr w.heap.size bv o ∧ Blk wr w.heap.size 43 #[.int .u8 0, .int .i64 0, .string ⟨#[]⟩] ∧ Below w.heap.size w wr ∧ txt [] s.data.toList = txt o (s.data.toList.drop i)) (fun _ iv _ => s.size - (intOf iv).toNat)
  case atStart => exact ⟨0, [], by omega, by simp, rfl, Own.nil _ _, Blk.new _ _ _, ball (Below.refl _ _) _, rfl⟩
  case round =>
    obtain ⟨i, o, hi, ho, rfl, hown, hX, hb, he⟩ := hrel
    have HE := Lib.hid he; clear he
    have hbs := hb.size
    have q0 : (0 : Int) ≤ (i : Int) := by omega
    have c0 := hX.cell 0
    have c1 := hX.cell 1
    have c2 := hX.cell 2
    have f0 := hX.frozen 0
    have f1 := hX.frozen 1
    have f2 := hX.frozen 2
    by_cases hlt : i < s.size
    · have q1 : (i : Int) < (s.size : Int) := by omega
      have hdr := drop_at s i hlt
      have HDR := Lib.hid hdr; clear hdr
      by_cases hc : s[i] = 0
      · have hcb : ((s[i].toNat : Int) != 0) = false := by rw [hc]; rfl
        by_cases h1 : i + 1 < s.size
        · have q2 : (i : Int) + 1 < (s.size : Int) := by omega
          have e1 : ((i : Int) + 1 == (s.size : Int)) = false := beq_eq_false_iff_ne.2 (by omega)
          have hdr2 := drop_at s (i + 1) h1
          have HDR2 := Lib.hid hdr2; clear hdr2
          by_cases hd : s[i + 1] = 255
          · have hdb : ((s[i + 1].toNat : Int) == 255) = true := by rw [hd]; rfl
            have hst : Hid (txt [] s.data.toList = txt (o ++ [0]) (s.data.toList.drop (i + 2))) := Lib.hid (by rw [HE.out, HDR.out, HDR2.out, hc, hd, txt_z255])
            clear hc hd c0 c1 c2 f0 f1 f2
            go_wp2_with (at_builtin; refine wpList_pushB rfl _ _ rfl w.heap.size u5 o 0 _ rfl hown _ rfl rfl rfl (by omega) hbs ?_; intro v2 w2 own2 kp2)
            go_roundw
            case rel => exact ⟨i + 2, o ++ [0], by omega, by simp; omega, by go_num, own2, kp2.blk _ _ _ (by decide) hX, kp2.below _ _ (Nat.le_refl _) hb, hst.out⟩
            case measure => simp [intOf]; omega
          · have hdb : ((s[i + 1].toNat : Int) == 255) = false := by
              have : (s[i + 1].toNat : Int) ≠ 255 := fun e => hd (UInt8.toNat_inj.1 (by show s[i + 1].toNat = 255; omega))
              simpa using this
            by_cases hd1 : s[i + 1] = 1
            · have hdb1 : ((s[i + 1].toNat : Int) != 1) = false := by rw [hd1]; rfl
              obtain ⟨A5, c5, rfl, hc5⟩ := hown.form
              by_cases h48 : 48 < o.length
              · have g48 : (48 : Int) < (o.length : Int) := by omega
                have g48' : 48 < o.length := h48
                have hno : Hid (kdT s.data.toList = .bad 4) := Lib.hid (kdT_bad (by rw [HE.out, HDR.out, HDR2.out, hc, hd1, txt_z1, if_pos h48]))
                clear hc hd hd1 hown
                go_wp2
                exact bodyPost_ret (v := .tuple #[.agg #[.int .u8 0, .int .i64 0, .string ⟨#[]⟩], .string ⟨#[]⟩, .int .i64 4]) (by simp [results, Tryd.results32, go_sem, c0, c1, c2]) rfl (by rw [hno.out]; exact RetG.bad_ (by repeat (first | exact hb | refine Below.drew ?_ | refine Below.setCell ?_ (by simp) _)) rfl)
              · have g48 : (o.length : Int) ≤ 48 := by omega
                have g48' : o.length ≤ 48 := by omega
                have hyes : Hid (kdT s.data.toList = .ok ⟨3, 0, str o⟩ (s.data.toList.drop (i + 2))) := Lib.hid (kdT_ok (by rw [HE.out, HDR.out, HDR2.out, hc, hd1, txt_z1, if_neg h48]))
                have hcv : (convert 40 9 (.slice A5 o.length c5)).run Tryd.prog wr.drew = .ok (.string (str o)) wr.drew := conv_reads hown.reads.1.drew _ 5 _ Tryd.underlying40 Tryd.underlying5 Tryd.underlying9 c5
                have hd8 := ext_drop s (i + 2)
                obtain ⟨T, hT⟩ : ∃ T, s.extract (i + 2) s.size = T := ⟨_, rfl⟩
                rw [hT] at hd8
                have HD := Lib.hid hd8; clear hd8
                obtain ⟨P, hP⟩ : ∃ P, str o = P := ⟨_, rfl⟩
                rw [hP] at hcv
                have HP := Lib.hid hP
                have hT2 : s.extract (i + 1 + 1) s.size = T := hT
                clear hc hd hd1 hown hP
                have k2 : (i : Int) + 1 + 1 ≤ (s.size : Int) := by omega
                have k3 : i + 1 + 1 ≤ s.size := by omega
                go_wp2
                go_region
                all_goals go_wp2
                all_goals exact bodyPost_ret (v := .tuple #[.agg #[.int .u8 3, .int .i64 0, .string P], .string T, .int .i64 0]) (by simp [results, Tryd.results32, go_sem, c0, c1, c2, hT2]) rfl (by rw [hyes.out]; exact RetG.ok_ (by repeat (first | exact hb | refine Below.drew ?_ | refine Below.setCell ?_ (by simp) _)) (by rw [HP.out, ← HD.out]))
            · have hdb1 := (u8_ne1 hd1).1
              have hno : Hid (kdT s.data.toList = .bad 2) := Lib.hid (kdT_bad (by rw [HE.out, HDR.out, HDR2.out, hc, txt, if_pos rfl, if_neg hd, if_neg hd1]))
              clear hc hd hd1
              go_wp2
              exact bodyPost_ret (v := .tuple #[.agg #[.int .u8 0, .int .i64 0, .string ⟨#[]⟩], .string ⟨#[]⟩, .int .i64 2]) (by simp [results, Tryd.results32, go_sem, c0, c1, c2]) rfl (by rw [hno.out]; exact RetG.bad_ (by repeat (first | exact hb | refine Below.drew ?_ | refine Below.setCell ?_ (by simp) _)) rfl)
        · have e1 : ((i : Int) + 1 == (s.size : Int)) = true := by rw [beq_iff_eq]; omega
          have hno : Hid (kdT s.data.toList = .bad 3) := Lib.hid (kdT_bad (by rw [HE.out, HDR.out, List.drop_eq_nil_of_le (by rw [szl]; omega)]; rfl))
          clear hc
          go_wp2
          exact bodyPost_ret (v := .tuple #[.agg #[.int .u8 0, .int .i64 0, .string ⟨#[]⟩], .string ⟨#[]⟩, .int .i64 3]) (by simp [results, Tryd.results32, go_sem, c0, c1, c2]) rfl (by rw [hno.out]; exact RetG.bad_ (by repeat (first | exact hb | refine Below.drew ?_ | refine Below.setCell ?_ (by simp) _)) rfl)
      · have hcb := u8_ne0 hc
        have hst : Hid (txt [] s.data.toList = txt (o ++ [s[i]]) (s.data.toList.drop (i + 1))) := Lib.hid (by rw [HE.out, HDR.out, txt_step hc])
        clear hc c0 c1 c2 f0 f1 f2
        go_wp2_with (at_builtin; refine wpList_pushB rfl _ _ rfl w.heap.size u5 o s[i] _ rfl hown _ rfl rfl rfl (by omega) hbs ?_; intro v2 w2 own2 kp2)
        go_roundw
        case rel => exact ⟨i + 1, o ++ [s[i]], by omega, by simp; omega, by go_num, own2, kp2.blk _ _ _ (by decide) hX, kp2.below _ _ (Nat.le_refl _) hb, hst.out⟩
        case measure => simp [intOf]; omega
    · have hno : Hid (kdT s.data.toList = .bad 3) := Lib.hid (kdT_bad (by rw [HE.out, List.drop_eq_nil_of_le (by rw [szl]; omega)]; simp [txt]))
      go_wp2
      exact bodyPost_ret (v := .tuple #[.agg #[.int .u8 0, .int .i64 0, .string ⟨#[]⟩], .string ⟨#[]⟩, .int .i64 3]) (by simp [results, Tryd.results32, go_sem, c0, c1, c2]) rfl (by rw [hno.out]; exact RetG.bad_ (by repeat (first | exact hb | refine Below.drew ?_ | refine Below.setCell ?_ (by simp) _)) rfl)
end Go.Proofs.YtohaplmbgipbcaaDoor
