/-
  Several texts in one: Fb.
-/
import Derived.Test.YtgndebdoljnheaaGreatDoorMeak
import Derived.Test.YtgndebdoljnheaaGreatDoorShelf
import Derived.WalkKit
/-
  Tokens of queries: contracts of letter, Name, sign.
-/
namespace Go.Proofs.YtgndebdoljnheaaGreatDoor
section
set_option linter.unusedSimpArgs false
set_option linter.unusedVariables false
open Go.RowKit

theorem szL (s : ByteArray) : s.data.toList.length = s.size := rfl
theorem drop_atL (s : ByteArray) (i : Nat) (h : i < s.size) : s.data.toList.drop i = s[i] :: s.data.toList.drop (i + 1) := List.drop_eq_getElem_cons (by rw [szL]; exact h)
theorem letter_any (c : UInt8) (w : World) : Calls Tryz.prog 156 #[.int .u8 (c.toNat : Int)] w fun e w' => e = .returned (.bool (letB c)) ∧ w = w' := by
  unfold letB
  by_cases c1 : 97 ≤ c.toNat
  · by_cases c2 : c.toNat ≤ 122
    · simp only [c1, c2, decide_true, Bool.and_true]
      go_enter Tryz.func156, Tryz.ntmps156
      go_wp2
      go_ret
      exact ⟨by have : ((c.toNat : Int) ≤ 122) := by omega
                simp [this], rfl⟩
    · simp only [c1, c2, decide_true, decide_false, Bool.and_false]
      go_enter Tryz.func156, Tryz.ntmps156
      go_wp2
      go_ret
      exact ⟨by have : ¬ ((c.toNat : Int) ≤ 122) := by omega
                simp [this], rfl⟩
  · simp only [c1, decide_false, Bool.false_and]
    go_enter Tryz.func156, Tryz.ntmps156
    go_wp2
    go_ret
    exact ⟨rfl, rfl⟩
theorem beq95 (c : UInt8) : ((c.toNat : Int) == 95) = (c == 95) := by
  by_cases h : c = 95
  · rw [h]; rfl
  · have h1 : c.toNat ≠ 95 := fun e => h (UInt8.toNat_inj.1 e)
    have a1 : ((c.toNat : Int) == 95) = false := by simp; omega
    have a2 : (c == 95) = false := by simpa using h
    rw [a1, a2]
theorem bne95 (c : UInt8) : ((c.toNat : Int) != 95) = !(c == 95) := by
  have h := beq95 c
  unfold bne
  rw [h]
theorem nameB_long (l : List UInt8) (h : 24 < l.length) : nameB l = false := by
  cases l with
  | nil => rfl
  | cons c l =>
    simp only [List.length_cons] at h
    have : ¬ l.length < 24 := by omega
    simp [nameB, this]
theorem nameB_first (s : ByteArray) (h0 : 0 < s.size) (h : letB s[0] = false) : nameB s.data.toList = false := by
  have hd := drop_atL s 0 h0
  rw [List.drop_zero] at hd
  rw [hd, nameB, h]; simp
theorem nameB_all (s : ByteArray) (h0 : 0 < s.size) (h24 : s.size ≤ 24) (h : letB s[0] = true) : nameB s.data.toList = s.data.toList.all nmB := by
  have hd := drop_atL s 0 h0
  rw [List.drop_zero] at hd
  have hl := szL s
  rw [hd, List.length_cons] at hl
  have : (s.data.toList.drop (0 + 1)).length < 24 := by omega
  rw [hd, nameB, h, decide_eq_true this, Bool.true_and, Bool.true_and]
set_option maxHeartbeats 2000000 in
theorem name_any (s : ByteArray) (hs : s.size ≤ 1000000) (w : World) : Calls Tryz.prog 124 #[.string s] w fun e w' => e = .returned (.bool (nameB s.data.toList)) ∧ w = w' := by
  have hsI : (s.size : Int) ≤ 1000000 := by omega
  have LT := Lib.hid fun (c : UInt8) (W : World) => letter_any c W
  by_cases h0 : 0 < s.size
  · have g0 : (0 : Int) < (s.size : Int) := by omega
    have g1 : (1 : Int) ≤ (s.size : Int) := by omega
    by_cases h24 : s.size ≤ 24
    · have g24 : (s.size : Int) ≤ 24 := by omega
      cases hf : letB s[0] with
      | false =>
        have hN : Hid (nameB s.data.toList = false) := Lib.hid (nameB_first s h0 hf)
        have L0 := Lib.hid fun W => LT.out s[0] W
        rw [hf] at L0
        clear hf
        go_enter Tryz.func124, Tryz.ntmps124
        go_wp2_with (go_at_call 156; (with_reducible refine (L0.out _).mono ?_); rintro e w' ⟨rfl, rfl⟩)
        go_ret
        exact ⟨by rw [hN.out]; rfl, rfl⟩
      | true =>
        have hN : Hid (nameB s.data.toList = s.data.toList.all nmB) := Lib.hid (nameB_all s h0 h24 hf)
        have L0 := Lib.hid fun W => LT.out s[0] W
        rw [hf] at L0
        clear hf
        go_enter Tryz.func124, Tryz.ntmps124
        go_wp2_with (go_at_call 156; (with_reducible refine (L0.out _).mono ?_); rintro e w' ⟨rfl, rfl⟩)
        go_loop [20] (fun v => ∃ i : Nat, i ≤ s.size ∧ v = .int .i64 i ∧ s.data.toList.all nmB = (s.data.toList.drop i).all nmB) (fun v => s.size - (intOf v).toNat)
        case atStart => exact ⟨0, by omega, rfl, by simp⟩
        case round =>
          obtain ⟨i, hi, rfl, he⟩ := hrel
          have q0 : (0 : Int) ≤ (i : Int) := by omega
          by_cases hlt : i < s.size
          · have q1 : (i : Int) < (s.size : Int) := by omega
            have hd := drop_atL s i hlt
            have LI := Lib.hid fun W => LT.out s[i] W
            have h95 := bne95 s[i]
            have hin : nmB s[i] = (letB s[i] || (digB s[i] || s[i] == 95)) := rfl
            rw [hd, List.all_cons] at he
            have hst : Hid (nmB s[i] = true → s.data.toList.all nmB = (s.data.toList.drop (i + 1)).all nmB) := Lib.hid (fun hb => by rw [he, hb, Bool.true_and])
            have hno : Hid (nmB s[i] = false → s.data.toList.all nmB = false) := Lib.hid (fun hb => by rw [he, hb, Bool.false_and])
            unfold digB at hin
            obtain ⟨b, hb⟩ : ∃ b, (s[i] == 95) = b := ⟨_, rfl⟩
            obtain ⟨t, ht⟩ : ∃ t, letB s[i] = t := ⟨_, rfl⟩
            rw [hb] at h95 hin
            rw [ht] at LI hin
            clear he hd hb ht
            by_cases c1 : 48 ≤ s[i].toNat <;> by_cases c2 : s[i].toNat ≤ 57 <;> cases b <;> cases t
            all_goals
              have b2 : decide ((s[i].toNat : Int) ≤ 57) = decide (s[i].toNat ≤ 57) := decide_eq_decide.2 (by omega)
              simp only [c2, decide_true, decide_false] at b2
              simp only [c1, c2, decide_true, decide_false, Bool.and_true, Bool.and_false, Bool.or_true, Bool.or_false, Bool.true_or, Bool.false_or] at hin
              simp only [Bool.not_true, Bool.not_false] at h95
              first
                | (exfalso; omega)
                | (have hF := Lib.hid (hst.out hin)
                   clear hin hst hno
                   go_wp2_with (go_at_call 156; (with_reducible refine (LI.out _).mono ?_); rintro e w' ⟨rfl, rfl⟩)
                   go_round
                   case rel => exact ⟨i + 1, by omega, by go_num, hF.out⟩
                   case measure => simp [intOf]; omega)
                | (have hF := Lib.hid (hno.out hin)
                   clear hin hst hno
                   go_wp2_with (go_at_call 156; (with_reducible refine (LI.out _).mono ?_); rintro e w' ⟨rfl, rfl⟩)
                   go_ret
                   exact ⟨by rw [hN.out, hF.out]; rfl, rfl⟩)
          · obtain rfl : i = s.size := by omega
            have hF : Hid (s.data.toList.all nmB = true) := Lib.hid (by rw [he, List.drop_eq_nil_of_le (by rw [szL]; exact Nat.le_refl _)]; rfl)
            clear he
            go_wp2
            go_ret
            exact ⟨by rw [hN.out, hF.out]; rfl, rfl⟩
    · have g24 : (24 : Int) < (s.size : Int) := by omega
      have hN : Hid (nameB s.data.toList = false) := Lib.hid (nameB_long _ (by rw [szL]; omega))
      go_enter Tryz.func124, Tryz.ntmps124
      go_wp2
      go_ret
      exact ⟨by rw [hN.out]; rfl, rfl⟩
  · have g0 : (s.size : Int) = 0 := by omega
    have hN : Hid (nameB s.data.toList = false) := Lib.hid (by rw [show s.data.toList = [] from List.eq_nil_of_length_eq_zero (by rw [szL]; omega)]; rfl)
    go_enter Tryz.func124, Tryz.ntmps124
    go_wp2
    go_ret
    exact ⟨by rw [hN.out]; rfl, rfl⟩
end
end Go.Proofs.YtgndebdoljnheaaGreatDoor
