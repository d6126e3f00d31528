/-
  The reference's Name.
-/
import Derived.Test.YtflolnilagogpaaIb
set_option linter.unusedSimpArgs false
set_option linter.unusedVariables false
namespace Go.Proofs.Ytflolnilagogpaa
open Go.RowKit

theorem class_c (c : UInt8) : ∃ a1 a2 d1 d2 b : Bool, (decide ((97 : Int) ≤ (c.toNat : Int)) = a1 ∧ decide ((c.toNat : Int) ≤ 122) = a2 ∧ decide ((48 : Int) ≤ (c.toNat : Int)) = d1 ∧ decide ((c.toNat : Int) ≤ 57) = d2 ∧ ((c.toNat : Int) == 95) = b) ∧ letB c = (a1 && a2) ∧ nmB c = ((a1 && a2) || ((d1 && d2) || b)) ∧
    ((a1 = false ∧ a2 = true ∧ d1 = false ∧ d2 = true ∧ b = false) ∨ (a1 = false ∧ a2 = true ∧ d1 = true ∧ d2 = true ∧ b = false) ∨ (a1 = false ∧ a2 = true ∧ d1 = true ∧ d2 = false ∧ b = false) ∨ (a1 = false ∧ a2 = true ∧ d1 = true ∧ d2 = false ∧ b = true) ∨ (a1 = true ∧ a2 = true ∧ d1 = true ∧ d2 = false ∧ b = false) ∨ (a1 = true ∧ a2 = false ∧ d1 = true ∧ d2 = false ∧ b = false)) := by
  refine ⟨_, _, _, _, _, ⟨rfl, rfl, rfl, rfl, rfl⟩, ?_, ?_, ?_⟩
  · unfold letB
    have h1 : decide ((97 : Int) ≤ (c.toNat : Int)) = decide (97 ≤ c.toNat) := decide_eq_decide.2 (by omega)
    have h2 : decide ((c.toNat : Int) ≤ 122) = decide (c.toNat ≤ 122) := decide_eq_decide.2 (by omega)
    rw [h1, h2]
  · unfold nmB letB digB
    rw [beq95]
    have h1 : decide ((97 : Int) ≤ (c.toNat : Int)) = decide (97 ≤ c.toNat) := decide_eq_decide.2 (by omega)
    have h2 : decide ((c.toNat : Int) ≤ 122) = decide (c.toNat ≤ 122) := decide_eq_decide.2 (by omega)
    have h3 : decide ((48 : Int) ≤ (c.toNat : Int)) = decide (48 ≤ c.toNat) := decide_eq_decide.2 (by omega)
    have h4 : decide ((c.toNat : Int) ≤ 57) = decide (c.toNat ≤ 57) := decide_eq_decide.2 (by omega)
    rw [h1, h2, h3, h4]
  · simp only [decide_eq_true_iff, decide_eq_false_iff_not, beq_iff_eq, beq_eq_false_iff_ne]
    omega
theorem nameB_cons (s : ByteArray) (h0 : 0 < s.size) (h24 : s.size ≤ 24) (h : letB s[0] = true) : nameB s.data.toList = (s.data.toList.drop 1).all nmB := by
  rw [nameB_all s h0 h24 h]
  have hd := drop_atL s 0 h0
  rw [List.drop_zero] at hd
  have : nmB s[0] = true := by unfold nmB; rw [h]; rfl
  rw [hd, List.all_cons, this, Bool.true_and]
  rfl
set_option maxHeartbeats 2000000 in
theorem rname_any (s : ByteArray) (hs : s.size ≤ maxLen) (w : World) : Calls Try.prog 10 #[.string s] w fun e w' => e = .returned (.bool (nameB s.data.toList)) ∧ w = w' := by
  unfold maxLen at hs
  have hsI : (s.size : Int) ≤ 9223372036854775807 := by omega
  clear hs
  by_cases h0 : 0 < s.size
  · have g0 : (0 : Int) < (s.size : Int) := by omega
    have g1 : (1 : Int) ≤ (s.size : Int) := by omega
    by_cases h24 : s.size ≤ 24
    · have g24 : (s.size : Int) ≤ 24 := by omega
      have H24 := Lib.hid h24
      clear h24
      go_enter Try.func10, Try.ntmps10
      go_wp2
      go_loop [3] (fun v => ∃ i : Nat, i ≤ s.size ∧ v = .int .i64 i ∧ (i = 0 ∨ (1 ≤ i ∧ nameB s.data.toList = (s.data.toList.drop i).all nmB))) (fun v => s.size - (intOf v).toNat)
      case atStart => exact ⟨0, by omega, rfl, .inl rfl⟩
      case round =>
        obtain ⟨i, hi, rfl, he⟩ := hrel
        have q0 : (0 : Int) ≤ (i : Int) := by omega
        by_cases hlt : i < s.size
        · have q1 : (i : Int) < (s.size : Int) := by omega
          have HD := Lib.hid (And.intro (drop_atL s i hlt) he)
          obtain ⟨a1, a2, d1, d2, b, ⟨f1, f2, f3, f4, f5⟩, hl, hn, hcase⟩ := class_c s[i]
          clear he
          have key : ((a1 && a2) = true → i = 0 → nameB s.data.toList = (s.data.toList.drop (i + 1)).all nmB) ∧ ((a1 && a2) = false → i = 0 → nameB s.data.toList = false) ∧ (((a1 && a2) || ((d1 && d2) || b)) = true → 1 ≤ i → nameB s.data.toList = (s.data.toList.drop (i + 1)).all nmB) ∧ (((a1 && a2) || ((d1 && d2) || b)) = false → 1 ≤ i → nameB s.data.toList = false) := by
            refine ⟨fun h h' => ?_, fun h h' => ?_, fun h h' => ?_, fun h h' => ?_⟩
            · subst h'; exact nameB_cons s h0 H24.out (hl.trans h)
            · subst h'; exact nameB_first s h0 (hl.trans h)
            · rcases HD.out.2 with h2 | ⟨_, h2⟩
              · omega
              · rw [h2, HD.out.1, List.all_cons, hn, h, Bool.true_and]
            · rcases HD.out.2 with h2 | ⟨_, h2⟩
              · omega
              · rw [h2, HD.out.1, List.all_cons, hn, h, Bool.false_and]
          have HK := Lib.hid (And.intro key trivial)
          clear key hl hn
          by_cases hi0 : i = 0
          · subst hi0
            rcases hcase with ⟨rfl, rfl, rfl, rfl, rfl⟩ | ⟨rfl, rfl, rfl, rfl, rfl⟩ | ⟨rfl, rfl, rfl, rfl, rfl⟩ | ⟨rfl, rfl, rfl, rfl, rfl⟩ | ⟨rfl, rfl, rfl, rfl, rfl⟩ | ⟨rfl, rfl, rfl, rfl, rfl⟩
            all_goals
              go_wp2
              first
                | (go_round
                   case rel => exact ⟨0 + 1, by omega, by go_num, .inr ⟨by omega, HK.out.1.1 (by first | rfl | trivial) (by first | rfl | trivial)⟩⟩
                   case measure => simp [intOf]; omega)
                | (go_ret
                   exact ⟨by rw [HK.out.1.2.1 (by first | rfl | trivial) (by first | rfl | trivial)]; rfl, rfl⟩)
          · have q3 : (1 : Int) ≤ (i : Int) := by omega
            have q4 : ((i : Int) == 0) = false := by simp; omega
            rcases hcase with ⟨rfl, rfl, rfl, rfl, rfl⟩ | ⟨rfl, rfl, rfl, rfl, rfl⟩ | ⟨rfl, rfl, rfl, rfl, rfl⟩ | ⟨rfl, rfl, rfl, rfl, rfl⟩ | ⟨rfl, rfl, rfl, rfl, rfl⟩ | ⟨rfl, rfl, rfl, rfl, rfl⟩
            all_goals
              go_wp2
              first
                | (go_round
                   case rel => exact ⟨i + 1, by omega, by go_num, .inr ⟨by omega, HK.out.1.2.2.1 (by first | rfl | trivial) (by omega)⟩⟩
                   case measure => simp [intOf]; omega)
                | (go_ret
                   exact ⟨by rw [HK.out.1.2.2.2 (by first | rfl | trivial) (by omega)]; rfl, rfl⟩)
        · obtain rfl : i = s.size := by omega
          have hF : Hid (nameB s.data.toList = true) := Lib.hid (by
            rcases he with h2 | ⟨_, h2⟩
            · omega
            · rw [h2, List.drop_eq_nil_of_le (by rw [szL]; exact Nat.le_refl _)]; rfl)
          clear he
          go_wp2
          go_ret
          exact ⟨by rw [hF.out]; rfl, rfl⟩
    · have g24 : (24 : Int) < (s.size : Int) := by omega
      have hN : Hid (nameB s.data.toList = false) := Lib.hid (nameB_long _ (by rw [szL]; omega))
      go_enter Try.func10, Try.ntmps10
      go_wp2
      go_ret
      exact ⟨by rw [hN.out]; rfl, rfl⟩
  · have g0 : (s.size : Int) = 0 := by omega
    have hN : Hid (nameB s.data.toList = false) := Lib.hid (by rw [show s.data.toList = [] from List.eq_nil_of_length_eq_zero (by rw [szL]; omega)]; rfl)
    go_enter Try.func10, Try.ntmps10
    go_wp2
    go_ret
    exact ⟨by rw [hN.out]; rfl, rfl⟩
end Go.Proofs.Ytflolnilagogpaa
