
/-
  The reference's number.
-/
import Derived.Test.YtblpflobpffjnaaDoorVm
namespace Go.Proofs.YtblpflobpffjnaaDoor
open Go.RowKit

theorem accR_cons (a : Nat) (c : UInt8) (r : List UInt8) : accR a (c :: r) = if c.toNat < 48 ∨ 57 < c.toNat then none else if 9223372036854775808 < 10 * a + (c.toNat - 48) then none else accR (10 * a + (c.toNat - 48)) r := rfl
theorem drop_at (s : ByteArray) (i : Nat) (h : i < s.size) : s.data.toList.drop i = s[i] :: s.data.toList.drop (i + 1) := by
  rw [List.drop_eq_getElem_cons (by rw [len_size]; exact h)]
  rfl
def RetNum (l : List UInt8) (w : World) (e : Ending) (w' : World) : Prop := e = .returned (.tuple #[.int .i64 (numL l).1, .bool (numL l).2]) ∧ w = w'
theorem toL (l : List UInt8) : (⟨l.toArray⟩ : ByteArray).toList = l := by rw [ByteArray.toList_eq]

set_option maxHeartbeats 2000000 in
theorem number_1 (s : ByteArray) (w : World) (hs : s.size ≤ 30000) (hne : 1 < s.size) (c0 : s[0] = 45) : Calls Tryd.prog 51 #[.string s] w (RetNum s.data.toList w) := by
  have q0 : (0 : Int) < (s.size : Int) := by omega
  have qq0 : 0 < s.size := by omega
  have g0 : ((s[0].toNat : Int) == 45) = true := by rw [c0]; rfl
  have q1 : ((s.size : Int) == 1) = false := beq_eq_false_iff_ne.2 (by omega)
  have hn : numL s.data.toList = match accR 0 (s.data.toList.drop 1) with
      | none => (0, false)
      | some a => (-(a : Int), Lib.itoa (-(a : Int)) == s.data.toList) := by
    have e := drop_at s 0 qq0
    rw [List.drop_zero] at e
    have hr : s.data.toList.drop (0 + 1) ≠ [] := by intro h; have := congrArg List.length h; rw [List.length_drop, len_size] at this; simp at this; omega
    rw [e, numL_cons, if_pos c0, if_neg hr]
    rfl
  have HN := Lib.hid hn
  have HL := Lib.hid (len_size s)
  clear hn c0
  go_enter Tryd.func51, Tryd.ntmps51
  go_wp2
  clear g0 q1
  go_loop [4, 6] (fun nv iv => ∃ (i a : Nat), 1 ≤ i ∧ i ≤ s.size ∧ a ≤ 9223372036854775808 ∧ accR 0 (s.data.toList.drop 1) = accR a (s.data.toList.drop i) ∧ nv = .int .i64 (-(a : Int)) ∧ iv = .int .i64 (i : Int)) (fun _ iv => s.size - (intOf iv).toNat)
  case atStart => exact ⟨1, 0, by omega, by omega, by omega, rfl, rfl, rfl⟩
  case round =>
    obtain ⟨i, a, hi1, hi2, ha, he, rfl, rfl⟩ := hrel
    have HE := Lib.hid he
    have HA := Lib.hid ha
    clear he ha
    have k0 : (0 : Int) ≤ (i : Int) := by omega
    by_cases hlt : i < s.size
    · have k1 : (i : Int) < (s.size : Int) := by omega
      have hst := Lib.hid (drop_at s i hlt)
      have hcon := accR_cons a s[i] (s.data.toList.drop (i + 1))
      have HC := Lib.hid hcon
      clear hcon
      by_cases hd : s[i].toNat < 48 ∨ 57 < s[i].toNat
      · have hno : Hid (numL s.data.toList = (0, false)) := Lib.hid (by rw [HN.out, HE.out, hst.out, HC.out, if_pos hd])
        rcases hd with hd | hd
        · have k2 : decide ((s[i].toNat : Int) < 48) = true := by simp; omega
          clear hd
          go_wp2
          go_ret2
          exact ⟨by rw [hno.out]; rfl, rfl⟩
        · have k2 : decide ((57 : Int) < (s[i].toNat : Int)) = true := by simp; omega
          have k3 : decide ((s[i].toNat : Int) < 48) = false := by simp; omega
          clear hd
          go_wp2
          go_ret2
          exact ⟨by rw [hno.out]; rfl, rfl⟩
      · have k2 : (48 : Int) ≤ (s[i].toNat : Int) := by omega
        have k3 : (s[i].toNat : Int) ≤ 57 := by omega
        have k4 : decide ((57 : Int) < (s[i].toNat : Int)) = false := by simp; omega
        have k5 : decide ((s[i].toNat : Int) < 48) = false := by simp; omega
        have kb := HA.out
        by_cases hov : 9223372036854775808 < 10 * a + (s[i].toNat - 48)
        · have hno : Hid (numL s.data.toList = (0, false)) := Lib.hid (by rw [HN.out, HE.out, hst.out, HC.out, if_neg hd, if_pos hov])
          clear hd
          go_wp2
          all_goals first | (exfalso; omega) | (go_ret2; exact ⟨by rw [hno.out]; rfl, rfl⟩)
        · have hon : Hid (accR 0 (s.data.toList.drop 1) = accR (10 * a + (s[i].toNat - 48)) (s.data.toList.drop (i + 1))) := Lib.hid (by rw [HE.out, hst.out, HC.out, if_neg hd, if_neg hov])
          clear hd
          go_wp2
          all_goals first | (exfalso; omega) | skip
          all_goals
            go_round
            case rel => exact ⟨i + 1, 10 * a + (s[i].toNat - 48), by omega, by omega, by omega, hon.out, val_int (by omega), by go_num⟩
            case measure => simp [intOf]; omega
    · obtain rfl : i = s.size := by omega
      have hdn : s.data.toList.drop s.size = [] := List.drop_eq_nil_of_le (by rw [HL.out]; exact Nat.le_refl _)
      have hac : Hid (accR 0 (s.data.toList.drop 1) = some a) := Lib.hid (by rw [HE.out, hdn]; rfl)
      clear hdn
      have kb := HA.out
      obtain ⟨t, ht, hdc⟩ : ∃ t : ByteArray, Hid (t.toList = Lib.itoa (-(a : Int))) ∧ Hid (∀ W, Calls Tryd.prog 52 #[.int .i64 (-(a : Int))] W fun e w' => e = .returned (.string t) ∧ W = w') := ⟨⟨(Lib.itoa (-(a : Int))).toArray⟩, Lib.hid (toL _), Lib.hid fun W => decimal_any _ (by omega) (by omega) W⟩
      have hfin : Hid (numL s.data.toList = (-(a : Int), t.toList == s.toList)) := Lib.hid (by rw [HN.out, hac.out, ht.out, ByteArray.toList_eq s])
      clear hlt
      go_wp2_with (go_at_call 52; refine (hdc.out _).mono ?_; rintro e w' ⟨rfl, rfl⟩)
      go_ret2
      exact ⟨by rw [hfin.out]; rfl, rfl⟩

set_option maxHeartbeats 2000000 in
theorem number_0 (s : ByteArray) (w : World) (hs : s.size ≤ 30000) (hne : 0 < s.size) (c0 : s[0] ≠ 45) : Calls Tryd.prog 51 #[.string s] w (RetNum s.data.toList w) := by
  have q0 : (0 : Int) < (s.size : Int) := by omega
  have qq0 : 0 < s.size := by omega
  have g0 : ((s[0].toNat : Int) == 45) = false := by have : (s[0].toNat : Int) ≠ 45 := fun e => c0 (UInt8.toNat_inj.1 (by show s[0].toNat = 45; omega)); simpa using this
  have q1 : ((s.size : Int) == 0) = false := beq_eq_false_iff_ne.2 (by omega)
  have hn : numL s.data.toList = match accR 0 (s.data.toList.drop 0) with
      | none => (0, false)
      | some a => if a = 9223372036854775808 then (0, false) else ((a : Int), Lib.itoa (a : Int) == s.data.toList) := by
    have e := drop_at s 0 qq0
    rw [List.drop_zero] at e ⊢
    conv => lhs; rw [e]
    rw [numL_cons, if_neg c0, ← e]
    rfl
  have HN := Lib.hid hn
  have HL := Lib.hid (len_size s)
  clear hn c0
  go_enter Tryd.func51, Tryd.ntmps51
  go_wp2
  clear g0 q1
  go_loop [4, 6] (fun nv iv => ∃ (i a : Nat), 0 ≤ i ∧ i ≤ s.size ∧ a ≤ 9223372036854775808 ∧ accR 0 (s.data.toList.drop 0) = accR a (s.data.toList.drop i) ∧ nv = .int .i64 (-(a : Int)) ∧ iv = .int .i64 (i : Int)) (fun _ iv => s.size - (intOf iv).toNat)
  case atStart => exact ⟨0, 0, by omega, by omega, by omega, rfl, rfl, rfl⟩
  case round =>
    obtain ⟨i, a, hi1, hi2, ha, he, rfl, rfl⟩ := hrel
    have HE := Lib.hid he
    have HA := Lib.hid ha
    clear he ha
    have k0 : (0 : Int) ≤ (i : Int) := by omega
    by_cases hlt : i < s.size
    · have k1 : (i : Int) < (s.size : Int) := by omega
      have hst := Lib.hid (drop_at s i hlt)
      have hcon := accR_cons a s[i] (s.data.toList.drop (i + 1))
      have HC := Lib.hid hcon
      clear hcon
      by_cases hd : s[i].toNat < 48 ∨ 57 < s[i].toNat
      · have hno : Hid (numL s.data.toList = (0, false)) := Lib.hid (by rw [HN.out, HE.out, hst.out, HC.out, if_pos hd])
        rcases hd with hd | hd
        · have k2 : decide ((s[i].toNat : Int) < 48) = true := by simp; omega
          clear hd
          go_wp2
          go_ret2
          exact ⟨by rw [hno.out]; rfl, rfl⟩
        · have k2 : decide ((57 : Int) < (s[i].toNat : Int)) = true := by simp; omega
          have k3 : decide ((s[i].toNat : Int) < 48) = false := by simp; omega
          clear hd
          go_wp2
          go_ret2
          exact ⟨by rw [hno.out]; rfl, rfl⟩
      · have k2 : (48 : Int) ≤ (s[i].toNat : Int) := by omega
        have k3 : (s[i].toNat : Int) ≤ 57 := by omega
        have k4 : decide ((57 : Int) < (s[i].toNat : Int)) = false := by simp; omega
        have k5 : decide ((s[i].toNat : Int) < 48) = false := by simp; omega
        have kb := HA.out
        by_cases hov : 9223372036854775808 < 10 * a + (s[i].toNat - 48)
        · have hno : Hid (numL s.data.toList = (0, false)) := Lib.hid (by rw [HN.out, HE.out, hst.out, HC.out, if_neg hd, if_pos hov])
          clear hd
          go_wp2
          all_goals first | (exfalso; omega) | (go_ret2; exact ⟨by rw [hno.out]; rfl, rfl⟩)
        · have hon : Hid (accR 0 (s.data.toList.drop 0) = accR (10 * a + (s[i].toNat - 48)) (s.data.toList.drop (i + 1))) := Lib.hid (by rw [HE.out, hst.out, HC.out, if_neg hd, if_neg hov])
          clear hd
          go_wp2
          all_goals first | (exfalso; omega) | skip
          all_goals
            go_round
            case rel => exact ⟨i + 1, 10 * a + (s[i].toNat - 48), by omega, by omega, by omega, hon.out, val_int (by omega), by go_num⟩
            case measure => simp [intOf]; omega
    · obtain rfl : i = s.size := by omega
      have hdn : s.data.toList.drop s.size = [] := List.drop_eq_nil_of_le (by rw [HL.out]; exact Nat.le_refl _)
      have hac : Hid (accR 0 (s.data.toList.drop 0) = some a) := Lib.hid (by rw [HE.out, hdn]; rfl)
      clear hdn
      have kb := HA.out
      by_cases h63 : a = 9223372036854775808
      · have hno : Hid (numL s.data.toList = (0, false)) := Lib.hid (by rw [HN.out, hac.out]; simp only [h63, if_true])
        have hb : (-(a : Int) == -9223372036854775808) = true := by simp; omega
        clear hlt h63
        go_wp2
        go_ret2
        exact ⟨by rw [hno.out]; rfl, rfl⟩
      · obtain ⟨t, ht, hdc⟩ : ∃ t : ByteArray, Hid (t.toList = Lib.itoa (a : Int)) ∧ Hid (∀ W, Calls Tryd.prog 52 #[.int .i64 (a : Int)] W fun e w' => e = .returned (.string t) ∧ W = w') := ⟨⟨(Lib.itoa (a : Int)).toArray⟩, Lib.hid (toL _), Lib.hid fun W => decimal_any _ (by omega) (by omega) W⟩
        have hfin : Hid (numL s.data.toList = ((a : Int), t.toList == s.toList)) := Lib.hid (by rw [HN.out, hac.out, ht.out, ByteArray.toList_eq s]; simp only [h63, if_false])
        have hb : (-(a : Int) == -9223372036854775808) = false := by simp; omega
        have hb2 : (a : Int) ≤ 9223372036854775807 := by omega
        clear hlt h63
        go_wp2_with (go_at_call 52; refine (hdc.out _).mono ?_; rintro e w' ⟨rfl, rfl⟩)
        go_ret2
        exact ⟨by rw [hfin.out]; rfl, rfl⟩

set_option maxHeartbeats 2000000 in
theorem number_any (s : ByteArray) (w : World) (hs : s.size ≤ 30000) : Calls Tryd.prog 51 #[.string s] w (RetNum s.data.toList w) := by
  by_cases h0 : 0 < s.size
  · by_cases c0 : s[0] = 45
    · by_cases h1 : 1 < s.size
      · exact number_1 s w hs h1 c0
      · have g0 : ((s[0].toNat : Int) == 45) = true := by rw [c0]; rfl
        have q0 : (0 : Int) < (s.size : Int) := by omega
        have q1 : ((s.size : Int) == 1) = true := by simp; omega
        have e := drop_at s 0 h0
        rw [List.drop_zero] at e
        have hr : s.data.toList.drop (0 + 1) = [] := List.drop_eq_nil_of_le (by rw [len_size]; omega)
        have hn : Hid (numL s.data.toList = (0, false)) := Lib.hid (by rw [e, numL_cons, if_pos c0, if_pos hr])
        clear e hr c0 h1
        go_enter Tryd.func51, Tryd.ntmps51
        go_wp2
        go_ret2
        exact ⟨by rw [hn.out]; rfl, rfl⟩
    · exact number_0 s w hs h0 c0
  · have e : s.data.toList = [] := List.eq_nil_of_length_eq_zero (by rw [len_size]; omega)
    have hn : Hid (numL s.data.toList = (0, false)) := Lib.hid (by rw [e]; rfl)
    have q0 : ((s.size : Int) == 0) = true := by have : (s.size : Int) = 0 := by omega
                                                 rw [this]; rfl
    have q1 : decide ((0 : Int) < (s.size : Int)) = false := decide_eq_false (by omega)
    clear e
    go_enter Tryd.func51, Tryd.ntmps51
    go_wp2
    go_ret2
    exact ⟨by rw [hn.out]; rfl, rfl⟩
end Go.Proofs.YtblpflobpffjnaaDoor
