/-
  Tokens of queries: contracts of skip, run, letter, sign.
-/
import Derived.Test.YtbmfojeklhbocaaXa
import Derived.Test.YtbmfojeklhbocaaShelf
import Derived.WalkKit
set_option linter.unusedSimpArgs false
set_option linter.unusedVariables false
namespace Go.Proofs.Ytbmfojeklhbocaa
open Go.RowKit

theorem szL (s : ByteArray) : s.data.toList.length = s.size := rfl
theorem drop_atL (s : ByteArray) (i : Nat) (h : i < s.size) : s.data.toList.drop i = s[i] :: s.data.toList.drop (i + 1) := List.drop_eq_getElem_cons (by rw [szL]; exact h)
theorem ib_iff (l : List UInt8) (c : UInt8) : (0 ≤ Lib.indexByte l c) ↔ l.contains c = true := by
  induction l with
  | nil => simp [Lib.indexByte]
  | cons b l ih =>
    have hg := Lib.indexByte_ge l c
    unfold Lib.indexByte
    by_cases h : b = c
    · subst h; simp
    · have h1 : (b == c) = false := by simpa using h
      have h2 : ¬ c = b := fun e => h e.symm
      rw [h1]
      simp only [Bool.false_eq_true, if_false, List.contains_cons]
      have h3 : (c == b) = false := by simpa using h2
      rw [h3, Bool.false_or, ← ih]
      by_cases h4 : Lib.indexByte l c = -1
      · simp [h4]
      · have h5 : (Lib.indexByte l c == -1) = false := by simpa using h4
        rw [h5]
        simp only [Bool.false_eq_true, if_false]
        omega
theorem ib_any (s : ByteArray) (c : UInt8) (w : World) : Calls Try.prog 36 #[.string s, .int .u8 (c.toNat : Int)] w fun e w' => e = .returned (.int .i64 (Lib.indexByte s.data.toList c)) ∧ w = w' := by
  refine (Try.strings_IndexByte s (c.toNat : Int) w).mono ?_
  rintro e w' ⟨he, hw⟩
  refine ⟨?_, hw.symm⟩
  rw [he]
  have : ((c.toNat : Int).toNat.toUInt8) = c := by
    apply UInt8.toNat_inj.1
    simp
  rw [this]
theorem ws_contains (c : UInt8) : ([32, 9, 10, 13] : List UInt8).contains c = wsB c := by
  unfold wsB
  simp [Bool.or_assoc, List.contains_cons]
  rfl
set_option maxHeartbeats 2000000 in
theorem skip_any (s : ByteArray) (p : Nat) (hp : p ≤ s.size) (hs : s.size ≤ 1000000) (w : World) : Calls Try.prog 26 #[.string s, .int .i64 p] w fun e w' => e = .returned (.int .i64 ((p + skipN (s.data.toList.drop p) : Nat) : Int)) ∧ w = w' := by
  have hsI : (s.size : Int) ≤ 1000000 := by omega
  go_enter Try.func26, Try.ntmps26
  go_wp2
  go_loop [1] (fun v => ∃ i : Nat, p ≤ i ∧ i ≤ s.size ∧ v = .int .i64 i ∧ p + skipN (s.data.toList.drop p) = i + skipN (s.data.toList.drop i)) (fun v => s.size - (intOf v).toNat)
  case atStart => exact ⟨p, Nat.le_refl _, hp, rfl, rfl⟩
  case round =>
    obtain ⟨i, hpi, hi, rfl, he⟩ := hrel
    have q0 : (0 : Int) ≤ (i : Int) := by omega
    by_cases hlt : i < s.size
    · have q1 : (i : Int) < (s.size : Int) := by omega
      have hd := drop_atL s i hlt
      have IB := Lib.hid fun W => ib_any ⟨#[32, 9, 10, 13]⟩ s[i] W
      have hiff := ib_iff [32, 9, 10, 13] s[i]
      rw [ws_contains] at hiff
      obtain ⟨q, hq⟩ : ∃ q, Lib.indexByte [32, 9, 10, 13] s[i] = q := ⟨_, rfl⟩
      have hq' : Lib.indexByte (⟨#[32, 9, 10, 13]⟩ : ByteArray).data.toList s[i] = q := hq
      rw [hq'] at IB
      rw [hq] at hiff
      cases hb : wsB s[i] with
      | true =>
        have hq0 : 0 ≤ q := hiff.2 hb
        have hst : Hid (p + skipN (s.data.toList.drop p) = (i + 1) + skipN (s.data.toList.drop (i + 1))) := Lib.hid (by rw [he, hd, skipN, if_pos hb]; omega)
        clear he hd hiff hq hq' hb
        go_wp2_with (go_at_call 36; (with_reducible refine (IB.out _).mono ?_); rintro e w' ⟨rfl, rfl⟩)
        go_round
        case rel => exact ⟨i + 1, by omega, by omega, by go_num, hst.out⟩
        case measure => simp [intOf]; omega
      | false =>
        have hq0 : q < 0 := by
          have : ¬ 0 ≤ q := fun h => by rw [hiff.1 h] at hb; cases hb
          omega
        have hst : Hid (p + skipN (s.data.toList.drop p) = i) := Lib.hid (by rw [he, hd, skipN, hb]; simp)
        clear he hd hiff hq hq' hb
        go_wp2_with (go_at_call 36; (with_reducible refine (IB.out _).mono ?_); rintro e w' ⟨rfl, rfl⟩)
        go_ret
        exact ⟨ret_int (by have := hst.out; omega), rfl⟩
    · obtain rfl : i = s.size := by omega
      have hst : Hid (p + skipN (s.data.toList.drop p) = s.size) := Lib.hid (by rw [he, List.drop_eq_nil_of_le (by rw [szL]; exact Nat.le_refl _)]; rfl)
      clear he
      go_wp2
      go_ret
      exact ⟨ret_int (by have := hst.out; omega), rfl⟩
theorem or32 (c : UInt8) : bits .or .u8 (c.toNat : Int) 32 = ((c ||| 32).toNat : Int) := by
  show IntKind.u8.wrap ((BitVec.ofInt 8 (c.toNat : Int) ||| BitVec.ofInt 8 32).toNat : Int) = _
  have e1 : (BitVec.ofInt 8 (c.toNat : Int)).toNat = c.toNat := by rw [BitVec.toNat_ofInt]; have := c.toNat_lt; omega
  rw [BitVec.toNat_or, e1, IntKind.wrap_u8]
  have h : (c ||| 32).toNat = c.toNat ||| 32 := by simp
  have h2 := (c ||| 32).toNat_lt
  rw [h] at h2 ⊢
  show ((c.toNat ||| 32 : Nat) : Int) % 256 = _
  omega
set_option maxHeartbeats 2000000 in
theorem run_any (s : ByteArray) (hs : s.size ≤ 1000000) (w : World) : Calls Try.prog 37 #[.string s] w fun e w' => e = .returned (.int .i64 ((runN s.data.toList : Nat) : Int)) ∧ w = w' := by
  have hsI : (s.size : Int) ≤ 1000000 := by omega
  go_enter Try.func37, Try.ntmps37
  go_wp2
  go_loop [3] (fun v => ∃ i : Nat, i ≤ s.size ∧ v = .int .i64 i ∧ runN s.data.toList = i + runN (s.data.toList.drop i)) (fun v => s.size - (intOf v).toNat)
  case atStart => exact ⟨0, by omega, rfl, by simp⟩
  case round =>
    obtain ⟨i, hi, rfl, he⟩ := hrel
    have q0 : (0 : Int) ≤ (i : Int) := by omega
    by_cases hlt : i < s.size
    · have q1 : (i : Int) < (s.size : Int) := by omega
      have hd := drop_atL s i hlt
      have hor := or32 s[i]
      have hin : innB s[i] = (s[i] == 95 || (digB s[i] || alB s[i])) := rfl
      have hst : Hid (innB s[i] = true → runN s.data.toList = (i + 1) + runN (s.data.toList.drop (i + 1))) := Lib.hid (fun hb => by rw [he, hd, runN, if_pos hb]; omega)
      have hno : Hid (innB s[i] = false → runN s.data.toList = i) := Lib.hid (fun hb => by rw [he, hd, runN, hb]; simp)
      unfold digB alB at hin
      have h95 : ((s[i].toNat : Int) == 95) = (s[i] == 95) := by
        by_cases h : s[i] = 95
        · rw [h]; rfl
        · have h1 : s[i].toNat ≠ 95 := fun e => h (UInt8.toNat_inj.1 e)
          have a1 : ((s[i].toNat : Int) == 95) = false := by simp; omega
          have a2 : (s[i] == 95) = false := by simpa using h
          rw [a1, a2]
      obtain ⟨b, hb⟩ : ∃ b, (s[i] == 95) = b := ⟨_, rfl⟩
      obtain ⟨y, hy⟩ : ∃ y, (s[i] ||| 32).toNat = y := ⟨_, rfl⟩
      rw [hb] at h95 hin
      rw [hy] at hor hin
      clear he hd hb hy
      by_cases c1 : 48 ≤ s[i].toNat <;> by_cases c2 : s[i].toNat ≤ 57 <;> by_cases c3 : 97 ≤ y <;> by_cases c4 : y ≤ 122 <;> cases b
      all_goals
        simp only [c1, c2, c3, c4, decide_true, decide_false, Bool.and_true, Bool.and_false, Bool.or_true, Bool.or_false] at hin
        first
          | (exfalso; omega)
          | (have hF := Lib.hid (hst.out hin)
             clear hin hst hno
             go_wp2
             go_round
             case rel => exact ⟨i + 1, by omega, by go_num, hF.out⟩
             case measure => simp [intOf]; omega)
          | (have hF := Lib.hid (hno.out hin)
             clear hin hst hno
             go_wp2
             go_ret
             exact ⟨ret_int (by have := hF.out; omega), rfl⟩)
    · obtain rfl : i = s.size := by omega
      have hst : Hid (runN s.data.toList = s.size) := Lib.hid (by rw [he, List.drop_eq_nil_of_le (by rw [szL]; exact Nat.le_refl _)]; rfl)
      clear he
      go_wp2
      go_ret
      exact ⟨ret_int (by have := hst.out; omega), rfl⟩
end Go.Proofs.Ytbmfojeklhbocaa
