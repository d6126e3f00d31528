
/-
  The program's shown: how many bytes the value has with which a line begins.
-/
import Derived.Test.YtblpflobpffjnaaDoorWa
import Derived.Test.YtblpflobpffjnaaDoorVm
set_option linter.unusedSimpArgs false
set_option linter.unusedVariables false
namespace Go.Proofs.YtblpflobpffjnaaDoor
open Go.RowKit

theorem hp_one (l : List UInt8) : Lib.hasPrefix l [39] = decide (l.head? = some 39) := by
  cases l with
  | nil => rfl
  | cons c r =>
    unfold Lib.hasPrefix
    simp only [List.isPrefixOf, List.head?_cons, Option.some.injEq, Bool.and_true]
    by_cases h : c = 39
    · subst h; rfl
    · have h2 : ¬ (39 : UInt8) = c := fun e => h e.symm
      simp [h, h2]
theorem hp_bar (l : List UInt8) : Lib.hasPrefix l [32, 124, 32] = decide (l.take 3 = [32, 124, 32]) := by
  unfold Lib.hasPrefix
  by_cases h : l.take 3 = [32, 124, 32]
  · rw [drop3_eq h]
    simp
  · rw [decide_eq_false h]
    cases hp : List.isPrefixOf [32, 124, 32] l with
    | false => rfl
    | true =>
      obtain ⟨t, rfl⟩ := List.isPrefixOf_iff_prefix.1 hp
      exact absurd rfl h
theorem ib_tw (l : List UInt8) : (Lib.indexByte l 32 = -1 ∧ (l.takeWhile (· != 32)).length = l.length) ∨ Lib.indexByte l 32 = ((l.takeWhile (· != 32)).length : Int) := by
  induction l with
  | nil => exact .inl ⟨rfl, rfl⟩
  | cons b l ih =>
    unfold Lib.indexByte
    by_cases hb : b = 32
    · subst hb
      exact .inr rfl
    · have h1 : (b == 32) = false := by simpa using hb
      have h2 : (b != 32) = true := by simpa using hb
      rw [List.takeWhile_cons, if_pos h2, h1]
      rcases ih with ⟨e1, e2⟩ | e
      · rw [e1]
        exact .inl ⟨rfl, by simp [e2]⟩
      · rw [e]
        refine .inr ?_
        have : (((l.takeWhile (· != 32)).length : Int) == -1) = false := beq_eq_false_iff_ne.2 (by omega)
        rw [this]
        simp
theorem ib_any' (s : ByteArray) (c : UInt8) (w : World) : Calls Tryd.prog 46 #[.string s, .int .u8 (c.toNat : Int)] w fun e w' => e = .returned (.int .i64 (Lib.indexByte s.data.toList c)) ∧ w' = w := by
  refine (Tryd.strings_IndexByte s (c.toNat : Int) w).mono ?_
  rintro e w' ⟨he, hw⟩
  refine ⟨?_, hw⟩
  rw [he]
  have : ((c.toNat : Int).toNat.toUInt8) = c := by
    apply UInt8.toNat_inj.1
    simp
  rw [this]
theorem scan_ne {c : UInt8} (h : c ≠ 39) (r : List UInt8) : scanQ (c :: r) = 1 + scanQ r := by
  cases r with
  | nil => rfl
  | cons d r => rw [scanQ, if_neg h]
theorem at_drop (s : ByteArray) (k : Nat) (h : k < s.size) : s.data.toList.drop k = s[k] :: s.data.toList.drop (k + 1) := by
  have hl : k < s.data.toList.length := by rw [len_size]; exact h
  rw [List.drop_eq_getElem_cons hl]
  rfl

set_option maxHeartbeats 1000000 in
theorem shown_any (s : ByteArray) (w : World) (hs : s.size ≤ 10000000) : Calls Tryd.prog 28 #[.string s] w fun e w' => e = .returned (.int .i64 (shownN s.data.toList)) ∧ w = w' := by
  have HP := Lib.hid fun W => Tryd.strings_HasPrefix s ⟨#[39]⟩ W
  have HB : Hid (∀ W : World, Calls Tryd.prog 46 #[.string s, .int .u8 32] W fun e w' => e = .returned (.int .i64 (Lib.indexByte s.data.toList 32)) ∧ w' = W) := Lib.hid fun W => ib_any' s 32 W
  by_cases hq : s.data.toList.head? = some 39
  · have e1 : Lib.hasPrefix s.data.toList (⟨#[39]⟩ : ByteArray).data.toList = true := by
      show Lib.hasPrefix s.data.toList [39] = true
      rw [hp_one, hq]; rfl
    rw [e1] at HP
    have hne : s.data.toList ≠ [] := by intro e; rw [e] at hq; cases hq
    have hz : 0 < s.size := by rw [← len_size]; exact List.length_pos_iff.2 hne
    have e2 : shownN s.data.toList = 1 + scanQ (s.data.toList.drop 1) := by
      unfold shownN
      rw [if_pos hq, List.drop_one]
    have HE := Lib.hid e2
    have HZ := Lib.hid hz
    have sI : (s.size : Int) ≤ 10000000 := by omega
    clear e1 e2 hq hne hz hs
    go_enter Tryd.func28, Tryd.ntmps28
    go_wp2_with (go_at_call 30; (with_reducible refine (HP.out _).mono ?_); rintro e w' ⟨rfl, rfl⟩)
    go_loop [4] (fun v => ∃ k : Nat, 1 ≤ k ∧ k ≤ s.size ∧ v = .int .i64 k ∧ shownN s.data.toList = k + scanQ (s.data.toList.drop k)) (fun v => s.size - (intOf v).toNat)
    case atStart => exact ⟨1, by omega, HZ.out, rfl, HE.out⟩
    case round =>
      obtain ⟨k, hk1, hk, rfl, he⟩ := hrel
      have HK := Lib.hid he
      clear he
      have k0 : (0 : Int) ≤ (k : Int) := by omega
      by_cases hlt : k < s.size
      · have k1 : (k : Int) < (s.size : Int) := by omega
        have HD := Lib.hid (at_drop s k hlt)
        by_cases hc : s[k] = 39
        · have hcb : ((s[k].toNat : Int) != 39) = false := by rw [hc]; rfl
          have hc' : ((s[k].toNat : Int) == 39) = true := by rw [hc]; rfl
          have HC := Lib.hid hc
          clear hc
          by_cases hlt2 : k + 1 < s.size
          · have k2 : (k : Int) + 1 < (s.size : Int) := by omega
            have k3 : ((k : Int) + 1 == (s.size : Int)) = false := beq_eq_false_iff_ne.2 (by omega)
            have HD2 := Lib.hid (at_drop s (k + 1) hlt2)
            by_cases hd : s[k + 1] = 39
            · have hdb : ((s[k + 1].toNat : Int) != 39) = false := by rw [hd]; rfl
              have hst : Hid (shownN s.data.toList = (k + 2 : Nat) + scanQ (s.data.toList.drop (k + 2))) := Lib.hid (by
                rw [HK.out, HD.out, HD2.out, HC.out, hd, scanQ, if_pos rfl, if_pos rfl, show k + 1 + 1 = k + 2 from rfl]
                omega)
              clear hd
              go_wp2
              exact ⟨⟨k + 2, by omega, by omega, by go_num, hst.out⟩, by simp [intOf]; omega⟩
            · have hdb : ((s[k + 1].toNat : Int) != 39) = true := (u8_ne hd).2
              have hst : Hid (shownN s.data.toList = k + 1) := Lib.hid (by
                rw [HK.out, HD.out, HD2.out, HC.out, scanQ, if_pos rfl, if_neg hd])
              clear hd
              go_wp2
              go_ret
              exact ⟨by rw [hst.out]; rfl, rfl⟩
          · have k3 : ((k : Int) + 1 == (s.size : Int)) = true := beq_iff_eq.2 (by omega)
            have hst : Hid (shownN s.data.toList = k + 1) := Lib.hid (by
              rw [HK.out, HD.out, HC.out, List.drop_eq_nil_of_le (by rw [len_size]; omega)]
              rfl)
            go_wp2
            go_ret
            exact ⟨by rw [hst.out]; rfl, rfl⟩
        · have hcb := (u8_ne hc).2
          have hst : Hid (shownN s.data.toList = (k + 1 : Nat) + scanQ (s.data.toList.drop (k + 1))) := Lib.hid (by
            rw [HK.out, HD.out, scan_ne hc]
            omega)
          clear hc
          go_wp2
          exact ⟨⟨k + 1, by omega, by omega, by go_num, hst.out⟩, by simp [intOf]; omega⟩
      · obtain rfl : k = s.size := by omega
        have hst : Hid (shownN s.data.toList = s.size) := Lib.hid (by
          rw [HK.out, List.drop_eq_nil_of_le (by rw [len_size]; omega)]
          rfl)
        go_wp2
        go_ret
        exact ⟨by rw [hst.out]; rfl, rfl⟩
  · have e1 : Lib.hasPrefix s.data.toList (⟨#[39]⟩ : ByteArray).data.toList = false := by
      show Lib.hasPrefix s.data.toList [39] = false
      rw [hp_one]; exact decide_eq_false hq
    rw [e1] at HP
    have e2 : shownN s.data.toList = (s.data.toList.takeWhile (· != 32)).length := by unfold shownN; rw [if_neg hq]
    rcases ib_tw s.data.toList with ⟨e3, e4⟩ | e3
    · rw [e3] at HB
      have HE : Hid (shownN s.data.toList = s.size) := Lib.hid (by rw [e2, e4, len_size])
      clear e1 e2 e3 e4 hq
      go_enter Tryd.func28, Tryd.ntmps28
      go_wp2_with (first
        | (go_at_call 30; (with_reducible refine (HP.out _).mono ?_); rintro e w' ⟨rfl, rfl⟩)
        | (go_at_call 46; (with_reducible refine (HB.out _).mono ?_); rintro e w' ⟨rfl, rfl⟩))
      go_ret
      exact ⟨by rw [HE.out]; rfl, rfl⟩
    · rw [e3, ← e2] at HB
      have q0 : (0 : Int) ≤ (shownN s.data.toList : Int) := by omega
      clear e1 e2 e3 hq
      generalize shownN s.data.toList = m at *
      go_enter Tryd.func28, Tryd.ntmps28
      go_wp2_with (first
        | (go_at_call 30; (with_reducible refine (HP.out _).mono ?_); rintro e w' ⟨rfl, rfl⟩)
        | (go_at_call 46; (with_reducible refine (HB.out _).mono ?_); rintro e w' ⟨rfl, rfl⟩))
      go_ret
      exact ⟨rfl, rfl⟩
end Go.Proofs.YtblpflobpffjnaaDoor
