
/-
  The reference's Decimal.
-/
import Derived.Test.YtblpflobpffjnaaDoorVk
import Derived.Lib.ItoaLen
namespace Go.Proofs.YtblpflobpffjnaaDoor
open Go.RowKit

def digS : ByteArray := ⟨#[48, 49, 50, 51, 52, 53, 54, 55, 56, 57]⟩
theorem dig_cut : ∀ d : Nat, d < 10 → (⟨#[48, 49, 50, 51, 52, 53, 54, 55, 56, 57]⟩ : ByteArray).extract d (d + 1) = ⟨#[UInt8.ofNat (48 + d)]⟩ := by decide +kernel
theorem dd_len (i : Int) (h0 : -9223372036854775808 ≤ i) (h1 : i ≤ 9223372036854775807) : (Lib.decDigits i.natAbs).length ≤ 21 := by
  have h := Lib.itoa_length_le i h0 h1
  rcases itoa_cases i with ⟨hn, e⟩ | ⟨hn, e⟩
  · rw [e] at h; simp at h; omega
  · rw [e] at h
    have : i.natAbs = i.toNat := by omega
    rw [this]; exact h

theorem dig_app {d : Nat} (h : d < 10) (l : List UInt8) : (⟨#[48, 49, 50, 51, 52, 53, 54, 55, 56, 57]⟩ : ByteArray).extract d (d + 1) ++ ⟨l.toArray⟩ = ⟨(UInt8.ofNat (48 + d) :: l).toArray⟩ := by
  rw [dig_cut d h]
  apply ByteArray.ext
  rw [ByteArray.data_append]
  simp

set_option maxHeartbeats 1000000 in
theorem decimal_any (i : Int) (h0 : -9223372036854775808 ≤ i) (h1 : i ≤ 9223372036854775807) (w : World) :
    Calls Tryd.prog 52 #[.int .i64 i] w fun e w' => e = .returned (.string ⟨(Lib.itoa i).toArray⟩) ∧ w = w' := by
  have hlen := dd_len i h0 h1
  obtain ⟨M, hM⟩ : ∃ M, i.natAbs = M := ⟨_, rfl⟩
  rw [hM] at hlen
  have hLn := Lib.hid hlen
  rcases itoa_cases i with ⟨hn, e⟩ | ⟨hn, e⟩
  · rw [e, hM]
    obtain rfl : i = -(M : Int) := by omega
    clear hM e hlen
    go_enter Tryd.func52, Tryd.ntmps52
    go_wp2
    go_loop [3, 4] (fun sv mv => ∃ (u : Nat) (l : List UInt8), u ≤ M ∧ Lib.decDigits M = Lib.decDigits u ++ l ∧ sv = .string ⟨l.toArray⟩ ∧ mv = .int .i64 (-(u : Int))) (fun _ mv => (intOf mv).natAbs)
    case atStart => exact ⟨M, [], Nat.le_refl _, by simp, rfl, rfl⟩
    case round =>
      obtain ⟨u, l, hu, he, rfl, rfl⟩ := hrel
      have hll : l.length ≤ 21 := by
        have := hLn.out
        rw [he, List.length_append] at this
        omega
      have hov : ¬ 9223372036854775807 < min (u % 10 + 1) 10 - u % 10 + l.length := by omega
      have hM0 : 0 < M := by omega
      have HD := Lib.hid (dig_app (d := u % 10) (by omega) l)
      have HE := Lib.hid he
      have f45 : ∀ r : List UInt8, (⟨#[45]⟩ : ByteArray) ++ ⟨r.toArray⟩ = ⟨(45 :: r).toArray⟩ := fun r => by
        apply ByteArray.ext
        rw [ByteArray.data_append]
        simp
      have F45 := Lib.hid f45
      clear he f45
      by_cases hz : 0 < (u : Int) % 10
      · have hov2 : ¬ 9223372036854775807 < 1 + (min (u % 10 + 1) 10 - u % 10 + l.length) := by omega
        clear hll
        by_cases h10 : u < 10
        · have hq : (-((u : Int) / 10) == 0) = true := by simp; omega
          go_wp2
          go_ret
          refine ⟨?_, rfl⟩
          rw [HD.out, F45.out, HE.out, dd_small h10, Nat.mod_eq_of_lt h10]
          rfl
        · have hq : (-((u : Int) / 10) == 0) = false := by simp; omega
          go_wp2
          go_round
          case rel => exact ⟨u / 10, UInt8.ofNat (48 + u % 10) :: l, by omega, by rw [HE.out, dd_big h10]; simp, by rw [HD.out], by go_num⟩
          case measure => simp [intOf]; omega
      · have hz' : (u : Int) % 10 ≤ 0 := by omega
        have hov2 : ¬ 9223372036854775807 < 1 + (min (-((u : Int) % 10) + 1).toNat 10 - (-((u : Int) % 10)).toNat + l.length) := by omega
        have e1 : (-((u : Int) % 10)).toNat = u % 10 := by omega
        have e2 : (-((u : Int) % 10) + 1).toNat = u % 10 + 1 := by omega
        have HD' : Hid ((⟨#[48, 49, 50, 51, 52, 53, 54, 55, 56, 57]⟩ : ByteArray).extract (-((u : Int) % 10)).toNat (-((u : Int) % 10) + 1).toNat ++ ⟨l.toArray⟩ = ⟨(UInt8.ofNat (48 + u % 10) :: l).toArray⟩) := Lib.hid (by rw [e1, e2]; exact HD.out)
        clear hll e1 e2 HD
        by_cases h10 : u < 10
        · have hq : (-((u : Int) / 10) == 0) = true := by simp; omega
          go_wp2
          go_ret
          refine ⟨?_, rfl⟩
          rw [HD'.out, F45.out, HE.out, dd_small h10, Nat.mod_eq_of_lt h10]
          rfl
        · have hq : (-((u : Int) / 10) == 0) = false := by simp; omega
          go_wp2
          go_round
          case rel => exact ⟨u / 10, UInt8.ofNat (48 + u % 10) :: l, by omega, by rw [HE.out, dd_big h10]; simp, by rw [HD'.out], by go_num⟩
          case measure => simp [intOf]; omega
  · have hM' : i.toNat = M := by omega
    rw [e, hM']
    obtain rfl : i = (M : Int) := by omega
    clear hM e hM' hlen
    go_enter Tryd.func52, Tryd.ntmps52
    go_wp2
    go_loop [3, 4] (fun sv mv => ∃ (u : Nat) (l : List UInt8), u ≤ M ∧ Lib.decDigits M = Lib.decDigits u ++ l ∧ sv = .string ⟨l.toArray⟩ ∧ mv = .int .i64 (u : Int)) (fun _ mv => (intOf mv).toNat)
    case atStart => exact ⟨M, [], Nat.le_refl _, by simp, rfl, rfl⟩
    case round =>
      obtain ⟨u, l, hu, he, rfl, rfl⟩ := hrel
      have hll : l.length ≤ 21 := by
        have := hLn.out
        rw [he, List.length_append] at this
        omega
      have hov : ¬ 9223372036854775807 < min (u % 10 + 1) 10 - u % 10 + l.length := by omega
      have HD := Lib.hid (dig_app (d := u % 10) (by omega) l)
      have HE := Lib.hid he
      clear he hll
      by_cases h10 : u < 10
      · have hq : ((u : Int) / 10 == 0) = true := by simp; omega
        go_wp2
        go_ret
        refine ⟨?_, rfl⟩
        rw [HD.out, HE.out, dd_small h10, Nat.mod_eq_of_lt h10]
        rfl
      · have hq : ((u : Int) / 10 == 0) = false := by simp; omega
        go_wp2
        go_round
        case rel => exact ⟨u / 10, UInt8.ofNat (48 + u % 10) :: l, by omega, by rw [HE.out, dd_big h10]; simp, by rw [HD.out], by go_num⟩
        case measure => simp [intOf]; omega
end Go.Proofs.YtblpflobpffjnaaDoor
