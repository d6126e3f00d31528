/-
  The plain mathematics of a division of two words by one.
-/
import Derived.Test.YtegnoheaglnhhabMem
namespace Go.Proofs.Ytegnoheaglnhhab

theorem dv1 {U c Y a b q r : Nat} (hY : a * 4294967296 + b = Y) (hU : q * a + r = U) (h : q * b ≤ 4294967296 * r + c) : q * Y ≤ U * 4294967296 + c := by
  subst hY; subst hU
  rw [Nat.mul_add, Nat.add_mul, ← Nat.mul_assoc]
  omega
theorem dv2 {U c Y a b q r : Nat} (hY : a * 4294967296 + b = Y) (hU : q * a + r = U) (h : 4294967296 * r + c < q * b) : U * 4294967296 + c < q * Y := by
  subst hY; subst hU
  rw [Nat.mul_add, Nat.add_mul, ← Nat.mul_assoc]
  omega
theorem dv_le {U c Y q : Nat} (hY : 0 < Y) (h : q * Y ≤ U * 4294967296 + c) : q ≤ (U * 4294967296 + c) / Y := (Nat.le_div_iff_mul_le hY).2 h
theorem dv_gt {U c Y q : Nat} (hY : 0 < Y) (h : U * 4294967296 + c < q * Y) : (U * 4294967296 + c) / Y < q := (Nat.div_lt_iff_lt_mul hY).2 h
theorem dv_top {U c Y : Nat} (hU : U < Y) (hc : c < 4294967296) : (U * 4294967296 + c) / Y < 4294967296 := by
  refine dv_gt (by omega) ?_
  omega
theorem dv_start {U c Y a b : Nat} (hY : a * 4294967296 + b = Y) (ha : 0 < a) (hc : c < 4294967296) : (U * 4294967296 + c) / Y ≤ U / a := by
  rw [Nat.le_div_iff_mul_le ha]
  have h1 := Nat.div_mul_le_self (U * 4294967296 + c) Y
  generalize (U * 4294967296 + c) / Y = Q at *
  rw [← hY, Nat.mul_add, ← Nat.mul_assoc] at h1
  omega
theorem dv_first {U Y a b : Nat} (hY : a * 4294967296 + b = Y) (hb : b < 4294967296) (ha : 2147483648 ≤ a) (hU : U < Y) : U / a ≤ 4294967297 := by
  have h1 := Nat.div_mul_le_self U a
  have h2 : U / a < 4294967298 := by
    rw [Nat.div_lt_iff_lt_mul (by omega)]
    omega
  omega
theorem dv_break {q b r c : Nat} (hq : q ≤ 4294967296) (hb : b < 4294967296) (hr : 4294967296 ≤ r) : q * b ≤ 4294967296 * r + c := by
  have := Nat.mul_le_mul hq (show b ≤ 4294967295 by omega)
  omega
theorem dv_prod {q b : Nat} (hq : q ≤ 4294967297) (hb : b < 4294967296) : q * b ≤ 18446744073709551615 := by
  have := Nat.mul_le_mul hq (show b ≤ 4294967295 by omega)
  omega
theorem dv_less {q q' a r U : Nat} (h : q * a + r = U) (hq : q = q' + 1) : q' * a + (r + a) = U := by
  subst hq; rw [Nat.add_mul] at h; omega
theorem dv_lin' {U V m R c1 c0 K : Nat} (e2 : m + R = U * K + c1) (hV : c1 * K + c0 = V) : U * (K * K) + V = R * K + c0 + m * K := by
  have h := congrArg (fun x => x * K) e2
  simp only [Nat.add_mul, Nat.mul_assoc] at h
  omega
theorem dv_lin {U V m R c1 c0 : Nat} (e2 : m + R = U * 4294967296 + c1) (hV : c1 * 4294967296 + c0 = V) : U * 18446744073709551616 + V = R * 4294967296 + c0 + m * 4294967296 := by
  have h := dv_lin' e2 hV
  simpa only [Nat.reduceMul] using h
theorem dv_end {N y s U V Y c1 c0 : Nat} (hN : N * 2 ^ s = U * 18446744073709551616 + V) (hY : y * 2 ^ s = Y) (hy : 0 < y) (hV : c1 * 4294967296 + c0 = V) :
    (U * 4294967296 + c1) / Y * 4294967296 + (((U * 4294967296 + c1) % Y) * 4294967296 + c0) / Y = N / y := by
  have hp : 0 < 2 ^ s := Nat.two_pow_pos s
  have hYp : 0 < Y := by rw [← hY]; exact Nat.mul_pos hy hp
  have e1 : N / y = (U * 18446744073709551616 + V) / Y := by rw [← hN, ← hY, Nat.mul_div_mul_right _ _ hp]
  rw [e1]
  have e2 := Nat.div_add_mod (U * 4294967296 + c1) Y
  obtain ⟨Q, hQ⟩ : ∃ Q, (U * 4294967296 + c1) / Y = Q := ⟨_, rfl⟩
  obtain ⟨R, hR⟩ : ∃ R, (U * 4294967296 + c1) % Y = R := ⟨_, rfl⟩
  rw [hQ, hR] at e2
  rw [hQ, hR]
  have e3 : U * 18446744073709551616 + V = (R * 4294967296 + c0) + (Q * 4294967296) * Y := by
    have : Q * 4294967296 * Y = Y * Q * 4294967296 := by rw [Nat.mul_comm Y Q, Nat.mul_right_comm]
    rw [this]
    clear this hQ hR e1 hN hY hp
    obtain ⟨m, hm⟩ : ∃ m, Y * Q = m := ⟨_, rfl⟩
    rw [hm] at e2 ⊢
    exact dv_lin e2 hV
  rw [e3, Nat.add_mul_div_right _ _ hYp, Nat.add_comm]
theorem dv_shift {hi lo s : Nat} (hs : s ≤ 63) : (hi * 18446744073709551616 + lo) * 2 ^ s = (hi * 2 ^ s + lo / 2 ^ (64 - s)) * 18446744073709551616 + (lo * 2 ^ s) % 18446744073709551616 := by
  have e : 2 ^ (64 - s) * 2 ^ s = 18446744073709551616 := by rw [← Nat.pow_add, show 64 - s + s = 64 by omega]
  have e1 : lo / 2 ^ (64 - s) = (lo * 2 ^ s) / 18446744073709551616 := by rw [← e, Nat.mul_div_mul_right _ _ (Nat.two_pow_pos s)]
  have e2 := Nat.div_add_mod (lo * 2 ^ s) 18446744073709551616
  rw [e1, Nat.add_mul, Nat.add_mul, Nat.mul_right_comm]
  omega
theorem dv_low {lo s : Nat} (hs : s ≤ 63) (hlo : lo < 18446744073709551616) : lo / 2 ^ (64 - s) < 2 ^ s := by
  rw [Nat.div_lt_iff_lt_mul (Nat.two_pow_pos _), ← Nat.pow_add, show s + (64 - s) = 64 by omega]
  exact hlo
theorem dv_high {hi y s G : Nat} (h : hi < y) (hG : G < 2 ^ s) : hi * 2 ^ s + G < y * 2 ^ s := by
  have : (hi + 1) * 2 ^ s ≤ y * 2 ^ s := Nat.mul_le_mul_right _ h
  rw [Nat.add_mul] at this
  omega
theorem or_add {hi s G : Nat} (hG : G < 2 ^ s) : hi * 2 ^ s ||| G = hi * 2 ^ s + G := by
  rw [Nat.mul_comm, Nat.two_pow_add_eq_or_of_lt hG]
theorem and_mask (x : Nat) : x &&& 4294967295 = x % 4294967296 := by
  have := Nat.and_two_pow_sub_one_eq_mod x 32
  simpa using this
theorem dv_norm {y L s : Nat} (h1 : 1 ≤ L) (h2 : 2 ^ (L - 1) ≤ y) (h3 : y < 2 ^ L) (h : L + s = 64) : 9223372036854775808 ≤ y * 2 ^ s ∧ y * 2 ^ s < 18446744073709551616 := by
  have e : 2 ^ (L - 1) * 2 ^ s = 9223372036854775808 := by rw [← Nat.pow_add, show L - 1 + s = 63 by omega]
  have e2 : 2 ^ L * 2 ^ s = 18446744073709551616 := by rw [← Nat.pow_add, h]
  rw [← e, ← e2]
  exact ⟨Nat.mul_le_mul_right _ h2, Nat.mul_lt_mul_of_pos_right h3 (Nat.two_pow_pos s)⟩
theorem dv_rem {U c Y Q R : Nat} (hQ : (U * 4294967296 + c) / Y = Q) (hR : (U * 4294967296 + c) % Y = R) (hY : Y < 18446744073709551616) (hYp : 0 < Y) :
    (((U * 4294967296 % 18446744073709551616 + c : Nat) : Int) - ((Q * Y % 18446744073709551616 : Nat) : Int)) % 18446744073709551616 = (R : Int) := by
  have e2 := Nat.div_add_mod (U * 4294967296 + c) Y
  have e3 := Nat.mod_lt (U * 4294967296 + c) hYp
  rw [hQ, hR, Nat.mul_comm] at e2
  rw [hR] at e3
  generalize Q * Y = m at *
  omega
end Go.Proofs.Ytegnoheaglnhhab
