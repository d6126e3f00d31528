/-
  capped: a number, at most 2^64 - 1.
-/
import Derived.Test.YtcflblgbgoldlaaUg
set_option linter.unusedSimpArgs false
set_option linter.unusedVariables false
namespace Go.Proofs.Ytcflblgbgoldlaa
open Go.RowKit

def capN (x : Nat) : Nat := if x < 18446744073709551616 then x else 18446744073709551615
theorem cap_hi {l : List Nat} {i : Nat} (h4 : 4 ≤ i) (h : dv (l.drop 4) = 65536 ^ (i - 4) * dv (l.drop i)) (hd : 0 < dg l i) : capN (dv l) = 18446744073709551615 := by
  have h1 := dv_split l 4
  have h2 := dv_dg l i
  have h3 : 0 < dv (l.drop i) := by omega
  have h5 : 0 < 65536 ^ (i - 4) * dv (l.drop i) := Nat.mul_pos (Nat.pow_pos (by omega)) h3
  rw [← h] at h5
  unfold capN
  rw [if_neg]
  have : 65536 ^ 4 = 18446744073709551616 := by decide
  rw [this] at h1
  omega
theorem cap_lo {l : List Nat} (hl : dok l) (h : dv (l.drop 4) = 0) : capN (dv l) = low l 4 := by
  have h1 := dv_split l 4
  rw [h, Nat.mul_zero, Nat.add_zero] at h1
  have h2 := low_lt hl 4
  have : 65536 ^ 4 = 18446744073709551616 := by decide
  rw [this] at h2
  unfold capN
  rw [h1, if_pos h2]
set_option maxHeartbeats 1000000 in
theorem capped_any (sg : Int) (A : Option Addr) (n c : Nat) (l : List Nat) (w : World) (hr : Reads w w.heap.size 1 A n (vD l)) (hok : dok l) (hn : n ≤ 1000) :
    Calls Try.prog 11 #[.agg #[.int .i64 sg, .slice A n c]] w (RetB w (.int .u64 (capN (dv l) : Nat))) := by
  have hln : l.length = n := by have := hr.1; rw [vD_len] at this; omega
  have nI : (n : Int) ≤ 1000 := by omega
  have HR := Lib.hid (And.intro (hr.below (ball (Below.refl _ _) (.cells #[.int .i64 sg, .slice A n c] 53))) (And.intro hok hln))
  clear hr hok hln hn
  go_enter Try.func11, Try.ntmps11
  go_wp2
  go_loop [3] (fun v => ∃ i : Nat, v = .int .i64 i ∧ 4 ≤ i ∧ (i ≤ n ∨ i = 4) ∧ dv (l.drop 4) = 65536 ^ (i - 4) * dv (l.drop i)) (fun v => 1000 - (intOf v).toNat)
  case atStart => exact ⟨4, rfl, by omega, .inr rfl, by simp⟩
  case round =>
    obtain ⟨i, rfl, h4, hi, hd⟩ := hrel
    have i0 : (0 : Int) ≤ (i : Int) := by omega
    by_cases hlt : i < n
    · have i1 : (i : Int) < (n : Int) := by omega
      obtain ⟨ad, u, rfl, hab, hu, du⟩ := HR.out.1.at_ hlt
      obtain ⟨d, hdl, rfl⟩ := vD_at hu
      have hdg : dg l i = d := by unfold dg; rw [hdl]; rfl
      clear hu hdl
      by_cases hz : d = 0
      · subst hz
        have hst : dv (l.drop 4) = 65536 ^ (i + 1 - 4) * dv (l.drop (i + 1)) := by
          rw [hd, dv_dg l i, hdg, show i + 1 - 4 = (i - 4) + 1 by omega, Nat.pow_succ, Nat.zero_add, Nat.mul_assoc]
        have HS := Lib.hid hst
        clear hst hd hdg
        go_wp2
        exact ⟨⟨i + 1, by go_num, by omega, .inl (by omega), HS.out⟩, by simp [intOf]; omega⟩
      · have hv := cap_hi h4 hd (by omega)
        have ez : ((d : Int) != 0) = true := by simp; omega
        have HV := Lib.hid hv
        clear hv hd hdg
        go_wp2
        go_ret
        exact ⟨by rw [HV.out]; rfl, ball (Below.refl _ _) _⟩
    · have i1 : ¬ (i : Int) < (n : Int) := by omega
      have hz : dv (l.drop 4) = 0 := by
        rw [hd, List.drop_eq_nil_of_le (by have := HR.out.2.2; omega)]; simp [dv]
      have HV := Lib.hid (cap_lo HR.out.2.1 hz)
      clear hz hd
      go_wp2
      go_loop [4, 5, 6] (fun u v x => ∃ (k U : Nat), u = .int .u64 U ∧ v = .int .i64 ((k : Int) - 1) ∧ k ≤ 4 ∧ low l 4 = low l k + 65536 ^ k * U ∧ U < 65536 ^ (4 - k)) (fun _ v _ => (intOf v + 1).toNat)
      case atStart => exact ⟨4, 0, rfl, rfl, by omega, by simp, by simp⟩
      case round =>
        obtain ⟨k, U, rfl, rfl, hk, hlow, hU⟩ := hrel
        by_cases hk0 : k = 0
        · subst hk0
          have hres : U = capN (dv l) := by rw [HV.out, hlow, low_zero]; simp
          have HE := Lib.hid hres
          have e1 : ((0 : Nat) : Int) - 1 = -1 := by omega
          rw [e1]
          clear hres hlow hU hk e1
          go_wp2
          go_ret
          exact ⟨by rw [← HE.out]; rfl, ball (Below.refl _ _) _⟩
        · obtain ⟨j, rfl⟩ : ∃ j, k = j + 1 := ⟨k - 1, by omega⟩
          have ej : ((j + 1 : Nat) : Int) - 1 = (j : Int) := by omega
          rw [ej]
          have hs := low_succ l j
          have hdl := dg_lt HR.out.2.1 j
          obtain ⟨d, hd⟩ : ∃ d, dg l j = d := ⟨_, rfl⟩
          rw [hd] at hs hdl
          have hU2 : 65536 * U + d < 65536 ^ (4 - j) := by
            have e : 4 - j = (4 - (j + 1)) + 1 := by omega
            rw [e, Nat.pow_succ]
            omega
          have hlow2 : low l 4 = low l j + 65536 ^ j * (65536 * U + d) := by
            rw [hlow, hs, Nat.pow_succ, Nat.mul_add, Nat.add_assoc, Nat.mul_assoc, Nat.add_comm (65536 ^ j * d)]
          have hmax : 65536 ^ (4 - j) ≤ 18446744073709551616 := Nat.le_trans (Nat.pow_le_pow_right (by omega) (by omega : 4 - j ≤ 4)) (by decide)
          have u1 : 65536 * (U : Int) + (d : Int) ≤ 18446744073709551615 := by omega
          have u2 : 65536 * (U : Int) ≤ 18446744073709551615 := by omega
          have j0 : (0 : Int) ≤ (j : Int) := by omega
          have HJ := Lib.hid (And.intro hlow2 hU2)
          clear hlow hU hs hU2 hlow2 hmax ej
          by_cases hjn : j < n
          · have j1 : (j : Int) < (n : Int) := by omega
            obtain ⟨ad, u, rfl, hab, hu, du⟩ := HR.out.1.at_ hjn
            obtain ⟨d', hd', rfl⟩ := vD_at hu
            have hdd : d' = d := by rw [← hd]; unfold dg; rw [hd']; rfl
            subst hdd
            clear hu hd' hd
            go_wp2
            exact ⟨⟨j, 65536 * U + d', by go_num, rfl, by omega, HJ.out.1, HJ.out.2⟩, by simp [intOf]⟩
          · have j1 : ¬ (j : Int) < (n : Int) := by omega
            have hd0 : d = 0 := by rw [← hd]; exact dg_out (by have := HR.out.2.2; omega)
            subst hd0
            clear hd
            go_wp2
            exact ⟨⟨j, 65536 * U + 0, by go_num, rfl, by omega, HJ.out.1, HJ.out.2⟩, by simp [intOf]⟩
end Go.Proofs.Ytcflblgbgoldlaa
