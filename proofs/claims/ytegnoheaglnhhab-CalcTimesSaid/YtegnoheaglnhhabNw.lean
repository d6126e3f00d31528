/-
  Contract of math/bits.Div64 where the high word is not 0.
-/
import Derived.Test.YtegnoheaglnhhabCf
import Derived.Test.YtegnoheaglnhhabNv
import Derived.Laws.BitsAllLaws
import Derived.Lib.ItoaNum
import Derived.BigGuardPart
import Derived.BigQuiet
namespace Go.Proofs.Ytegnoheaglnhhab
open Go.RowKit

theorem wrap_id {n : Nat} (h : n ≤ 18446744073709551615) : IntKind.u64.wrap (n : Int) = (n : Int) := by rw [wrapu]; omega
def DivR (q : Int) (w : World) (e : Ending) (w' : World) : Prop := ∃ r : Int, e = .returned (.tuple #[.int .u64 q, .int .u64 r]) ∧ w = w'

set_option maxRecDepth 100000 in
set_option maxHeartbeats 8000000 in
theorem div_hi (hi lo y : Nat) (w : World) (h0 : 0 < hi) (h1 : hi < y) (hy : y < 18446744073709551616) (hlo : lo < 18446744073709551616) :
    Calls Try.prog 22 #[.int .u64 hi, .int .u64 lo, .int .u64 y] w (DivR (((hi * 18446744073709551616 + lo) / y : Nat) : Int) w) := by
  have lz := fun W => Try.bits_LeadingZeros64 (y : Int) W (by omega) (by omega)
  rw [Int.toNat_natCast] at lz
  obtain ⟨s, hs, hs2, hYb⟩ : ∃ s : Nat, (64 - (Lib.bitLen y : Int)) = (s : Int) ∧ s ≤ 63 ∧ (9223372036854775808 ≤ y * 2 ^ s ∧ y * 2 ^ s < 18446744073709551616) := by
    obtain ⟨b1, b2, b3⟩ := Lib.bitLenAux_bounds 64 y (by omega) (by omega)
    have hb4 := Lib.bitLen_le y 64 (by omega) (by omega)
    have hb5 : 1 ≤ Lib.bitLen y := b1
    exact ⟨64 - Lib.bitLen y, by omega, by omega, dv_norm b1 b2 b3 (by show Lib.bitLen y + (64 - Lib.bitLen y) = 64; omega)⟩
  rw [hs] at lz
  have LZ := Lib.hid lz; clear lz hs
  have hN := dv_shift (hi := hi) (lo := lo) hs2
  have hGb := dv_low hs2 hlo
  have hUb := dv_high h1 hGb
  have hor := or_add (hi := hi) hGb
  obtain ⟨Y, hY⟩ : ∃ Y, y * 2 ^ s = Y := ⟨_, rfl⟩
  obtain ⟨H, hH⟩ : ∃ H, hi * 2 ^ s = H := ⟨_, rfl⟩
  obtain ⟨G, hG⟩ : ∃ G, lo / 2 ^ (64 - s) = G := ⟨_, rfl⟩
  obtain ⟨L, hL⟩ : ∃ L, lo * 2 ^ s = L := ⟨_, rfl⟩
  obtain ⟨V, hV⟩ : ∃ V, L % 18446744073709551616 = V := ⟨_, rfl⟩
  rw [hY] at hYb hUb
  rw [hH] at hUb hor hN
  rw [hG] at hUb hor hN
  rw [hL, hV] at hN
  obtain ⟨hY1, hY2⟩ := hYb
  obtain ⟨U, hU⟩ : ∃ U, H + G = U := ⟨_, rfl⟩
  rw [hU] at hUb hor hN
  have w1 : IntKind.u64.wrap ((y : Int) * 2 ^ s) = (Y : Int) := by
    have : ((y : Int) * 2 ^ s) = ((y * 2 ^ s : Nat) : Int) := by push_cast; rfl
    rw [this, hY, wrapu]; omega
  have w4 : IntKind.u64.wrap ((hi : Int) * 2 ^ s) = (H : Int) := by
    have : ((hi : Int) * 2 ^ s) = ((hi * 2 ^ s : Nat) : Int) := by push_cast; rfl
    rw [this, hH, wrapu]; omega
  have w5 : (lo : Int) / 2 ^ (64 - s) = (G : Int) := by
    have : ((lo : Int) / 2 ^ (64 - s)) = ((lo / 2 ^ (64 - s) : Nat) : Int) := by push_cast; rfl
    rw [this, hG]
  have w6 : bits .or .u64 (H : Int) (G : Int) = (U : Int) := by rw [u64_or_nat _ _ (by omega) (by omega), hor]
  have w7 : IntKind.u64.wrap ((lo : Int) * 2 ^ s) = (V : Int) := by
    have : ((lo : Int) * 2 ^ s) = ((lo * 2 ^ s : Nat) : Int) := by push_cast; rfl
    rw [this, hL, wrapu, ← hV]; omega
  obtain ⟨a, ha⟩ : ∃ a, Y / 4294967296 = a := ⟨_, rfl⟩
  obtain ⟨b, hb⟩ : ∃ b, Y % 4294967296 = b := ⟨_, rfl⟩
  obtain ⟨c1, hc1⟩ : ∃ a, V / 4294967296 = a := ⟨_, rfl⟩
  obtain ⟨c0, hc0⟩ : ∃ b, V % 4294967296 = b := ⟨_, rfl⟩
  have hVb : V < 18446744073709551616 := by rw [← hV]; exact Nat.mod_lt _ (by omega)
  have w2 : (Y : Int) / 4294967296 = (a : Int) := by omega
  have w3 : bits .and .u64 (Y : Int) 4294967295 = (b : Int) := by
    have h := u64_and_nat Y 4294967295 hY2 (by omega)
    rw [and_mask, hb] at h; exact h
  have w8 : (V : Int) / 4294967296 = (c1 : Int) := by omega
  have w9 : bits .and .u64 (V : Int) 4294967295 = (c0 : Int) := by
    have h := u64_and_nat V 4294967295 hVb (by omega)
    rw [and_mask, hc0] at h; exact h
  have ha1 : 2147483648 ≤ a := by omega
  have ha2 : a < 4294967296 := by omega
  have hb2 : b < 4294967296 := by omega
  have hc12 : c1 < 4294967296 := by omega
  have hc02 : c0 < 4294967296 := by omega
  have HY : Hid (a * 4294967296 + b = Y) := by
    have h := Nat.div_add_mod Y 4294967296
    rw [ha, hb, Nat.mul_comm] at h
    exact h
  have hVc : c1 * 4294967296 + c0 = V := by
    have h := Nat.div_add_mod V 4294967296
    rw [hc1, hc0, Nat.mul_comm] at h
    exact h
  have hYp : 0 < Y := by omega
  have hfin := dv_end (c1 := c1) (c0 := c0) hN hY (by omega) hVc
  obtain ⟨Q, hQ⟩ : ∃ Q, (U * 4294967296 + c1) / Y = Q := ⟨_, rfl⟩
  obtain ⟨R, hR⟩ : ∃ R, (U * 4294967296 + c1) % Y = R := ⟨_, rfl⟩
  obtain ⟨Q0, hQ0⟩ : ∃ Q, (R * 4294967296 + c0) / Y = Q := ⟨_, rfl⟩
  rw [hQ, hR, hQ0] at hfin
  have hRb : R < Y := by rw [← hR]; exact Nat.mod_lt _ hYp
  have hQb : Q < 4294967296 := by rw [← hQ]; exact dv_top hUb hc12
  have hQ0b : Q0 < 4294967296 := by rw [← hQ0]; exact dv_top hRb hc02
  have s1 : Q ≤ U / a := by rw [← hQ]; exact dv_start HY.out (by omega) hc12
  have s2 : Q0 ≤ R / a := by rw [← hQ0]; exact dv_start HY.out (by omega) hc02
  have t1 : U / a ≤ 4294967297 := dv_first HY.out hb2 ha1 hUb
  have t2 : R / a ≤ 4294967297 := dv_first HY.out hb2 ha1 hRb
  have m1 := Nat.div_add_mod U a
  have m2 := Nat.mod_lt U (show 0 < a by omega)
  have m3 := Nat.div_add_mod R a
  have m4 := Nat.mod_lt R (show 0 < a by omega)
  obtain ⟨q, hq⟩ : ∃ q, U / a = q := ⟨_, rfl⟩
  obtain ⟨q', hq'⟩ : ∃ q, R / a = q := ⟨_, rfl⟩
  obtain ⟨r, hr⟩ : ∃ q, U % a = q := ⟨_, rfl⟩
  obtain ⟨r', hr'⟩ : ∃ q, R % a = q := ⟨_, rfl⟩
  rw [hq] at s1 t1 m1
  rw [hq'] at s2 t2 m3
  rw [hr] at m1 m2
  rw [hr'] at m3 m4
  rw [Nat.mul_comm] at m1 m3
  have w10 : (U : Int) / (a : Int) = (q : Int) := by rw [← hq]; exact (Int.natCast_ediv _ _).symm
  have w11 : (R : Int) / (a : Int) = (q' : Int) := by rw [← hq']; exact (Int.natCast_ediv _ _).symm
  obtain ⟨p1, hp1⟩ : ∃ p, q * a = p := ⟨_, rfl⟩
  obtain ⟨p2, hp2⟩ : ∃ p, q' * a = p := ⟨_, rfl⟩
  have w12 : (q : Int) * (a : Int) = (p1 : Int) := by rw [← hp1]; exact (Int.natCast_mul _ _).symm
  have w13 : (q' : Int) * (a : Int) = (p2 : Int) := by rw [← hp2]; exact (Int.natCast_mul _ _).symm
  have M1 := Lib.hid m1
  have M3 := Lib.hid m3
  rw [hp1] at m1
  rw [hp2] at m3
  have w14 : (U : Int) - (p1 : Int) = (r : Int) := by omega
  have w15 : (R : Int) - (p2 : Int) = (r' : Int) := by omega
  have b14 : p1 ≤ U := by omega
  have b15 : p2 ≤ R := by omega
  have HQ := Lib.hid hQ
  have HQ0 := Lib.hid hQ0
  have Hfin := Lib.hid hfin
  have wrem := dv_rem hQ hR hY2 hYp
  obtain ⟨z1, hz1⟩ : ∃ z, U * 4294967296 % 18446744073709551616 = z := ⟨_, rfl⟩
  obtain ⟨z2, hz2⟩ : ∃ z, Q * Y % 18446744073709551616 = z := ⟨_, rfl⟩
  rw [hz1, hz2] at wrem
  have z1b : z1 ≤ 18446744069414584320 := by omega
  have z2b : z2 < 18446744073709551616 := by rw [← hz2]; exact Nat.mod_lt _ (by omega)
  have w16 : IntKind.u64.wrap ((U : Int) * 4294967296) = (z1 : Int) := by rw [wrapu]; omega
  have w17 : IntKind.u64.wrap ((Q : Int) * (Y : Int)) = (z2 : Int) := by
    rw [wrapu, ← Int.natCast_mul, ← hz2]; omega
  have w18 : IntKind.u64.wrap ((z1 : Int) + (c1 : Int) - (z2 : Int)) = (R : Int) := by rw [wrapu]; push_cast at wrem; exact wrem
  clear hQ hR hQ0 hfin hp1 hp2 m1 m3 hq hq' hr hr' wrem hz1 hz2 ha hb hc1 hc0 hVc hV hL hN hG hH hU hY hor hGb
  have e1 : ((y : Int) == 0) = false := by simp; omega
  have e2 : ((hi : Int) == 0) = false := by simp; omega
  have e3 : ((a : Int) == 0) = false := by simp; omega
  have BA := Lib.hid (And.intro ha1 (And.intro ha2 (And.intro hb2 (And.intro hc12 (And.intro hc02 hYp)))))
  have w13' : IntKind.u64.wrap ((q' : Int) * (a : Int)) = (p2 : Int) := by rw [w13]; exact wrap_id (by omega)
  have w15' : IntKind.u64.wrap ((R : Int) - (p2 : Int)) = (r' : Int) := by rw [w15]; exact wrap_id (by omega)
  obtain ⟨z3, hz3⟩ : ∃ z : Nat, (z1 : Int) + (c1 : Int) = (z : Int) := ⟨z1 + c1, by push_cast; rfl⟩
  have w19 : IntKind.u64.wrap ((z1 : Int) + (c1 : Int)) = (z3 : Int) := by rw [hz3]; exact wrap_id (by omega)
  rw [hz3] at w18
  obtain ⟨f1, hf1⟩ : ∃ z : Nat, Q * 4294967296 = z := ⟨_, rfl⟩
  have w20 : IntKind.u64.wrap ((Q : Int) * 4294967296) = (f1 : Int) := by
    have : (Q : Int) * 4294967296 = (f1 : Int) := by rw [← hf1]; exact (Int.natCast_mul _ _).symm
    rw [this]; exact wrap_id (by omega)
  have w21 : IntKind.u64.wrap ((f1 : Int) + (Q0 : Int)) = (((hi * 18446744073709551616 + lo) / y : Nat) : Int) := by
    rw [← Hfin.out, hf1, ← Int.natCast_add]; exact wrap_id (by omega)
  obtain ⟨FF, hFF⟩ : ∃ z, (hi * 18446744073709551616 + lo) / y = z := ⟨_, rfl⟩
  rw [hFF] at w21 ⊢
  have ha0 : 1 ≤ a := by omega
  clear hz3 hf1 hFF Hfin
  have w22 : IntKind.u64.wrap (q' : Int) = (q' : Int) := wrap_id (by omega)
  have S2 := Lib.hid (And.intro w22 (And.intro w20 (And.intro w21 (And.intro w19 (And.intro w11 (And.intro w13' (And.intro w15' (And.intro w16 (And.intro w17 w18)))))))))
  have S3 := Lib.hid s2
  have HQB := Lib.hid hQb
  have HQ0B := Lib.hid hQ0b
  have S4 := Lib.hid t2
  clear w11 w13 w15 w16 w17 w18 z1b z2b b15 t2 w13' w15' w19 w20 w21 w22
  go_enter Try.func22, Try.ntmps22
  go_wp2_with (go_at_call 27; refine (LZ.out _).mono ?_; rintro e w' ⟨rfl, rfl⟩)
  clear w1 w2 w3 w4 w5 w6 w7 w8 w9 w10 w12 w14 e1 e2 h0 h1 hlo hVb hUb hy b14 s2 ha1 ha2 hb2 hc12 hc02 hRb hQb hQ0b hY1 hY2 hYp hs2
  go_loop [15, 16] (fun v1 v2 => ∃ g t : Nat, v1 = .int .u64 g ∧ v2 = .int .u64 t ∧ g * a + t = U ∧ Q ≤ g ∧ g ≤ 4294967297 ∧ t < 4294967296) (fun v1 _ => (intOf v1).toNat)
  case atStart => exact ⟨q, r, rfl, rfl, M1.out, s1, t1, by have := BA.out.2.1; omega⟩
  case round =>
    obtain ⟨g, t, rfl, rfl, hqr, hq1, hq2, hr⟩ := hrel
    obtain ⟨ha1, ha2, hb2, hcc, hYp⟩ : 2147483648 ≤ a ∧ a < 4294967296 ∧ b < 4294967296 ∧ c1 < 4294967296 ∧ 0 < Y := ⟨BA.out.1, BA.out.2.1, BA.out.2.2.1, BA.out.2.2.2.1, BA.out.2.2.2.2.2⟩
    have hP := dv_prod hq2 hb2
    have d1 := dv1 (c := c1) HY.out hqr
    have d2 := dv2 (c := c1) HY.out hqr
    obtain ⟨P, eP⟩ : ∃ P, g * b = P := ⟨_, rfl⟩
    rw [eP] at hP d1 d2
    have wP : IntKind.u64.wrap ((g : Int) * (b : Int)) = (P : Int) := by
      have : (g : Int) * (b : Int) = (P : Int) := by rw [← eP]; exact (Int.natCast_mul _ _).symm
      rw [this]; exact wrap_id hP
    obtain ⟨S, eS⟩ : ∃ S, 4294967296 * t + c1 = S := ⟨_, rfl⟩
    obtain ⟨T, eT⟩ : ∃ T, 4294967296 * t = T := ⟨_, rfl⟩
    rw [eS] at d1 d2
    have hT : T ≤ 18446744069414584320 := by rw [← eT]; exact Nat.mul_le_mul_left 4294967296 (show t ≤ 4294967295 by omega)
    have wT : IntKind.u64.wrap (4294967296 * (t : Int)) = (T : Int) := by
      have : 4294967296 * (t : Int) = (T : Int) := by rw [← eT]; exact (Int.natCast_mul _ _).symm
      rw [this]; exact wrap_id (by omega)
    have wS : IntKind.u64.wrap ((T : Int) + (c1 : Int)) = (S : Int) := by
      rw [eT] at eS
      have : (T : Int) + (c1 : Int) = (S : Int) := by rw [← eS]; exact (Int.natCast_add _ _).symm
      rw [this]; exact wrap_id (by omega)
    have D1 := Lib.hid d1
    have D2 := Lib.hid d2
    have HQR := Lib.hid hqr
    clear d1 d2 hqr eP eT eS hT hP
    have hcase : (g < 4294967296 ∧ P ≤ S) ∨ (4294967296 ≤ g ∨ (g < 4294967296 ∧ S < P)) := by omega
    rcases hcase with ⟨hlt, hle⟩ | hcase
    · have hqe : Q = g := by
        have h := dv_le hYp (D1.out hle)
        rw [HQ.out] at h
        omega
      have hltB : decide ((4294967296 : Int) ≤ (g : Int)) = false := by rw [decide_eq_false_iff_not]; omega
      have hleB : decide (S < P) = false := by rw [decide_eq_false_iff_not]; omega
      clear hle hlt hq2 hr ha1 ha2 hb2 hcc hYp hq1
      subst hqe
      obtain ⟨w22, w20, w21, w19, w11, w13, w15, w16, w17, w18⟩ := S2.out
      go_wp2
      go_loop [18, 16] (fun v1 v2 => ∃ g t : Nat, v1 = .int .u64 g ∧ v2 = .int .u64 t ∧ g * a + t = R ∧ Q0 ≤ g ∧ g ≤ 4294967297 ∧ t < 4294967296) (fun v1 _ => (intOf v1).toNat)
      case atStart => exact ⟨q', r', rfl, rfl, M3.out, S3.out, S4.out, by have := BA.out.2.1; omega⟩
      case round =>
        obtain ⟨g, t, rfl, rfl, hqr, hq1, hq2, hr⟩ := hrel
        obtain ⟨ha1, ha2, hb2, hcc, hYp⟩ : 2147483648 ≤ a ∧ a < 4294967296 ∧ b < 4294967296 ∧ c0 < 4294967296 ∧ 0 < Y := ⟨BA.out.1, BA.out.2.1, BA.out.2.2.1, BA.out.2.2.2.2.1, BA.out.2.2.2.2.2⟩
        have hP := dv_prod hq2 hb2
        have d1 := dv1 (c := c0) HY.out hqr
        have d2 := dv2 (c := c0) HY.out hqr
        obtain ⟨P, eP⟩ : ∃ P, g * b = P := ⟨_, rfl⟩
        rw [eP] at hP d1 d2
        have wP : IntKind.u64.wrap ((g : Int) * (b : Int)) = (P : Int) := by
          have : (g : Int) * (b : Int) = (P : Int) := by rw [← eP]; exact (Int.natCast_mul _ _).symm
          rw [this]; exact wrap_id hP
        obtain ⟨S, eS⟩ : ∃ S, 4294967296 * t + c0 = S := ⟨_, rfl⟩
        obtain ⟨T, eT⟩ : ∃ T, 4294967296 * t = T := ⟨_, rfl⟩
        rw [eS] at d1 d2
        have hT : T ≤ 18446744069414584320 := by rw [← eT]; exact Nat.mul_le_mul_left 4294967296 (show t ≤ 4294967295 by omega)
        have wT : IntKind.u64.wrap (4294967296 * (t : Int)) = (T : Int) := by
          have : 4294967296 * (t : Int) = (T : Int) := by rw [← eT]; exact (Int.natCast_mul _ _).symm
          rw [this]; exact wrap_id (by omega)
        have wS : IntKind.u64.wrap ((T : Int) + (c0 : Int)) = (S : Int) := by
          rw [eT] at eS
          have : (T : Int) + (c0 : Int) = (S : Int) := by rw [← eS]; exact (Int.natCast_add _ _).symm
          rw [this]; exact wrap_id (by omega)
        have D1 := Lib.hid d1
        have D2 := Lib.hid d2
        have HQR := Lib.hid hqr
        clear d1 d2 hqr eP eT eS hT hP
        have hcase : (g < 4294967296 ∧ P ≤ S) ∨ (4294967296 ≤ g ∨ (g < 4294967296 ∧ S < P)) := by omega
        rcases hcase with ⟨hlt, hle⟩ | hcase
        · have hqe : Q0 = g := by
            have h := dv_le hYp (D1.out hle)
            rw [HQ0.out] at h
            omega
          have hltB : decide ((4294967296 : Int) ≤ (g : Int)) = false := by rw [decide_eq_false_iff_not]; omega
          have hleB : decide (S < P) = false := by rw [decide_eq_false_iff_not]; omega
          clear hle hlt hq2 hr ha1 ha2 hb2 hcc hYp hq1
          subst hqe
          go_wp2
          go_ret2
          exact ⟨_, two_ints rfl rfl, rfl⟩
        · have hgt : Q0 < g := by
            have hqb := HQ0B.out
            rcases hcase with h | ⟨_, h⟩
            · omega
            · have h2 := dv_gt hYp (D2.out h)
              rw [HQ0.out] at h2
              exact h2
          obtain ⟨g', hg'⟩ : ∃ g', g = g' + 1 := ⟨g - 1, by omega⟩
          obtain ⟨t', ht'⟩ : ∃ t', t + a = t' := ⟨_, rfl⟩
          have hqr' := dv_less HQR.out hg'
          rw [ht'] at hqr'
          have wg : IntKind.u64.wrap ((g : Int) - 1) = (g' : Int) := by
            have : (g : Int) - 1 = (g' : Int) := by omega
            rw [this]; exact wrap_id (by omega)
          have wt : IntKind.u64.wrap ((t : Int) + (a : Int)) = (t' : Int) := by
            have : (t : Int) + (a : Int) = (t' : Int) := by omega
            rw [this]; exact wrap_id (by omega)
          have hg2 : g' ≤ 4294967296 := by omega
          have HG3 : Hid (Q0 ≤ g') := Lib.hid (by omega)
          have HG4 : Hid ((intOf (.int .u64 (g' : Int))).toNat < (intOf (.int .u64 (g : Int))).toNat) := Lib.hid (by simp [intOf]; omega)
          have hcI : decide ((4294967296 : Int) ≤ (g : Int)) = true ∨ (decide ((4294967296 : Int) ≤ (g : Int)) = false ∧ decide (S < P) = true) := by
            rw [decide_eq_true_iff, decide_eq_false_iff_not, decide_eq_true_iff]; omega
          by_cases hbr : 4294967296 ≤ t'
          · have hqe : Q0 = g' := by
              have h := dv_le hYp (dv1 (c := c0) HY.out hqr' (dv_break hg2 hb2 hbr))
              rw [HQ0.out] at h
              have := HG3.out
              omega
            have hbrI : decide ((4294967296 : Int) ≤ (t' : Int)) = true := by rw [decide_eq_true_iff]; omega
            clear hbr hq2 hr hcase hgt hq1 hg2 hg' ht' ha1 ha2 hb2 hcc hYp hqr' HG3 HG4
            subst hqe
            rcases hcI with hc | ⟨hc, hc'⟩
            all_goals
              go_wp2
              go_ret2
              exact ⟨_, two_ints rfl rfl, rfl⟩
          · have HQR' := Lib.hid hqr'
            have hbrI : decide ((4294967296 : Int) ≤ (t' : Int)) = false := by rw [decide_eq_false_iff_not]; omega
            have HB1 : Hid (g' ≤ 4294967297) := Lib.hid (by omega)
            have HB2 : Hid (t' < 4294967296) := Lib.hid (by omega)
            clear hbr hq2 hr hcase hgt hg2 hq1 hg' ht' ha1 ha2 hb2 hcc hYp hqr'
            rcases hcI with hc | ⟨hc, hc'⟩
            all_goals
              go_wp2
              go_round
              case rel => exact ⟨g', t', rfl, rfl, HQR'.out, HG3.out, HB1.out, HB2.out⟩
              case measure => exact HG4.out
    · have hgt : Q < g := by
        have hqb := HQB.out
        rcases hcase with h | ⟨_, h⟩
        · omega
        · have h2 := dv_gt hYp (D2.out h)
          rw [HQ.out] at h2
          exact h2
      obtain ⟨g', hg'⟩ : ∃ g', g = g' + 1 := ⟨g - 1, by omega⟩
      obtain ⟨t', ht'⟩ : ∃ t', t + a = t' := ⟨_, rfl⟩
      have hqr' := dv_less HQR.out hg'
      rw [ht'] at hqr'
      have wg : IntKind.u64.wrap ((g : Int) - 1) = (g' : Int) := by
        have : (g : Int) - 1 = (g' : Int) := by omega
        rw [this]; exact wrap_id (by omega)
      have wt : IntKind.u64.wrap ((t : Int) + (a : Int)) = (t' : Int) := by
        have : (t : Int) + (a : Int) = (t' : Int) := by omega
        rw [this]; exact wrap_id (by omega)
      have hg2 : g' ≤ 4294967296 := by omega
      have HG3 : Hid (Q ≤ g') := Lib.hid (by omega)
      have HG4 : Hid ((intOf (.int .u64 (g' : Int))).toNat < (intOf (.int .u64 (g : Int))).toNat) := Lib.hid (by simp [intOf]; omega)
      have hcI : decide ((4294967296 : Int) ≤ (g : Int)) = true ∨ (decide ((4294967296 : Int) ≤ (g : Int)) = false ∧ decide (S < P) = true) := by
        rw [decide_eq_true_iff, decide_eq_false_iff_not, decide_eq_true_iff]; omega
      by_cases hbr : 4294967296 ≤ t'
      · have hqe : Q = g' := by
          have h := dv_le hYp (dv1 (c := c1) HY.out hqr' (dv_break hg2 hb2 hbr))
          rw [HQ.out] at h
          have := HG3.out
          omega
        have hbrI : decide ((4294967296 : Int) ≤ (t' : Int)) = true := by rw [decide_eq_true_iff]; omega
        clear hbr hq2 hr hcase hgt hq1 hg2 hg' ht' ha1 ha2 hb2 hcc hYp hqr' HG3 HG4
        subst hqe
        rcases hcI with hc | ⟨hc, hc'⟩
        all_goals
          obtain ⟨w22, w20, w21, w19, w11, w13, w15, w16, w17, w18⟩ := S2.out
          go_wp2
          go_loop [18, 16] (fun v1 v2 => ∃ g t : Nat, v1 = .int .u64 g ∧ v2 = .int .u64 t ∧ g * a + t = R ∧ Q0 ≤ g ∧ g ≤ 4294967297 ∧ t < 4294967296) (fun v1 _ => (intOf v1).toNat)
          case atStart => exact ⟨q', r', rfl, rfl, M3.out, S3.out, S4.out, by have := BA.out.2.1; omega⟩
          case round =>
            obtain ⟨g, t, rfl, rfl, hqr, hq1, hq2, hr⟩ := hrel
            obtain ⟨ha1, ha2, hb2, hcc, hYp⟩ : 2147483648 ≤ a ∧ a < 4294967296 ∧ b < 4294967296 ∧ c0 < 4294967296 ∧ 0 < Y := ⟨BA.out.1, BA.out.2.1, BA.out.2.2.1, BA.out.2.2.2.2.1, BA.out.2.2.2.2.2⟩
            have hP := dv_prod hq2 hb2
            have d1 := dv1 (c := c0) HY.out hqr
            have d2 := dv2 (c := c0) HY.out hqr
            obtain ⟨P, eP⟩ : ∃ P, g * b = P := ⟨_, rfl⟩
            rw [eP] at hP d1 d2
            have wP : IntKind.u64.wrap ((g : Int) * (b : Int)) = (P : Int) := by
              have : (g : Int) * (b : Int) = (P : Int) := by rw [← eP]; exact (Int.natCast_mul _ _).symm
              rw [this]; exact wrap_id hP
            obtain ⟨S, eS⟩ : ∃ S, 4294967296 * t + c0 = S := ⟨_, rfl⟩
            obtain ⟨T, eT⟩ : ∃ T, 4294967296 * t = T := ⟨_, rfl⟩
            rw [eS] at d1 d2
            have hT : T ≤ 18446744069414584320 := by rw [← eT]; exact Nat.mul_le_mul_left 4294967296 (show t ≤ 4294967295 by omega)
            have wT : IntKind.u64.wrap (4294967296 * (t : Int)) = (T : Int) := by
              have : 4294967296 * (t : Int) = (T : Int) := by rw [← eT]; exact (Int.natCast_mul _ _).symm
              rw [this]; exact wrap_id (by omega)
            have wS : IntKind.u64.wrap ((T : Int) + (c0 : Int)) = (S : Int) := by
              rw [eT] at eS
              have : (T : Int) + (c0 : Int) = (S : Int) := by rw [← eS]; exact (Int.natCast_add _ _).symm
              rw [this]; exact wrap_id (by omega)
            have D1 := Lib.hid d1
            have D2 := Lib.hid d2
            have HQR := Lib.hid hqr
            clear d1 d2 hqr eP eT eS hT hP
            have hcase : (g < 4294967296 ∧ P ≤ S) ∨ (4294967296 ≤ g ∨ (g < 4294967296 ∧ S < P)) := by omega
            rcases hcase with ⟨hlt, hle⟩ | hcase
            · have hqe : Q0 = g := by
                have h := dv_le hYp (D1.out hle)
                rw [HQ0.out] at h
                omega
              have hltB : decide ((4294967296 : Int) ≤ (g : Int)) = false := by rw [decide_eq_false_iff_not]; omega
              have hleB : decide (S < P) = false := by rw [decide_eq_false_iff_not]; omega
              clear hle hlt hq2 hr ha1 ha2 hb2 hcc hYp hq1
              subst hqe
              go_wp2
              go_ret2
              exact ⟨_, two_ints rfl rfl, rfl⟩
            · have hgt : Q0 < g := by
                have hqb := HQ0B.out
                rcases hcase with h | ⟨_, h⟩
                · omega
                · have h2 := dv_gt hYp (D2.out h)
                  rw [HQ0.out] at h2
                  exact h2
              obtain ⟨g', hg'⟩ : ∃ g', g = g' + 1 := ⟨g - 1, by omega⟩
              obtain ⟨t', ht'⟩ : ∃ t', t + a = t' := ⟨_, rfl⟩
              have hqr' := dv_less HQR.out hg'
              rw [ht'] at hqr'
              have wg : IntKind.u64.wrap ((g : Int) - 1) = (g' : Int) := by
                have : (g : Int) - 1 = (g' : Int) := by omega
                rw [this]; exact wrap_id (by omega)
              have wt : IntKind.u64.wrap ((t : Int) + (a : Int)) = (t' : Int) := by
                have : (t : Int) + (a : Int) = (t' : Int) := by omega
                rw [this]; exact wrap_id (by omega)
              have hg2 : g' ≤ 4294967296 := by omega
              have HG3 : Hid (Q0 ≤ g') := Lib.hid (by omega)
              have HG4 : Hid ((intOf (.int .u64 (g' : Int))).toNat < (intOf (.int .u64 (g : Int))).toNat) := Lib.hid (by simp [intOf]; omega)
              have hcI : decide ((4294967296 : Int) ≤ (g : Int)) = true ∨ (decide ((4294967296 : Int) ≤ (g : Int)) = false ∧ decide (S < P) = true) := by
                rw [decide_eq_true_iff, decide_eq_false_iff_not, decide_eq_true_iff]; omega
              by_cases hbr : 4294967296 ≤ t'
              · have hqe : Q0 = g' := by
                  have h := dv_le hYp (dv1 (c := c0) HY.out hqr' (dv_break hg2 hb2 hbr))
                  rw [HQ0.out] at h
                  have := HG3.out
                  omega
                have hbrI : decide ((4294967296 : Int) ≤ (t' : Int)) = true := by rw [decide_eq_true_iff]; omega
                clear hbr hq2 hr hcase hgt hq1 hg2 hg' ht' ha1 ha2 hb2 hcc hYp hqr' HG3 HG4
                subst hqe
                rcases hcI with hc | ⟨hc, hc'⟩
                all_goals
                  go_wp2
                  go_ret2
                  exact ⟨_, two_ints rfl rfl, rfl⟩
              · have HQR' := Lib.hid hqr'
                have hbrI : decide ((4294967296 : Int) ≤ (t' : Int)) = false := by rw [decide_eq_false_iff_not]; omega
                have HB1 : Hid (g' ≤ 4294967297) := Lib.hid (by omega)
                have HB2 : Hid (t' < 4294967296) := Lib.hid (by omega)
                clear hbr hq2 hr hcase hgt hg2 hq1 hg' ht' ha1 ha2 hb2 hcc hYp hqr'
                rcases hcI with hc | ⟨hc, hc'⟩
                all_goals
                  go_wp2
                  go_round
                  case rel => exact ⟨g', t', rfl, rfl, HQR'.out, HG3.out, HB1.out, HB2.out⟩
                  case measure => exact HG4.out
      · have HQR' := Lib.hid hqr'
        have hbrI : decide ((4294967296 : Int) ≤ (t' : Int)) = false := by rw [decide_eq_false_iff_not]; omega
        have HB1 : Hid (g' ≤ 4294967297) := Lib.hid (by omega)
        have HB2 : Hid (t' < 4294967296) := Lib.hid (by omega)
        clear hbr hq2 hr hcase hgt hg2 hq1 hg' ht' ha1 ha2 hb2 hcc hYp hqr'
        rcases hcI with hc | ⟨hc, hc'⟩
        all_goals
          go_wp2
          go_round
          case rel => exact ⟨g', t', rfl, rfl, HQR'.out, HG3.out, HB1.out, HB2.out⟩
          case measure => exact HG4.out
end Go.Proofs.Ytegnoheaglnhhab
