/-
  Leaf pages: contract of the reference's Leaf.
-/
import Derived.Test.YtgdipljaddodhaaZb
set_option linter.unusedSimpArgs false
namespace Go.Proofs.Ytgdipljaddodhaa
open Go.RowKit

theorem size8 (l : List En) : sizE 8 8 l = 8 + sumE l := by
  have h := sizE_sum 0 8 l
  rw [Nat.zero_mul] at h
  exact h
set_option maxHeartbeats 4000000 in
theorem rleaf_no (next : Int) (A : Option Addr) (n c : Nat) (l : List En) (w : World) (hr : Reads w w.heap.size 3 A n (vE l)) (hn : n ≤ 1000000) (hs : sumE l ≤ 72000) (m : Nat) (hm : mayN l (8 + sumE l) = m) (hm0 : m ≠ 0) :
    Calls Try.prog 13 #[.int .u32 next, .slice A n c] w (RetB w (.tuple #[.string ⟨#[]⟩, .int .i64 m])) := by
  have S := rsize_any 8 8 A n c l w hr hn (by omega) (by rw [size8]; omega)
  have M := rmay_any (8 + sumE l) A n c l w hr hn (by omega)
  rw [hm] at M
  rw [size8] at S
  have HS := Lib.hid S
  have HM := Lib.hid M
  have hm1 : ((m : Nat) : Int) ≠ 0 := by omega
  have hb1 : (((m : Nat) : Int) == 0) = false := by simpa using hm1
  have hb2 : (((m : Nat) : Int) != 0) = true := by simpa using hm1
  have hb3 : (m == 0) = false := by simpa using hm0
  have hb4 : (m != 0) = true := by simpa using hm0
  clear S M hm hr hs hm0 hm1
  go_enter Try.func13, Try.ntmps13
  go_wp2_with fail
  refine HS.out.mono ?_
  rintro e w1 ⟨rfl, rfl⟩
  go_wp2_with fail
  refine HM.out.mono ?_
  rintro e w1 ⟨rfl, hb1⟩
  go_wp2
  go_ret2
  exact ⟨rfl, hb1⟩
set_option maxHeartbeats 4000000 in
theorem rleaf_ok (next : Nat) (hnx : next < 4294967296) (A : Option Addr) (n c : Nat) (l : List En) (w : World) (hr : Reads w w.heap.size 3 A n (vE l)) (hok : ∀ e ∈ l, e.ok) (hm : mayEn l = true) (hf : sumE l ≤ 504) :
    Calls Try.prog 13 #[.int .u32 next, .slice A n c] w (RetB w (.tuple #[.string (str (leafL next l)), .int .i64 0])) := by
  have hl : l.length = n := by have := hr.1; rw [vE_len] at this; omega
  have hnn : n ≤ 63 := by have := sumE_eq l; omega
  have hnI : (n : Int) ≤ 63 := by omega
  have S := rsize_any 8 8 A n c l w hr (by omega) (by omega) (by rw [size8]; omega)
  have M := rmay_any (8 + sumE l) A n c l w hr (by omega) (by omega)
  have hm0 : mayN l (8 + sumE l) = 0 := by unfold mayN; rw [hm, if_pos rfl, if_neg (by omega)]
  rw [hm0] at M
  rw [size8] at S
  have HS := Lib.hid S
  have HM := Lib.hid M
  have hlf : (l.flatMap enL).length ≤ 504 := by rw [sumE_len]; omega
  have PG := fun W => rpage_any 2 2 rfl n next (by omega) hnx (l.flatMap enL) hlf W
  rw [sumE_len] at PG
  have hlp : ((headL 2 n next).take 8 ++ l.flatMap enL) ++ List.replicate (512 - (8 + sumE l)) 0 = leafL next l := by unfold leafL; rw [hl]
  rw [hlp] at PG
  have HP := Lib.hid PG
  have Hl := Lib.hid hl
  have cn : IntKind.u16.wrap (n : Int) = (n : Int) := by rw [IntKind.wrap_u16]; omega
  clear S M hm hm0 hl hlp PG hnx
  go_enter Try.func13, Try.ntmps13
  go_wp2_with fail
  refine HS.out.mono ?_
  rintro e w1 ⟨rfl, rfl⟩
  go_wp2_with fail
  refine HM.out.mono ?_
  rintro e w1 ⟨rfl, hb1⟩
  go_wp2_with fail
  go_loopw [7, 18] (fun sv iv wr => ∃ k : Nat, k ≤ n ∧ iv = .int .i64 k ∧ sv = .string (str ((l.take k).flatMap enL)) ∧ Below w.heap.size w wr) (fun _ iv _ => n - (intOf iv).toNat)
  case atStart => exact ⟨0, by omega, rfl, rfl, hb1⟩
  case round =>
    clear hb1
    obtain ⟨k, hk, rfl, rfl, hb⟩ := hrel
    have r0 : (0 : Int) ≤ (k : Int) := by omega
    by_cases hlt : k < n
    · have r1 : (k : Int) < (n : Int) := by omega
      obtain ⟨ad, v, rfl, hab, hv, d0, d1, d2⟩ := (hr.below hb).ent hlt
      have hvok := hok v (List.mem_of_getElem? hv)
      have h1 := sumE_take hv
      have h2 := sumE_mono l (k + 1)
      have hvs : v.s.size ≤ 504 := by omega
      have hfl : Hid ((l.take (k + 1)).flatMap enL = (l.take k).flatMap enL ++ enL v) := Lib.hid (by rw [List.take_add_one, hv]; simp)
      have PE := Lib.hid fun W => rentry_any v hvok (by omega) W
      have z1 : ¬ 9223372036854775807 < (str ((l.take k).flatMap enL)).size + (str (enL v)).size := by rw [str_size, str_size, sumE_len, enL_len]; omega
      clear hv hvok hvs h1 h2
      obtain ⟨X, hX⟩ : ∃ X, (l.take k).flatMap enL = X := ⟨_, rfl⟩
      obtain ⟨Y, hY⟩ : ∃ Y, enL v = Y := ⟨_, rfl⟩
      rw [hX] at z1 hfl ⊢
      rw [hY] at z1 hfl PE
      clear hX hY
      have hcat : Hid (str X ++ str Y = str (X ++ Y)) := Lib.hid (str_append _ _)
      obtain ⟨s, p, q⟩ := v
      unfold En.agg at PE
      simp only at d0 d1 d2 PE
      go_wp2_with fail
      refine (PE.out _).mono ?_
      rintro e w4 ⟨rfl, hb4⟩
      go_wp2
      go_roundw
      case rel => exact ⟨k + 1, by omega, by go_num, by rw [hfl.out, ← hcat.out], bto0 hb hb4⟩
      case measure => simp [intOf]; omega
    · obtain rfl : k = n := by omega
      have hT : l.take k = l := List.take_of_length_le (by rw [Hl.out]; exact Nat.le_refl _)
      rw [hT]
      clear hT
      go_wp2_with fail
      refine (HP.out _).mono ?_
      rintro e w4 ⟨rfl, hb4⟩
      go_wp2
      go_ret2
      exact ⟨rfl, bto0 hb hb4⟩
end Go.Proofs.Ytgdipljaddodhaa
