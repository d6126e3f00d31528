/-
  Entries of a tree as bytes: contracts of putNumber, putEntry.
-/
import Derived.Test.YtgdipljaddodhaaYe
import Derived.Test.YtgdipljaddodhaaYj
import Derived.Test.YtgdipljaddodhaaOz
import Derived.IntWalk
set_option linter.unusedSimpArgs false
namespace Go.Proofs.Ytgdipljaddodhaa
open Go.RowKit

def RetOwn (w : World) (base : Nat) (l : List UInt8) (e : Ending) (w' : World) : Prop := ∃ v', e = .returned v' ∧ Own w' base v' l ∧ Keeps base w w'
theorem shr_any {U d : Nat} : (U : Int) / 2 ^ (8 * d) % 256 = ((UInt8.ofNat (U / 256 ^ d)).toNat : Int) := by
  have h2 : (2 : Int) ^ (8 * d) = ((256 ^ d : Nat) : Int) := by
    rw [Int.pow_mul, Int.natCast_pow]
    rfl
  rw [h2, u8_nat, Int.natCast_ediv]

set_option maxRecDepth 100000 in
set_option maxHeartbeats 2000000 in
theorem putNum4_any (U : Nat) (hU : U < 4294967296) (sv : Value) (l : List UInt8) (w : World) (base : Nat) (hown : Own w base sv l) (hb : base ≤ w.heap.size) (hlen : l.length ≤ 100000000) :
    Calls Try.prog 42 #[sv, .int .i64 4, .int .u32 U] w (RetOwn w base (l ++ be 4 U)) := by
  have hU0 : (0 : Int) ≤ (U : Int) := by omega
  clear hU
  go_enter Try.func42, Try.ntmps42
  go_wp2
  go_loopw [0, 9] (fun bv iv wr => ∃ j : Nat, j ≤ 4 ∧ iv = .int .i64 j ∧ Own wr base bv (l ++ (be 4 U).take j) ∧ Keeps base w wr) (fun _ iv _ => 4 - (intOf iv).toNat)
  case atStart => exact ⟨0, by omega, rfl, by rw [List.take_zero, List.append_nil]; exact hown, Keeps.refl _ _⟩
  case round =>
    obtain ⟨j, hj, rfl, hown2, hkp⟩ := hrel
    have q0 : (0 : Int) ≤ (j : Int) := by omega
    have hbr := Nat.le_trans hb hkp.size
    by_cases hlt : j < 4
    · have q1 : (j : Int) < 4 := by omega
      have hl2 : (l ++ (be 4 U).take j).length ≤ 100000020 := by simp [be_len]; omega
      have hj4 : j = 0 ∨ j = 1 ∨ j = 2 ∨ j = 3 := by omega
      have HN := Lib.hid (be_take 4 U j hlt)
      have b0 : (U : Int) / 2 ^ 24 % 256 = ((UInt8.ofNat (U / 256 ^ 3)).toNat : Int) := shr_any (d := 3)
      have b1 : (U : Int) / 2 ^ 16 % 256 = ((UInt8.ofNat (U / 256 ^ 2)).toNat : Int) := shr_any (d := 2)
      have b2 : (U : Int) / 2 ^ 8 % 256 = ((UInt8.ofNat (U / 256 ^ 1)).toNat : Int) := shr_any (d := 1)
      have b3 : (U : Int) % 256 = ((UInt8.ofNat (U / 256 ^ 0)).toNat : Int) := by have := shr_any (U := U) (d := 0); rw [Nat.mul_zero, Int.pow_zero, Int.ediv_one] at this; exact this
      have HB := Lib.hid (And.intro b0 (And.intro b1 (And.intro b2 b3)))
      clear b0 b1 b2 b3
      rcases hj4 with rfl | rfl | rfl | rfl
      · go_wp2_with (at_builtin; refine wpList_pushB rfl _ _ rfl base u0 _ (UInt8.ofNat (U / 256 ^ 3)) _ rfl hown2 _ rfl rfl HB.out.1 (by omega) hbr ?_; intro v2 w2 own2 kp2)
        go_roundw
        case rel => exact ⟨1, by omega, rfl, by rw [HN.out]; simpa using own2, hkp.trans kp2⟩
        case measure => simp [intOf]
      · go_wp2_with (at_builtin; refine wpList_pushB rfl _ _ rfl base u0 _ (UInt8.ofNat (U / 256 ^ 2)) _ rfl hown2 _ rfl rfl HB.out.2.1 (by omega) hbr ?_; intro v2 w2 own2 kp2)
        go_roundw
        case rel => exact ⟨2, by omega, rfl, by rw [HN.out]; simpa using own2, hkp.trans kp2⟩
        case measure => simp [intOf]
      · go_wp2_with (at_builtin; refine wpList_pushB rfl _ _ rfl base u0 _ (UInt8.ofNat (U / 256 ^ 1)) _ rfl hown2 _ rfl rfl HB.out.2.2.1 (by omega) hbr ?_; intro v2 w2 own2 kp2)
        go_roundw
        case rel => exact ⟨3, by omega, rfl, by rw [HN.out]; simpa using own2, hkp.trans kp2⟩
        case measure => simp [intOf]
      · go_wp2_with (at_builtin; refine wpList_pushB rfl _ _ rfl base u0 _ (UInt8.ofNat (U / 256 ^ 0)) _ rfl hown2 _ rfl rfl HB.out.2.2.2 (by omega) hbr ?_; intro v2 w2 own2 kp2)
        go_roundw
        case rel => exact ⟨4, by omega, rfl, by rw [HN.out]; simpa using own2, hkp.trans kp2⟩
        case measure => simp [intOf]
    · obtain rfl : j = 4 := by omega
      have hT : (be 4 U).take 4 = be 4 U := List.take_of_length_le (by rw [be_len]; exact Nat.le_refl _)
      rw [hT] at hown2
      clear hT
      go_wp2
      go_ret
      exact ⟨_, rfl, hown2, hkp⟩
set_option maxHeartbeats 2000000 in
theorem putNum2_any (U : Nat) (hU : U < 4294967296) (sv : Value) (l : List UInt8) (w : World) (base : Nat) (hown : Own w base sv l) (hb : base ≤ w.heap.size) (hlen : l.length ≤ 100000000) :
    Calls Try.prog 42 #[sv, .int .i64 2, .int .u32 U] w (RetOwn w base (l ++ be 2 U)) := by
  have hU0 : (0 : Int) ≤ (U : Int) := by omega
  clear hU
  go_enter Try.func42, Try.ntmps42
  go_wp2
  go_loopw [0, 9] (fun bv iv wr => ∃ j : Nat, j ≤ 2 ∧ iv = .int .i64 j ∧ Own wr base bv (l ++ (be 2 U).take j) ∧ Keeps base w wr) (fun _ iv _ => 2 - (intOf iv).toNat)
  case atStart => exact ⟨0, by omega, rfl, by rw [List.take_zero, List.append_nil]; exact hown, Keeps.refl _ _⟩
  case round =>
    obtain ⟨j, hj, rfl, hown2, hkp⟩ := hrel
    have q0 : (0 : Int) ≤ (j : Int) := by omega
    have hbr := Nat.le_trans hb hkp.size
    by_cases hlt : j < 2
    · have q1 : (j : Int) < 2 := by omega
      have hl2 : (l ++ (be 2 U).take j).length ≤ 100000020 := by simp [be_len]; omega
      have hj4 : j = 0 ∨ j = 1 := by omega
      have HN := Lib.hid (be_take 2 U j hlt)
      have b2 : (U : Int) / 2 ^ 8 % 256 = ((UInt8.ofNat (U / 256 ^ 1)).toNat : Int) := shr_any (d := 1)
      have b3 : (U : Int) % 256 = ((UInt8.ofNat (U / 256 ^ 0)).toNat : Int) := by have := shr_any (U := U) (d := 0); rw [Nat.mul_zero, Int.pow_zero, Int.ediv_one] at this; exact this
      have HB := Lib.hid (And.intro b2 b3)
      clear b2 b3
      rcases hj4 with rfl | rfl
      · go_wp2_with (at_builtin; refine wpList_pushB rfl _ _ rfl base u0 _ (UInt8.ofNat (U / 256 ^ 1)) _ rfl hown2 _ rfl rfl HB.out.1 (by omega) hbr ?_; intro v2 w2 own2 kp2)
        go_roundw
        case rel => exact ⟨1, by omega, rfl, by rw [HN.out]; simpa using own2, hkp.trans kp2⟩
        case measure => simp [intOf]
      · go_wp2_with (at_builtin; refine wpList_pushB rfl _ _ rfl base u0 _ (UInt8.ofNat (U / 256 ^ 0)) _ rfl hown2 _ rfl rfl HB.out.2 (by omega) hbr ?_; intro v2 w2 own2 kp2)
        go_roundw
        case rel => exact ⟨2, by omega, rfl, by rw [HN.out]; simpa using own2, hkp.trans kp2⟩
        case measure => simp [intOf]
    · obtain rfl : j = 2 := by omega
      have hT : (be 2 U).take 2 = be 2 U := List.take_of_length_le (by rw [be_len]; exact Nat.le_refl _)
      rw [hT] at hown2
      clear hT
      go_wp2
      go_ret
      exact ⟨_, rfl, hown2, hkp⟩
end Go.Proofs.Ytgdipljaddodhaa
