/-
  Entries of a tree as bytes: contract of LeafSize.
-/
import Derived.Test.YtgdipljaddodhaaYg
set_option linter.unusedSimpArgs false
namespace Go.Proofs.Ytgdipljaddodhaa
open Go.RowKit

/-- How many bytes a leaf page uses. -/
def sumE (l : List En) : Nat := (l.map fun e => 8 + e.s.size).sum
theorem sumE_take {l : List En} {k : Nat} {v : En} (h : l[k]? = some v) : sumE (l.take (k + 1)) = sumE (l.take k) + (8 + v.s.size) := by
  unfold sumE; rw [List.take_add_one, h]; simp
theorem sumE_len : ∀ l : List En, (l.flatMap enL).length = sumE l
  | [] => rfl
  | e :: l => by
    rw [List.flatMap_cons, List.length_append, enL_len, sumE_len l]
    unfold sumE
    simp
theorem sumE_gr : ∀ (l : List En) (q : Int), 0 ≤ q → q ≤ 9000 → grE q l = false → l.length ≤ 9000 ∧ (∀ e ∈ l, e.s.size ≤ 9000) ∧ q + (l.length : Int) + ((l.map fun e => e.s.size).sum : Nat) ≤ 9000
  | [], q, _, h9, _ => ⟨by simp, by simp, by simp; omega⟩
  | e :: l, q, h0, h9, h => by
    unfold grE at h
    split at h
    · cases h
    · rename_i hq
      obtain ⟨a, b, c⟩ := sumE_gr l _ (by omega) (by omega) h
      have hs : (e.s.size : Int) ≤ 9000 := by omega
      refine ⟨by simp only [List.length_cons]; omega, fun x hx => ?_, by simp only [List.length_cons, List.map_cons, List.sum_cons]; omega⟩
      rcases List.mem_cons.1 hx with rfl | hx
      · omega
      · exact b x hx
theorem sumE_eq : ∀ l : List En, sumE l = 8 * l.length + (l.map fun e => e.s.size).sum
  | [] => rfl
  | e :: l => by
    have ih := sumE_eq l
    unfold sumE at ih ⊢
    simp only [List.map_cons, List.sum_cons, List.length_cons, ih]
    omega
theorem sumE_bd {l : List En} (h : grE 0 l = false) : sumE l ≤ 72000 ∧ l.length ≤ 9000 ∧ ∀ e ∈ l, e.s.size ≤ 9000 := by
  obtain ⟨a, b, c⟩ := sumE_gr l 0 (by omega) (by omega) h
  have := sumE_eq l
  exact ⟨by omega, a, b⟩
theorem sumE_mono (l : List En) (k : Nat) : sumE (l.take k) ≤ sumE l := by
  have h : sumE l = sumE (l.take k) + sumE (l.drop k) := by
    unfold sumE
    conv => lhs; rw [← List.take_append_drop k l]
    rw [List.map_append, List.sum_append]
  omega

set_option maxHeartbeats 1000000 in
theorem leafSize_any (A : Option Addr) (n c : Nat) (l : List En) (w : World) (hr : Reads w w.heap.size 3 A n (vE l)) (hsz : sumE l ≤ 72000) :
    Calls Try.prog 16 #[.slice A n c] w (RetB w (.int .i64 (8 + (sumE l : Int)))) := by
  have hl : l.length = n := by have := hr.1; rw [vE_len] at this; omega
  have Hl := Lib.hid hl; clear hl
  go_enter Try.func16, Try.ntmps16
  go_wp2
  go_loopw [3, 8] (fun m i wr => ∃ k : Nat, k ≤ n ∧ i = .int .i64 k ∧ m = .int .i64 (8 + (sumE (l.take k) : Int)) ∧ Below w.heap.size w wr) (fun _ i _ => n - (intOf i).toNat)
  case atStart => exact ⟨0, Nat.zero_le _, rfl, rfl, Below.refl _ _⟩
  case round =>
    obtain ⟨k, hk, rfl, rfl, hb⟩ := hrel
    have q0 : (0 : Int) ≤ (k : Int) := by omega
    by_cases hlt : k < n
    · have q1 : (k : Int) < (n : Int) := by omega
      have hkn : (k : Int) ≤ 1000000 := by
        have h1 := sumE_eq l
        have h2 := Hl.out
        omega
      obtain ⟨ad, v, rfl, hab, hv, d0, d1, d2⟩ := (hr.below hb).ent hlt
      have HS := Lib.hid (sumE_take hv)
      have hmo := sumE_mono l (k + 1)
      rw [HS.out] at hmo
      clear hv
      obtain ⟨s, p, q⟩ := v
      simp only at d0 d1 d2 HS hmo
      obtain ⟨T, hT⟩ : ∃ T, sumE (l.take k) = T := ⟨_, rfl⟩
      rw [hT] at HS hmo ⊢
      clear hT
      have t0 : (0 : Int) ≤ (T : Int) := by omega
      have t1 : (T : Int) + (s.size : Int) ≤ 72000 := by omega
      have t2 : (0 : Int) ≤ (s.size : Int) := by omega
      clear hmo hsz
      go_wp2
      go_roundw
      case rel => exact ⟨k + 1, by omega, by go_num, val_int (by rw [HS.out]; omega), ball hb _⟩
      case measure => simp [intOf]; omega
    · obtain rfl : k = n := by omega
      have hT : Hid (sumE (l.take k) = sumE l) := Lib.hid (by rw [List.take_of_length_le (by rw [Hl.out]; exact Nat.le_refl _)])
      go_wp2
      go_ret
      exact ⟨by rw [hT.out]; rfl, hb⟩
end Go.Proofs.Ytgdipljaddodhaa
