
/-
  Same of two rows that read the same; a row's line.
-/
import Derived.Test.YtblpflobpffjnaaDoorWe
set_option linter.unusedSimpArgs false
set_option linter.unusedVariables false
namespace Go.Proofs.YtblpflobpffjnaaDoor
open Go.RowKit

set_option maxRecDepth 100000 in
set_option maxHeartbeats 2000000 in
theorem same30_any (A : Option Addr) (n c : Nat) (A2 : Option Addr) (c2 : Nat) (l : List Vl) (w : World) (hr : Reads w w.heap.size 3 A n (vV l)) (hr2 : Reads w w.heap.size 3 A2 n (vV l)) (hn : n ≤ 1000000) :
    Calls Tryd.prog 16 #[.slice A n c, .slice A2 n c2] w (RetB w (.bool true)) := by
  have hnI : (n : Int) ≤ 1000000 := by omega
  go_enter Tryd.func16, Tryd.ntmps16
  go_wp2
  go_loopw [13] (fun iv wr => ∃ j : Nat, j ≤ n ∧ iv = .int .i64 j ∧ Below w.heap.size w wr) (fun iv _ => n - (intOf iv).toNat)
  case atStart => exact ⟨0, by omega, rfl, Below.refl _ _⟩
  case round =>
    obtain ⟨j, hj, rfl, hb⟩ := hrel
    have q0 : (0 : Int) ≤ (j : Int) := by omega
    by_cases hlt : j < n
    · have q1 : (j : Int) < (n : Int) := by omega
      obtain ⟨ad, v, rfl, hab, hv, d0, d1, d2⟩ := (hr.below hb).val hlt
      obtain ⟨ad2, v2, rfl, hab2, hv2, d20, d21, d22⟩ := (hr2.below hb).val hlt
      rw [hv] at hv2
      injection hv2 with hv2
      subst hv2
      clear hv
      obtain ⟨vk, vi, vs⟩ := v
      simp only at d0 d1 d2 d20 d21 d22
      go_wp2
      go_quiet (fail)
      go_wp2
      go_roundw
      case rel => exact ⟨j + 1, by omega, by go_num, bdr hb _⟩
      case measure => simp [intOf]; omega
    · go_wp2
      go_ret
      exact ⟨rfl, hb⟩

theorem str_app30 (a b : List UInt8) : str a ++ str b = str (a ++ b) := by
  apply ByteArray.ext
  rw [ByteArray.data_append]
  simp [str]
theorem str_bar : (⟨#[32, 124, 32]⟩ : ByteArray) = str [32, 124, 32] := rfl
theorem joinB_snoc : ∀ {l : List (List UInt8)} (x : List UInt8), l ≠ [] → joinB (l ++ [x]) = joinB l ++ 32 :: 124 :: 32 :: x
  | [], x, h => absurd rfl h
  | [y], x, _ => rfl
  | y :: z :: r, x, _ => by
    rw [show y :: z :: r ++ [x] = y :: ((z :: r) ++ [x]) from rfl, joinB_cons y (l := (z :: r) ++ [x]) (by simp), joinB_snoc (l := z :: r) x (by simp), joinB_cons y (l := z :: r) (by simp)]
    simp
theorem show_str (v : Vl) : showV v = str (showL v) := ba_ext (show_list v)
theorem joinB_bound (M : Nat) : ∀ l : List (List UInt8), (∀ x ∈ l, x.length ≤ M) → (joinB l).length ≤ l.length * (M + 3)
  | [], _ => by simp [joinB]
  | [x], h => by
    have := h x (by simp)
    simp only [joinB, List.length_cons, List.length_nil]
    omega
  | x :: y :: r, h => by
    have h1 := h x (by simp)
    have h2 := joinB_bound M (y :: r) fun z hz => h z (by simp [List.mem_cons.1 hz])
    rw [joinB_cons _ (by simp)]
    simp only [List.length_append, List.length_cons] at h2 ⊢
    have e : (r.length + 1 + 1) * (M + 3) = (r.length + 1) * (M + 3) + (M + 3) := by rw [Nat.add_mul _ 1, Nat.one_mul]
    omega
/-- Values that are not too great: shown in at most 10000 bytes. -/
def RowOk (l : List Vl) : Prop := ∀ v ∈ l, -9223372036854775808 ≤ v.i ∧ v.i ≤ 9223372036854775807 ∧ v.s.size ≤ 4999
theorem rowok_show {l : List Vl} (h : RowOk l) : ∀ x ∈ l.map showL, x.length ≤ 10000 := by
  intro x hx
  obtain ⟨v, hv, rfl⟩ := List.mem_map.1 hx
  obtain ⟨h1, h2, h3⟩ := h v hv
  rw [← show_list, len_size]
  exact show_size30 v h1 h2 h3

set_option maxRecDepth 100000 in
set_option maxHeartbeats 2000000 in
theorem line_any (A : Option Addr) (n c : Nat) (l : List Vl) (w : World) (hr : Reads w w.heap.size 3 A n (vV l)) (hok : RowOk l) (hn : n ≤ 10000) :
    Calls Tryd.prog 18 #[.slice A n c] w (RetB w (.string (str (joinB (l.map showL))))) := by
  have hnI : (n : Int) ≤ 10000 := by omega
  have hln : l.length = n := by have := hr.1; rw [vV_len] at this; omega
  have HOK := Lib.hid hok
  have HLN := Lib.hid hln
  have HR := Lib.hid hr
  clear hok hln hr
  go_enter Tryd.func18, Tryd.ntmps18
  go_wp2
  go_loopw [3, 7] (fun sv kv wr => ∃ k : Nat, k ≤ n ∧ sv = .string (str (joinB ((l.take k).map showL))) ∧ kv = .int .i64 k ∧ Below w.heap.size w wr) (fun _ kv _ => n - (intOf kv).toNat)
  case atStart => exact ⟨0, by omega, rfl, rfl, Below.refl _ _⟩
  case round =>
    obtain ⟨k, hk, rfl, rfl, hb⟩ := hrel
    have k0 : (0 : Int) ≤ (k : Int) := by omega
    by_cases hlt : k < n
    · have k1 : (k : Int) < (n : Int) := by omega
      obtain ⟨ad, v, rfl, hab, hv, d0, d1, d2⟩ := (HR.out.below hb).val hlt
      have hvo := HOK.out v (List.mem_of_getElem? hv)
      have HS := Lib.hid fun W => rshow_any v W hvo.1 hvo.2.1 (by omega)
      rw [show_str] at HS
      have hnx : (l.take (k + 1)).map showL = (l.take k).map showL ++ [showL v] := map_take_succ showL l k v hv
      have hbd := joinB_bound 10000 ((l.take k).map showL) fun x hx => rowok_show HOK.out x (by
        obtain ⟨u, hu, rfl⟩ := List.mem_map.1 hx
        exact List.mem_map.2 ⟨u, List.mem_of_mem_take hu, rfl⟩)
      have hbs := rowok_show HOK.out (showL v) (List.mem_map.2 ⟨v, List.mem_of_getElem? hv, rfl⟩)
      have htl : ((l.take k).map showL).length = k := by rw [List.length_map, List.length_take, HLN.out]; omega
      rw [htl] at hbd
      have hbd2 : k * 10003 ≤ 10000 * 10003 := Nat.mul_le_mul_right _ (by omega)
      have hne : 0 < k → (l.take k).map showL ≠ [] := fun h e => by rw [e] at htl; simp at htl; omega
      have hnil : k = 0 → (l.take k).map showL = [] := fun h => by subst h; rfl
      have hj : joinB ((l.take (k + 1)).map showL) = if 0 < k then joinB ((l.take k).map showL) ++ [32, 124, 32] ++ showL v else showL v := by
        rw [hnx]
        by_cases h : 0 < k
        · rw [if_pos h, joinB_snoc _ (hne h)]; simp
        · rw [if_neg h, hnil (by omega)]; rfl
      have hz0 : ¬ 0 < k → joinB ((l.take k).map showL) = [] := fun h => by rw [hnil (by omega)]; rfl
      clear hnx hne hnil htl hvo hv
      obtain ⟨vk, vi, vs⟩ := v
      unfold Vl.agg at HS
      simp only at *
      generalize showL ⟨vk, vi, vs⟩ = S at *
      generalize joinB ((l.take k).map showL) = T at *
      have HJ := Lib.hid hj
      clear hj
      by_cases hp : 0 < k
      · have kp : (0 : Int) < (k : Int) := by omega
        have o1 : ¬ 9223372036854775807 < (str T).size + 3 := by rw [str_size]; omega
        have e1 : str T ++ (⟨#[32, 124, 32]⟩ : ByteArray) = str (T ++ [32, 124, 32]) := by rw [str_bar, str_app30]
        have o2 : ¬ 9223372036854775807 < (str (T ++ [32, 124, 32])).size + (str S).size := by rw [str_size, str_size, List.length_append]; simp only [List.length_cons, List.length_nil]; omega
        have HE := Lib.hid (str_app30 (T ++ [32, 124, 32]) S)
        clear hz0
        go_wp2_with fail
        refine (HS.out _).mono ?_
        rintro e w1 ⟨rfl, hb1⟩
        have hbw := bto0 hb hb1
        go_wp2
        go_roundw
        case rel => exact ⟨k + 1, by omega, by rw [HJ.out, if_pos hp, HE.out], by go_num, hbw⟩
        case measure => simp [intOf]; omega
      · have kp : (k : Int) ≤ 0 := by omega
        have hT := hz0 hp
        subst hT
        have o2 : ¬ 9223372036854775807 < (str ([] : List UInt8)).size + (str S).size := by rw [str_size, str_size]; simp only [List.length_nil]; omega
        have HE := Lib.hid (str_app30 [] S)
        clear hz0
        go_wp2_with fail
        refine (HS.out _).mono ?_
        rintro e w1 ⟨rfl, hb1⟩
        have hbw := bto0 hb hb1
        go_wp2
        go_roundw
        case rel => exact ⟨k + 1, by omega, by rw [HJ.out, if_neg hp, HE.out]; rfl, by go_num, hbw⟩
        case measure => simp [intOf]; omega
    · obtain rfl : k = n := by omega
      have hfin : Hid (joinB ((l.take k).map showL) = joinB (l.map showL)) := Lib.hid (by rw [List.take_of_length_le (by rw [HLN.out]; omega)])
      go_wp2
      go_ret
      exact ⟨by rw [hfin.out]; rfl, hb⟩
end Go.Proofs.YtblpflobpffjnaaDoor
