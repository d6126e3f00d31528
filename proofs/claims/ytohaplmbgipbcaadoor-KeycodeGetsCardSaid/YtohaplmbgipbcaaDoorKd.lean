/-
  Keys as bytes: the chapter's example; the law's may; Begins; Behind.
-/
import Derived.Test.YtohaplmbgipbcaaDoorKc
import Derived.RegionTactic
import Derived.Lib.Strings
import Derived.StillTailTactics
namespace Go.Proofs.YtohaplmbgipbcaaDoor
open Go.RowKit

def rowA : List Vl := [⟨0, 0, ⟨#[]⟩⟩, ⟨2, 0, ⟨#[]⟩⟩]
def rowB : List Vl := [⟨3, 0, ⟨#[97]⟩⟩]
theorem rowA_ok : ∀ v ∈ rowA, v.ok := by
  intro v hv
  unfold rowA at hv
  rcases List.mem_cons.1 hv with rfl | hv
  · exact ⟨by simp, by simp, by simp [ByteArray.size, maxLen]⟩
  · rw [List.mem_singleton] at hv; subst hv
    exact ⟨by simp, by simp, by simp [ByteArray.size, maxLen]⟩
theorem rowB_ok : ∀ v ∈ rowB, v.ok := by
  intro v hv
  unfold rowB at hv
  rw [List.mem_singleton] at hv; subst hv
  exact ⟨by simp, by simp, by simp [ByteArray.size, maxLen]⟩
theorem least3 (w : World) : Calls Tryd.prog 21 #[.int .u8 3] w (RetB w (.string ⟨#[4]⟩)) := least_any 3 (by omega) (by omega) w

set_option maxHeartbeats 1000000 in
theorem fixed5_any (w : World) (hm : MaxC w) : Calls Tryd.prog 10 #[] w (RetB w (.bool true)) := by
  have P1 : Hid (∀ W, MaxC W → Calls Tryd.prog 11 #[.slice (some ⟨W.heap.size, 0, none⟩) 2 2] (W.alloc (.cells #[.int .u8 0, .int .i64 0, .string ⟨#[]⟩, .int .u8 2, .int .i64 0, .string ⟨#[]⟩] 43)) (RetB (W.alloc (.cells #[.int .u8 0, .int .i64 0, .string ⟨#[]⟩, .int .u8 2, .int .i64 0, .string ⟨#[]⟩] 43)) (.tuple #[.string ⟨#[1, 3, 0]⟩, .int .i64 0]))) := Lib.hid fun W hM =>
    kput_e (l := rowA) (by decide +kernel) (by decide +kernel) (kput_any _ 2 2 rowA _ (hM.below0 ((Below.refl _ W).alloc (Nat.le_refl _) _)) ((reads_new W #[.int .u8 0, .int .i64 0, .string ⟨#[]⟩, .int .u8 2, .int .i64 0, .string ⟨#[]⟩] _ rfl rfl).more (by simp)) rowA_ok (by decide +kernel))
  have P2 : Hid (∀ W, MaxC W → Calls Tryd.prog 11 #[.slice (some ⟨W.heap.size, 0, none⟩) 1 1] (W.alloc (.cells #[.int .u8 3, .int .i64 0, .string ⟨#[97]⟩] 43)) (RetB (W.alloc (.cells #[.int .u8 3, .int .i64 0, .string ⟨#[97]⟩] 43)) (.tuple #[.string ⟨#[4, 97, 0, 1]⟩, .int .i64 0]))) := Lib.hid fun W hM =>
    kput_e (l := rowB) (by decide +kernel) (by decide +kernel) (kput_any _ 1 1 rowB _ (hM.below0 ((Below.refl _ W).alloc (Nat.le_refl _) _)) ((reads_new W #[.int .u8 3, .int .i64 0, .string ⟨#[97]⟩] _ rfl rfl).more (by simp)) rowB_ok (by decide +kernel))
  have HMx := Lib.hid fun (W : World) (hb : Below w.heap.size w W) => hm.below0 hb
  have hmm := Lib.hid hm
  clear hm
  go_enter Tryd.func10, Tryd.ntmps10
  go_wp2_with fail
  refine (P1.out _ hmm.out).mono ?_
  rintro e w1 ⟨rfl, hb1⟩
  go_wp2_with fail
  refine (P2.out _ (HMx.out _ (by (with_reducible repeat (first | exact Below.refl _ _ | exact hb1 | refine bto0 ?_ hb1 | refine bdr ?_ _ | refine Below.drew ?_ | refine ball ?_ _))))).mono ?_
  rintro e w2 ⟨rfl, hb2⟩
  go_wp2_with fail
  refine (least3 _).mono ?_
  rintro e w3 ⟨rfl, hb3⟩
  go_wp2
  go_ret
  exact ⟨rfl, by (with_reducible repeat (first | exact Below.refl _ _ | exact hb3 | exact hb2 | exact hb1 | refine bto0 ?_ hb3 | refine bto0 ?_ hb2 | refine bto0 ?_ hb1 | refine bdr ?_ _ | refine Below.drew ?_ | refine ball ?_ _))⟩

set_option maxHeartbeats 1000000 in
theorem lmay_any (A : Option Addr) (n c : Nat) (l : List Vl) (w : World) (hr : Reads w w.heap.size 3 A n (vV l)) (hok : ∀ v ∈ l, v.ok) (hn : n ≤ 5000) :
    Calls Tryd.prog 16 #[.slice A n c] w (RetB w (.bool (allMay l))) := by
  have hl : l.length = n := by have := hr.1; rw [vV_len] at this; omega
  have hnI : (n : Int) ≤ 5000 := by omega
  have Hl := Lib.hid hl; clear hl
  go_enter Tryd.func16, Tryd.ntmps16
  go_wp2
  go_loopw [7] (fun iv wr => ∃ k : Nat, k ≤ n ∧ iv = .int .i64 k ∧ allMay (l.take k) = true ∧ Below w.heap.size w wr) (fun iv _ => n - (intOf iv).toNat)
  case atStart => exact ⟨0, by omega, rfl, rfl, Below.refl _ _⟩
  case round =>
    obtain ⟨k, hk, rfl, ha, hb⟩ := hrel
    have Ha := Lib.hid ha; clear ha
    have q0 : (0 : Int) ≤ (k : Int) := by omega
    by_cases hlt : k < n
    · have q1 : (k : Int) < (n : Int) := by omega
      obtain ⟨ad, v, rfl, hab, hv, d0, d1, d2⟩ := (hr.below hb).val hlt
      have M := fun W => rmay_any v (hok v (List.mem_of_getElem? hv)) W
      have Hv := Lib.hid hv; clear hv
      have hbs := hb.size
      obtain ⟨b, hmv⟩ : ∃ b, mayV v = b := ⟨_, rfl⟩
      rw [hmv] at M
      have HM := Lib.hid hmv; clear hmv
      have MM := Lib.hid M; clear M
      cases b
      · have HF := Lib.hid (all_no Hv.out HM.out)
        obtain ⟨vk, vi, vs⟩ := v
        unfold Vl.agg at MM
        simp only at d0 d1 d2 MM
        go_wp2_with fail
        refine (MM.out _).mono ?_
        rintro e w1 ⟨rfl, hb1⟩
        go_wp2
        go_ret
        exact ⟨by rw [HF.out]; rfl, bto0 (ball hb _) hb1⟩
      · have HT := Lib.hid (all_take Hv.out Ha.out HM.out)
        obtain ⟨vk, vi, vs⟩ := v
        unfold Vl.agg at MM
        simp only at d0 d1 d2 MM
        go_wp2_with fail
        refine (MM.out _).mono ?_
        rintro e w1 ⟨rfl, hb1⟩
        go_wp2
        go_roundw
        case rel => exact ⟨k + 1, by omega, by go_num, HT.out, bto0 (ball hb _) hb1⟩
        case measure => simp [intOf]; omega
    · obtain rfl : k = n := by omega
      have hall : Hid (allMay l = true) := Lib.hid (by have := Ha.out; rwa [List.take_of_length_le (by rw [Hl.out]; exact Nat.le_refl _)] at this)
      go_wp2
      go_ret
      exact ⟨by rw [hall.out]; rfl, hb⟩

/-- Does one text begin another one? -/
def begB (s t : ByteArray) : Bool := s.data.toList.isPrefixOf t.data.toList
theorem szl (s : ByteArray) : s.data.toList.length = s.size := rfl
theorem begB_cut (s t : ByteArray) (h : s.size ≤ t.size) : begB s t = ((t.extract 0 s.size).toList == s.toList) := by
  unfold begB
  rw [ByteArray.toList_eq, ByteArray.toList_eq, Lib.extract_data, List.drop_zero, Nat.sub_zero]
  rw [Bool.eq_iff_iff, List.isPrefixOf_iff_prefix, beq_iff_eq, List.prefix_iff_eq_take, szl]
  exact eq_comm
theorem begB_no (s t : ByteArray) (h : ¬ s.size ≤ t.size) : begB s t = false := by
  unfold begB
  rw [Bool.eq_false_iff, Ne, List.isPrefixOf_iff_prefix]
  intro hp
  have := hp.length_le
  rw [szl, szl] at this
  exact h this
set_option maxHeartbeats 400000 in
theorem begins_any (s t : ByteArray) (w : World) (hs : s.size ≤ 100000) (ht : t.size ≤ 100000) : Calls Tryd.prog 18 #[.string s, .string t] w fun e w' => e = .returned (.bool (begB s t)) ∧ w = w' := by
  by_cases h : s.size ≤ t.size
  · rw [begB_cut s t h]
    have q : (s.size : Int) ≤ (t.size : Int) := by omega
    have q0 : (0 : Int) ≤ (s.size : Int) := by omega
    go_enter Tryd.func18, Tryd.ntmps18
    go_wp2
    go_ret
    exact ⟨rfl, rfl⟩
  · rw [begB_no s t h]
    have q : (t.size : Int) < (s.size : Int) := by omega
    have q2 : t.size < s.size := by omega
    go_enter Tryd.func18, Tryd.ntmps18
    go_wp2
    go_ret
    exact ⟨rfl, rfl⟩
end Go.Proofs.YtohaplmbgipbcaaDoor
