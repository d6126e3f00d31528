
/-
  Contracts of the comparison of two values: the program's, and the reference's.
-/
import Derived.Test.YthpggfcindnlcaaGreatDoorOpen
import Derived.Test.YthpggfcindnlcaaGreatDoorGr
import Derived.Test.YthpggfcindnlcaaGreatDoorShelf
import Derived.Deep.RegionHeld3
import Derived.Deep.DrawnRows
import Derived.Deep.QuietTactic
import Derived.BigQuiet
import Derived.IntWalk
set_option linter.unusedSimpArgs false
set_option linter.unusedVariables false
namespace Go.Proofs.YthpggfcindnlcaaGreatDoor
open Go.RowKit
attribute [local go_sem ↓] Go.wp_at_zero Go.wp_at_succ

def kd (k : Int) : Int := if 3 < k then 0 else k
def cmpI (x y : Int) : Int := if x < y then -1 else if y < x then 1 else 0
def cmpV (a b : Vl) : Int :=
  if kd a.k = kd b.k then (if a.k = 1 ∨ a.k = 2 then cmpI a.i b.i else if a.k = 3 then Lib.compareBytes a.s.data.toList b.s.data.toList else 0) else cmpI (kd a.k) (kd b.k)
/-- Is one text ahead of another one? -/
def bl : List UInt8 → List UInt8 → Bool
  | _, [] => false
  | [], _ :: _ => true
  | x :: xs, y :: ys => if x = y then bl xs ys else decide (x < y)
def lessS (a b : Vl) : Bool := if a.k = 1 ∨ a.k = 2 then decide (a.i < b.i) else if a.k = 3 then bl a.s.data.toList b.s.data.toList else false
def lessV (a b : Vl) : Bool := if kd a.k = kd b.k then lessS a b else decide (kd a.k < kd b.k)

theorem cmp8_any (x y : Int) (w : World) : Calls Tryz.prog 47 #[.int .u8 x, .int .u8 y] w fun e w' => e = .returned (.int .i64 (cmpI x y)) ∧ w = w' := by
  unfold cmpI
  by_cases h1 : x < y
  · go_enter Tryz.func47, Tryz.ntmps47
    go_wp2
    go_ret
    exact ⟨rfl, rfl⟩
  · by_cases h2 : y < x
    · go_enter Tryz.func47, Tryz.ntmps47
      go_wp2
      go_ret
      exact ⟨rfl, rfl⟩
    · go_enter Tryz.func47, Tryz.ntmps47
      go_wp2
      go_ret
      exact ⟨rfl, rfl⟩
theorem cmp64_any (x y : Int) (w : World) : Calls Tryz.prog 48 #[.int .i64 x, .int .i64 y] w fun e w' => e = .returned (.int .i64 (cmpI x y)) ∧ w = w' := by
  unfold cmpI
  by_cases h1 : x < y
  · go_enter Tryz.func48, Tryz.ntmps48
    go_wp2
    go_ret
    exact ⟨rfl, rfl⟩
  · by_cases h2 : y < x
    · go_enter Tryz.func48, Tryz.ntmps48
      go_wp2
      go_ret
      exact ⟨rfl, rfl⟩
    · go_enter Tryz.func48, Tryz.ntmps48
      go_wp2
      go_ret
      exact ⟨rfl, rfl⟩
set_option maxHeartbeats 400000 in
theorem kind_any (k i : Int) (s : ByteArray) (w : World) : Calls Tryz.prog 46 #[.agg #[.int .u8 k, .int .i64 i, .string s]] w (RetB w (.int .u8 (kd k))) := by
  unfold kd
  by_cases h : 3 < k
  all_goals
    go_enter Tryz.func46, Tryz.ntmps46
    go_wp2
    go_ret
    exact ⟨rfl, ball (Below.refl _ _) _⟩

set_option maxHeartbeats 2000000 in
theorem compare_any (a b : Vl) (w : World) : Calls Tryz.prog 33 #[a.agg, b.agg] w (RetB w (.int .i64 (cmpV a b))) := by
  obtain ⟨ak, ai, ss⟩ := a
  obtain ⟨bk, bi, st⟩ := b
  unfold cmpV Vl.agg
  simp only
  by_cases hk : kd ak = kd bk
  · rw [if_pos hk]
    have hne : (kd ak != kd bk) = false := by simp [hk]
    have hc : (ak = 1 ∨ ak = 2) ∨ ak = 3 ∨ (ak ≠ 1 ∧ ak ≠ 2 ∧ ak ≠ 3) := by omega
    clear hk
    rcases hc with hc | rfl | ⟨n1, n2, n3⟩
    · rw [if_pos hc]
      rcases hc with rfl | rfl
      all_goals
        go_enter Tryz.func33, Tryz.ntmps33
        go_wp2_with fail
        refine (kind_any _ _ _ _).mono ?_; rintro e w1 ⟨rfl, hb1⟩
        have z1 : w.heap.size + 1 + 1 ≤ w1.heap.size := by simpa using hb1.size
        have a0 := hb1.cell (p := ⟨w.heap.size, 0, none⟩) (by simp; omega)
        have a1 := hb1.cell (p := ⟨w.heap.size, 1, none⟩) (by simp; omega)
        have a2 := hb1.cell (p := ⟨w.heap.size, 2, none⟩) (by simp; omega)
        have c0 := hb1.cell (p := ⟨w.heap.size + 1, 0, none⟩) (by simp)
        have c1 := hb1.cell (p := ⟨w.heap.size + 1, 1, none⟩) (by simp)
        have c2 := hb1.cell (p := ⟨w.heap.size + 1, 2, none⟩) (by simp)
        go_wp2_with fail
        refine (kind_any _ _ _ _).mono ?_; rintro e w2 ⟨rfl, hb2⟩
        have z2 := hb2.size
        have e0 := hb2.cell (p := ⟨w.heap.size, 0, none⟩) (by show w.heap.size < w1.heap.size; omega)
        have e1 := hb2.cell (p := ⟨w.heap.size, 1, none⟩) (by show w.heap.size < w1.heap.size; omega)
        have e2 := hb2.cell (p := ⟨w.heap.size, 2, none⟩) (by show w.heap.size < w1.heap.size; omega)
        have d0 := hb2.cell (p := ⟨w.heap.size + 1, 0, none⟩) (by show w.heap.size + 1 < w1.heap.size; omega)
        have d1 := hb2.cell (p := ⟨w.heap.size + 1, 1, none⟩) (by show w.heap.size + 1 < w1.heap.size; omega)
        have d2 := hb2.cell (p := ⟨w.heap.size + 1, 2, none⟩) (by show w.heap.size + 1 < w1.heap.size; omega)
        go_wp2_with (first | (go_at_call 48; refine (cmp64_any _ _ _).mono ?_; rintro e w' ⟨rfl, rfl⟩) | (go_at_call 49; refine (Tryz.strings_Compare _ _ _).mono ?_; rintro e w' ⟨rfl, rfl⟩) | fail)
        go_ret
        exact ⟨rfl, bto0 (bto0 (ball (ball (Below.refl _ _) _) _) hb1) hb2⟩
    · rw [if_neg (by omega), if_pos rfl]
      go_enter Tryz.func33, Tryz.ntmps33
      go_wp2_with fail
      refine (kind_any _ _ _ _).mono ?_; rintro e w1 ⟨rfl, hb1⟩
      have z1 : w.heap.size + 1 + 1 ≤ w1.heap.size := by simpa using hb1.size
      have a0 := hb1.cell (p := ⟨w.heap.size, 0, none⟩) (by simp; omega)
      have a1 := hb1.cell (p := ⟨w.heap.size, 1, none⟩) (by simp; omega)
      have a2 := hb1.cell (p := ⟨w.heap.size, 2, none⟩) (by simp; omega)
      have c0 := hb1.cell (p := ⟨w.heap.size + 1, 0, none⟩) (by simp)
      have c1 := hb1.cell (p := ⟨w.heap.size + 1, 1, none⟩) (by simp)
      have c2 := hb1.cell (p := ⟨w.heap.size + 1, 2, none⟩) (by simp)
      go_wp2_with fail
      refine (kind_any _ _ _ _).mono ?_; rintro e w2 ⟨rfl, hb2⟩
      have z2 := hb2.size
      have e0 := hb2.cell (p := ⟨w.heap.size, 0, none⟩) (by show w.heap.size < w1.heap.size; omega)
      have e1 := hb2.cell (p := ⟨w.heap.size, 1, none⟩) (by show w.heap.size < w1.heap.size; omega)
      have e2 := hb2.cell (p := ⟨w.heap.size, 2, none⟩) (by show w.heap.size < w1.heap.size; omega)
      have d0 := hb2.cell (p := ⟨w.heap.size + 1, 0, none⟩) (by show w.heap.size + 1 < w1.heap.size; omega)
      have d1 := hb2.cell (p := ⟨w.heap.size + 1, 1, none⟩) (by show w.heap.size + 1 < w1.heap.size; omega)
      have d2 := hb2.cell (p := ⟨w.heap.size + 1, 2, none⟩) (by show w.heap.size + 1 < w1.heap.size; omega)
      go_wp2_with (first | (go_at_call 48; refine (cmp64_any _ _ _).mono ?_; rintro e w' ⟨rfl, rfl⟩) | (go_at_call 49; refine (Tryz.strings_Compare _ _ _).mono ?_; rintro e w' ⟨rfl, rfl⟩) | fail)
      go_ret
      exact ⟨rfl, bto0 (bto0 (ball (ball (Below.refl _ _) _) _) hb1) hb2⟩
    · rw [if_neg (by omega), if_neg n3]
      go_enter Tryz.func33, Tryz.ntmps33
      go_wp2_with fail
      refine (kind_any _ _ _ _).mono ?_; rintro e w1 ⟨rfl, hb1⟩
      have z1 : w.heap.size + 1 + 1 ≤ w1.heap.size := by simpa using hb1.size
      have a0 := hb1.cell (p := ⟨w.heap.size, 0, none⟩) (by simp; omega)
      have a1 := hb1.cell (p := ⟨w.heap.size, 1, none⟩) (by simp; omega)
      have a2 := hb1.cell (p := ⟨w.heap.size, 2, none⟩) (by simp; omega)
      have c0 := hb1.cell (p := ⟨w.heap.size + 1, 0, none⟩) (by simp)
      have c1 := hb1.cell (p := ⟨w.heap.size + 1, 1, none⟩) (by simp)
      have c2 := hb1.cell (p := ⟨w.heap.size + 1, 2, none⟩) (by simp)
      go_wp2_with fail
      refine (kind_any _ _ _ _).mono ?_; rintro e w2 ⟨rfl, hb2⟩
      have z2 := hb2.size
      have e0 := hb2.cell (p := ⟨w.heap.size, 0, none⟩) (by show w.heap.size < w1.heap.size; omega)
      have e1 := hb2.cell (p := ⟨w.heap.size, 1, none⟩) (by show w.heap.size < w1.heap.size; omega)
      have e2 := hb2.cell (p := ⟨w.heap.size, 2, none⟩) (by show w.heap.size < w1.heap.size; omega)
      have d0 := hb2.cell (p := ⟨w.heap.size + 1, 0, none⟩) (by show w.heap.size + 1 < w1.heap.size; omega)
      have d1 := hb2.cell (p := ⟨w.heap.size + 1, 1, none⟩) (by show w.heap.size + 1 < w1.heap.size; omega)
      have d2 := hb2.cell (p := ⟨w.heap.size + 1, 2, none⟩) (by show w.heap.size + 1 < w1.heap.size; omega)
      go_wp2_with (first | (go_at_call 48; refine (cmp64_any _ _ _).mono ?_; rintro e w' ⟨rfl, rfl⟩) | (go_at_call 49; refine (Tryz.strings_Compare _ _ _).mono ?_; rintro e w' ⟨rfl, rfl⟩) | fail)
      go_ret
      exact ⟨rfl, bto0 (bto0 (ball (ball (Below.refl _ _) _) _) hb1) hb2⟩
  · rw [if_neg hk]
    have hne : (kd ak != kd bk) = true := by simpa using hk
    clear hk
    go_enter Tryz.func33, Tryz.ntmps33
    go_wp2_with fail
    refine (kind_any _ _ _ _).mono ?_; rintro e w1 ⟨rfl, hb1⟩
    have z1 : w.heap.size + 1 + 1 ≤ w1.heap.size := by simpa using hb1.size
    have a0 := hb1.cell (p := ⟨w.heap.size, 0, none⟩) (by simp; omega)
    have a1 := hb1.cell (p := ⟨w.heap.size, 1, none⟩) (by simp; omega)
    have a2 := hb1.cell (p := ⟨w.heap.size, 2, none⟩) (by simp; omega)
    have c0 := hb1.cell (p := ⟨w.heap.size + 1, 0, none⟩) (by simp)
    have c1 := hb1.cell (p := ⟨w.heap.size + 1, 1, none⟩) (by simp)
    have c2 := hb1.cell (p := ⟨w.heap.size + 1, 2, none⟩) (by simp)
    go_wp2_with fail
    refine (kind_any _ _ _ _).mono ?_; rintro e w2 ⟨rfl, hb2⟩
    have z2 := hb2.size
    have e0 := hb2.cell (p := ⟨w.heap.size, 0, none⟩) (by show w.heap.size < w1.heap.size; omega)
    have e1 := hb2.cell (p := ⟨w.heap.size, 1, none⟩) (by show w.heap.size < w1.heap.size; omega)
    have e2 := hb2.cell (p := ⟨w.heap.size, 2, none⟩) (by show w.heap.size < w1.heap.size; omega)
    have d0 := hb2.cell (p := ⟨w.heap.size + 1, 0, none⟩) (by show w.heap.size + 1 < w1.heap.size; omega)
    have d1 := hb2.cell (p := ⟨w.heap.size + 1, 1, none⟩) (by show w.heap.size + 1 < w1.heap.size; omega)
    have d2 := hb2.cell (p := ⟨w.heap.size + 1, 2, none⟩) (by show w.heap.size + 1 < w1.heap.size; omega)
    go_wp2_with fail
    refine (kind_any _ _ _ _).mono ?_; rintro e w3 ⟨rfl, hb3⟩
    go_wp2_with fail
    refine (cmp8_any _ _ _).mono ?_; rintro e w' ⟨rfl, rfl⟩
    go_wp2_with fail
    go_ret
    exact ⟨rfl, bto0 (bto0 (bto0 (ball (ball (Below.refl _ _) _) _) hb1) hb2) hb3⟩

theorem bl_drop {a b : List UInt8} {k : Nat} (ha : k < a.length) (hb : k < b.length) : bl (a.drop k) (b.drop k) = if a[k] = b[k] then bl (a.drop (k + 1)) (b.drop (k + 1)) else decide (a[k] < b[k]) := by
  rw [List.drop_eq_getElem_cons ha, List.drop_eq_getElem_cons hb]
  rfl
theorem bl_end {a b : List UInt8} {k : Nat} (h : ¬ (k < a.length ∧ k < b.length)) (ha : k ≤ a.length) (hb : k ≤ b.length) : bl (a.drop k) (b.drop k) = decide (a.length < b.length) := by
  by_cases h1 : k < b.length
  · have : k = a.length := by omega
    subst this
    rw [List.drop_length, List.drop_eq_getElem_cons h1]
    simp [bl, h1]
  · rw [List.drop_eq_nil_of_le (by omega : b.length ≤ k)]
    have : ¬ a.length < b.length := by omega
    simp only [this, decide_false]
    cases a.drop k <;> rfl

set_option maxHeartbeats 2000000 in
theorem rless_text (i j : Int) (s t : ByteArray) (w : World) (hs : s.size ≤ 1000000) (_ht : t.size ≤ 1000000) :
    Calls Tryz.prog 35 #[.agg #[.int .u8 3, .int .i64 i, .string s], .agg #[.int .u8 3, .int .i64 j, .string t]] w (RetB w (.bool (bl s.data.toList t.data.toList))) := by
  go_enter Tryz.func35, Tryz.ntmps35
  go_wp2
  go_loopw [5] (fun v wr => ∃ k : Nat, k ≤ s.size ∧ k ≤ t.size ∧ v = .int .i64 k ∧ bl s.data.toList t.data.toList = bl (s.data.toList.drop k) (t.data.toList.drop k) ∧ (∃ m, wr = ((w.alloc (.cells #[.int .u8 3, .int .i64 i, .string s] 26)).alloc (.cells #[.int .u8 3, .int .i64 j, .string t] 26)).drewN m)) (fun v _ => s.size - (intOf v).toNat)
  case atStart => exact ⟨0, Nat.zero_le _, Nat.zero_le _, rfl, rfl, 0, rfl⟩
  case round =>
    obtain ⟨k, hk1, hk2, rfl, he, m, rfl⟩ := hrel
    have hsl : s.data.toList.length = s.size := Array.length_toList
    have htl : t.data.toList.length = t.size := Array.length_toList
    by_cases hlt : k < s.size ∧ k < t.size
    · obtain ⟨h1, h2⟩ := hlt
      have g1 : (0 : Int) ≤ (k : Int) := by omega
      have g2 : (k : Int) < (s.size : Int) := by omega
      have g3 : (k : Int) < (t.size : Int) := by omega
      have hd := bl_drop (a := s.data.toList) (b := t.data.toList) (k := k) (by omega) (by omega)
      have s1 : s.data.toList[k]'(by omega) = s[k] := by simp; rfl
      have t1 : t.data.toList[k]'(by omega) = t[k] := by simp; rfl
      rw [s1, t1] at hd
      clear s1 t1 hsl htl
      by_cases hq : s[k] = t[k]
      · have He2 := Lib.hid (he.trans (hd.trans (if_pos hq)))
        have hne : ((s[k].toNat : Int) != (t[k].toNat : Int)) = false := by simp [hq]
        clear he hd hq
        go_wp2
        go_quiet (fail)
        go_wp2
        go_roundw
        case rel => exact ⟨k + 1, by omega, by omega, by go_num, He2.out, _, rfl⟩
        case measure => simp [intOf]; omega
      · have hne : ((s[k].toNat : Int) != (t[k].toNat : Int)) = true := by
          simp only [bne_iff_ne, ne_eq, Int.natCast_inj]
          exact fun h => hq (UInt8.toNat_inj.1 h)
        have hfin : bl s.data.toList t.data.toList = decide ((s[k].toNat : Int) < (t[k].toNat : Int)) := by
          rw [he, hd, if_neg hq]
          simp [UInt8.lt_iff_toNat_lt]
        have Hf := Lib.hid hfin
        clear he hd hq hfin
        go_wp2
        go_quiet (fail)
        go_wp2
        go_quiet (fail)
        go_wp2
        go_ret
        refine ⟨ret_bool ?_, ?_⟩
        · rw [Hf.out]; simp
        · exact bdr (bdr (bdr (ball (ball (Below.refl _ _) _) _) _) _) _
    · have hfin := he.trans (bl_end (k := k) (by rw [hsl, htl]; exact hlt) (by omega) (by omega))
      rw [hsl, htl] at hfin
      have Hf := Lib.hid hfin
      clear he hfin
      by_cases h1 : k < s.size
      · have h2 : ¬ k < t.size := fun h => hlt ⟨h1, h⟩
        clear hlt
        go_wp2
        go_ret
        refine ⟨ret_bool (by rw [Hf.out]), bdr (ball (ball (Below.refl _ _) _) _) _⟩
      · clear hlt
        go_wp2
        go_ret
        refine ⟨ret_bool (by rw [Hf.out]), bdr (ball (ball (Below.refl _ _) _) _) _⟩

set_option maxHeartbeats 2000000 in
theorem rless_any (a b : Vl) (w : World) (hs : a.s.size ≤ 1000000) (ht : b.s.size ≤ 1000000) (hk : a.k = b.k) :
    Calls Tryz.prog 35 #[a.agg, b.agg] w (RetB w (.bool (lessS a b))) := by
  obtain ⟨k, i, s⟩ := a
  obtain ⟨k', j, t⟩ := b
  simp only at hk hs ht
  subst hk
  unfold lessS Vl.agg
  simp only
  by_cases h3 : k = 3
  · subst h3
    exact rless_text i j s t w hs ht
  · rw [if_neg h3]
    by_cases h1 : k = 1 ∨ k = 2
    · rw [if_pos h1]
      rcases h1 with rfl | rfl
      all_goals
        go_enter Tryz.func35, Tryz.ntmps35
        go_wp2
        go_ret
        exact ⟨rfl, ball (ball (Below.refl _ _) _) _⟩
    · rw [if_neg h1]
      have n1 : k ≠ 1 := fun h => h1 (.inl h)
      have n2 : k ≠ 2 := fun h => h1 (.inr h)
      have m1 : (k == 1) = false := by simpa using n1
      have m2 : (k == 2) = false := by simpa using n2
      have m3 : (k != 3) = true := by simpa using h3
      clear h1
      go_enter Tryz.func35, Tryz.ntmps35
      go_wp2
      go_ret
      exact ⟨rfl, ball (ball (Below.refl _ _) _) _⟩

theorem lessS_kd (k i : Int) (s : ByteArray) (b : Vl) : lessS ⟨kd k, i, s⟩ b = lessS ⟨k, i, s⟩ b := by
  unfold lessS kd
  simp only
  by_cases h : 3 < k
  · rw [if_pos h, if_neg (by omega), if_neg (by omega), if_neg (by omega), if_neg (by omega)]
  · rw [if_neg h]

set_option maxHeartbeats 2000000 in
theorem rLess_any (a b : Vl) (w : World) (hs : a.s.size ≤ 1000000) (ht : b.s.size ≤ 1000000) :
    Calls Tryz.prog 17 #[a.agg, b.agg] w (RetB w (.bool (lessV a b))) := by
  obtain ⟨k, i, s⟩ := a
  obtain ⟨k', j, t⟩ := b
  simp only at hs ht
  unfold lessV Vl.agg
  simp only
  by_cases hk : kd k = kd k'
  · rw [if_pos hk]
    have Hr := fun W => rless_any ⟨kd k, i, s⟩ ⟨kd k', j, t⟩ W hs ht hk
    rw [lessS_kd k i s] at Hr
    have e2 : lessS ⟨k, i, s⟩ ⟨kd k', j, t⟩ = lessS ⟨k, i, s⟩ ⟨k', j, t⟩ := rfl
    rw [e2] at Hr
    have HR := Lib.hid Hr
    clear Hr e2
    have hne : (kd k != kd k') = false := by simp [hk]
    clear hk
    unfold kd at *
    by_cases h1 : 3 < k <;> by_cases h2 : 3 < k'
    all_goals
      simp only [h1, h2, if_true, if_false] at HR hne
      go_enter Tryz.func17, Tryz.ntmps17
      go_wp2_with fail
      refine (HR.out _).mono ?_
      rintro e w1 ⟨rfl, hb1⟩
      go_wp2
      go_ret
      exact ⟨rfl, bto0 (ball (ball (Below.refl _ _) _) _) hb1⟩
  · rw [if_neg hk]
    have hne : (kd k != kd k') = true := by simpa using hk
    clear hk
    unfold kd at *
    by_cases h1 : 3 < k <;> by_cases h2 : 3 < k'
    · exact absurd hne (by simp [h1, h2])
    all_goals
      simp only [h1, h2, if_true, if_false] at hne ⊢
      go_enter Tryz.func17, Tryz.ntmps17
      go_wp2
      go_ret
      exact ⟨rfl, ball (ball (Below.refl _ _) _) _⟩

theorem bl_cmp : ∀ (a b : List UInt8), bl a b = decide (Lib.compareBytes a b < 0)
  | [], [] => rfl
  | [], _ :: _ => rfl
  | _ :: _, [] => rfl
  | x :: xs, y :: ys => by
    unfold bl Lib.compareBytes
    have ih := bl_cmp xs ys
    by_cases h : x = y
    · subst h
      rw [if_pos rfl, if_neg (UInt8.lt_irrefl x), if_neg (UInt8.lt_irrefl x)]
      exact ih
    · rw [if_neg h]
      by_cases h1 : x < y
      · rw [if_pos h1]; simp [h1]
      · have h2 : y < x := by
          rw [UInt8.lt_iff_toNat_lt] at h1 ⊢
          have : x.toNat ≠ y.toNat := fun e => h (UInt8.toNat_inj.1 e)
          omega
        rw [if_neg h1, if_pos h2]; simp [h1]
theorem cb_swap : ∀ (a b : List UInt8), Lib.compareBytes b a = - Lib.compareBytes a b
  | [], [] => rfl
  | [], _ :: _ => rfl
  | _ :: _, [] => rfl
  | x :: xs, y :: ys => by
    unfold Lib.compareBytes
    have ih := cb_swap xs ys
    by_cases h1 : x < y
    · have h2 : ¬ y < x := by rw [UInt8.lt_iff_toNat_lt] at h1 ⊢; omega
      rw [if_neg h2, if_pos h1, if_pos h1]; rfl
    · by_cases h2 : y < x
      · rw [if_pos h2, if_neg h1, if_pos h2]
      · rw [if_neg h2, if_neg h1, if_neg h1, if_neg h2]; exact ih
theorem cb_bd : ∀ (a b : List UInt8), -1 ≤ Lib.compareBytes a b ∧ Lib.compareBytes a b ≤ 1
  | [], [] => by decide
  | [], _ :: _ => by unfold Lib.compareBytes; omega
  | _ :: _, [] => by unfold Lib.compareBytes; omega
  | x :: xs, y :: ys => by
    unfold Lib.compareBytes
    have ih := cb_bd xs ys
    split
    · omega
    · split
      · omega
      · exact ih
theorem cmpI_swap (x y : Int) : cmpI y x = - cmpI x y := by unfold cmpI; split <;> split <;> omega
theorem cmpI_bd (x y : Int) : -1 ≤ cmpI x y ∧ cmpI x y ≤ 1 := by unfold cmpI; split <;> (try split) <;> omega
theorem cmpI_lt (x y : Int) : decide (cmpI x y < 0) = decide (x < y) := by unfold cmpI; split <;> (try split) <;> simp <;> omega
theorem kd_eq {a b c : Int} (h : kd a = kd b) (hc : c = 1 ∨ c = 2 ∨ c = 3) : a = c ↔ b = c := by
  unfold kd at h
  split at h <;> split at h <;> omega
theorem cmpV_swap (a b : Vl) : cmpV b a = - cmpV a b := by
  unfold cmpV
  by_cases h : kd a.k = kd b.k
  · rw [if_pos h, if_pos h.symm]
    have e1 := kd_eq h (c := 1) (by omega)
    have e2 := kd_eq h (c := 2) (by omega)
    have e3 := kd_eq h (c := 3) (by omega)
    by_cases h1 : a.k = 1 ∨ a.k = 2
    · rw [if_pos h1, if_pos (by rw [← e1, ← e2]; exact h1), cmpI_swap]
    · rw [if_neg h1, if_neg (by rw [← e1, ← e2]; exact h1)]
      by_cases h3 : a.k = 3
      · rw [if_pos h3, if_pos (e3.1 h3), cb_swap]
      · rw [if_neg h3, if_neg (fun x => h3 (e3.2 x))]; rfl
  · rw [if_neg h, if_neg (fun x => h x.symm), cmpI_swap]
theorem cmpV_bd (a b : Vl) : -1 ≤ cmpV a b ∧ cmpV a b ≤ 1 := by
  unfold cmpV
  split
  · split
    · exact cmpI_bd _ _
    · split
      · exact cb_bd _ _
      · omega
  · exact cmpI_bd _ _
theorem lessV_cmp (a b : Vl) : lessV a b = decide (cmpV a b < 0) := by
  unfold lessV cmpV lessS
  by_cases h : kd a.k = kd b.k
  · rw [if_pos h, if_pos h]
    split
    · rw [cmpI_lt]
    · split
      · rw [bl_cmp]
      · rfl
  · rw [if_neg h, if_neg h, cmpI_lt]
theorem lessV_cmp2 (a b : Vl) : lessV b a = decide (0 < cmpV a b) := by
  rw [lessV_cmp, cmpV_swap a b]
  exact decide_eq_decide.2 (by omega)

end Go.Proofs.YthpggfcindnlcaaGreatDoor
