/-
  Several texts in one: Kr.
-/
import Derived.Test.YtgndebdoljnheaaGreatDoorMeae
import Derived.Test.YtgndebdoljnheaaGreatDoorMeai
import Derived.Test.YtgndebdoljnheaaGreatDoorMeaf
import Derived.Lib.Bytealg
import Derived.Deep.RegionHeld3
import Derived.Deep.DrawnRows
import Derived.Deep.QuietTactic
import Derived.BigQuiet
import Derived.IntWalk
/-
  How values and rows stand: the reference's.
-/
namespace Go.Proofs.YtgndebdoljnheaaGreatDoor
section
set_option linter.unusedSimpArgs false
set_option linter.unusedVariables false
open Go.RowKit
attribute [local go_sem ↓] Go.wp_at_zero Go.wp_at_succ


def kd (k : Int) : Int := if 3 < k then 0 else k
def cmpI (x y : Int) : Int := if x < y then -1 else if y < x then 1 else 0
def cmpV (a b : Vl) : Int :=
  if kd a.k = kd b.k then (if a.k = 1 ∨ a.k = 2 then cmpI a.i b.i else if a.k = 3 then Lib.compareBytes a.s.data.toList b.s.data.toList else 0) else cmpI (kd a.k) (kd b.k)
/-- Is one text ahead of another one? -/
def bl : List UInt8 → List UInt8 → Bool
  | _, [] => false
  | [], _ :: _ => true
  | x :: xs, y :: ys => if x = y then bl xs ys else decide (x < y)
def lessS (a b : Vl) : Bool := if a.k = 1 ∨ a.k = 2 then decide (a.i < b.i) else if a.k = 3 then bl a.s.data.toList b.s.data.toList else false
def lessV (a b : Vl) : Bool := if kd a.k = kd b.k then lessS a b else decide (kd a.k < kd b.k)

theorem bl_drop {a b : List UInt8} {k : Nat} (ha : k < a.length) (hb : k < b.length) : bl (a.drop k) (b.drop k) = if a[k] = b[k] then bl (a.drop (k + 1)) (b.drop (k + 1)) else decide (a[k] < b[k]) := by
  rw [List.drop_eq_getElem_cons ha, List.drop_eq_getElem_cons hb]
  rfl
theorem bl_end {a b : List UInt8} {k : Nat} (h : ¬ (k < a.length ∧ k < b.length)) (ha : k ≤ a.length) (hb : k ≤ b.length) : bl (a.drop k) (b.drop k) = decide (a.length < b.length) := by
  by_cases h1 : k < b.length
  · have : k = a.length := by omega
    subst this
    rw [List.drop_length, List.drop_eq_getElem_cons h1]
    simp [bl, h1]
  · rw [List.drop_eq_nil_of_le (by omega : b.length ≤ k)]
    have : ¬ a.length < b.length := by omega
    simp only [this, decide_false]
    cases a.drop k <;> rfl

set_option maxHeartbeats 2000000 in
theorem rless_text (i j : Int) (s t : ByteArray) (w : World) (hs : s.size ≤ 1000000) (_ht : t.size ≤ 1000000) :
    Calls Tryz.prog 153 #[.agg #[.int .u8 3, .int .i64 i, .string s], .agg #[.int .u8 3, .int .i64 j, .string t]] w (RetB w (.bool (bl s.data.toList t.data.toList))) := by
  go_enter Tryz.func153, Tryz.ntmps153
  go_wp2
  go_loopw [5] (fun v wr => ∃ k : Nat, k ≤ s.size ∧ k ≤ t.size ∧ v = .int .i64 k ∧ bl s.data.toList t.data.toList = bl (s.data.toList.drop k) (t.data.toList.drop k) ∧ (∃ m, wr = ((w.alloc (.cells #[.int .u8 3, .int .i64 i, .string s] 35)).alloc (.cells #[.int .u8 3, .int .i64 j, .string t] 35)).drewN m)) (fun v _ => s.size - (intOf v).toNat)
  case atStart => exact ⟨0, Nat.zero_le _, Nat.zero_le _, rfl, rfl, 0, rfl⟩
  case round =>
    obtain ⟨k, hk1, hk2, rfl, he, m, rfl⟩ := hrel
    have hsl : s.data.toList.length = s.size := Array.length_toList
    have htl : t.data.toList.length = t.size := Array.length_toList
    by_cases hlt : k < s.size ∧ k < t.size
    · obtain ⟨h1, h2⟩ := hlt
      have g1 : (0 : Int) ≤ (k : Int) := by omega
      have g2 : (k : Int) < (s.size : Int) := by omega
      have g3 : (k : Int) < (t.size : Int) := by omega
      have hd := bl_drop (a := s.data.toList) (b := t.data.toList) (k := k) (by omega) (by omega)
      have s1 : s.data.toList[k]'(by omega) = s[k] := by simp; rfl
      have t1 : t.data.toList[k]'(by omega) = t[k] := by simp; rfl
      rw [s1, t1] at hd
      clear s1 t1 hsl htl
      by_cases hq : s[k] = t[k]
      · have He2 := Lib.hid (he.trans (hd.trans (if_pos hq)))
        have hne : ((s[k].toNat : Int) != (t[k].toNat : Int)) = false := by simp [hq]
        clear he hd hq
        go_wp2
        go_quiet (fail)
        go_wp2
        go_roundw
        case rel => exact ⟨k + 1, by omega, by omega, by go_num, He2.out, _, rfl⟩
        case measure => simp [intOf]; omega
      · have hne : ((s[k].toNat : Int) != (t[k].toNat : Int)) = true := by
          simp only [bne_iff_ne, ne_eq, Int.natCast_inj]
          exact fun h => hq (UInt8.toNat_inj.1 h)
        have hfin : bl s.data.toList t.data.toList = decide ((s[k].toNat : Int) < (t[k].toNat : Int)) := by
          rw [he, hd, if_neg hq]
          simp [UInt8.lt_iff_toNat_lt]
        have Hf := Lib.hid hfin
        clear he hd hq hfin
        go_wp2
        go_quiet (fail)
        go_wp2
        go_quiet (fail)
        go_wp2
        go_ret
        refine ⟨ret_bool ?_, ?_⟩
        · rw [Hf.out]; simp
        · exact bdr (bdr (bdr (ball (ball (Below.refl _ _) _) _) _) _) _
    · have hfin := he.trans (bl_end (k := k) (by rw [hsl, htl]; exact hlt) (by omega) (by omega))
      rw [hsl, htl] at hfin
      have Hf := Lib.hid hfin
      clear he hfin
      by_cases h1 : k < s.size
      · have h2 : ¬ k < t.size := fun h => hlt ⟨h1, h⟩
        clear hlt
        go_wp2
        go_ret
        refine ⟨ret_bool (by rw [Hf.out]), bdr (ball (ball (Below.refl _ _) _) _) _⟩
      · clear hlt
        go_wp2
        go_ret
        refine ⟨ret_bool (by rw [Hf.out]), bdr (ball (ball (Below.refl _ _) _) _) _⟩

set_option maxHeartbeats 2000000 in
theorem rless_any (a b : Vl) (w : World) (hs : a.s.size ≤ 1000000) (ht : b.s.size ≤ 1000000) (hk : a.k = b.k) :
    Calls Tryz.prog 153 #[a.agg, b.agg] w (RetB w (.bool (lessS a b))) := by
  obtain ⟨k, i, s⟩ := a
  obtain ⟨k', j, t⟩ := b
  simp only at hk hs ht
  subst hk
  unfold lessS Vl.agg
  simp only
  by_cases h3 : k = 3
  · subst h3
    exact rless_text i j s t w hs ht
  · rw [if_neg h3]
    by_cases h1 : k = 1 ∨ k = 2
    · rw [if_pos h1]
      rcases h1 with rfl | rfl
      all_goals
        go_enter Tryz.func153, Tryz.ntmps153
        go_wp2
        go_ret
        exact ⟨rfl, ball (ball (Below.refl _ _) _) _⟩
    · rw [if_neg h1]
      have n1 : k ≠ 1 := fun h => h1 (.inl h)
      have n2 : k ≠ 2 := fun h => h1 (.inr h)
      have m1 : (k == 1) = false := by simpa using n1
      have m2 : (k == 2) = false := by simpa using n2
      have m3 : (k != 3) = true := by simpa using h3
      clear h1
      go_enter Tryz.func153, Tryz.ntmps153
      go_wp2
      go_ret
      exact ⟨rfl, ball (ball (Below.refl _ _) _) _⟩

theorem lessS_kd (k i : Int) (s : ByteArray) (b : Vl) : lessS ⟨kd k, i, s⟩ b = lessS ⟨k, i, s⟩ b := by
  unfold lessS kd
  simp only
  by_cases h : 3 < k
  · rw [if_pos h, if_neg (by omega), if_neg (by omega), if_neg (by omega), if_neg (by omega)]
  · rw [if_neg h]

set_option maxHeartbeats 2000000 in
theorem rLess_any (a b : Vl) (w : World) (hs : a.s.size ≤ 1000000) (ht : b.s.size ≤ 1000000) :
    Calls Tryz.prog 119 #[a.agg, b.agg] w (RetB w (.bool (lessV a b))) := by
  obtain ⟨k, i, s⟩ := a
  obtain ⟨k', j, t⟩ := b
  simp only at hs ht
  unfold lessV Vl.agg
  simp only
  by_cases hk : kd k = kd k'
  · rw [if_pos hk]
    have Hr := fun W => rless_any ⟨kd k, i, s⟩ ⟨kd k', j, t⟩ W hs ht hk
    rw [lessS_kd k i s] at Hr
    have e2 : lessS ⟨k, i, s⟩ ⟨kd k', j, t⟩ = lessS ⟨k, i, s⟩ ⟨k', j, t⟩ := rfl
    rw [e2] at Hr
    have HR := Lib.hid Hr
    clear Hr e2
    have hne : (kd k != kd k') = false := by simp [hk]
    clear hk
    unfold kd at *
    by_cases h1 : 3 < k <;> by_cases h2 : 3 < k'
    all_goals
      simp only [h1, h2, if_true, if_false] at HR hne
      go_enter Tryz.func119, Tryz.ntmps119
      go_wp2_with fail
      refine (HR.out _).mono ?_
      rintro e w1 ⟨rfl, hb1⟩
      go_wp2
      go_ret
      exact ⟨rfl, bto0 (ball (ball (Below.refl _ _) _) _) hb1⟩
  · rw [if_neg hk]
    have hne : (kd k != kd k') = true := by simpa using hk
    clear hk
    unfold kd at *
    by_cases h1 : 3 < k <;> by_cases h2 : 3 < k'
    · exact absurd hne (by simp [h1, h2])
    all_goals
      simp only [h1, h2, if_true, if_false] at hne ⊢
      go_enter Tryz.func119, Tryz.ntmps119
      go_wp2
      go_ret
      exact ⟨rfl, ball (ball (Below.refl _ _) _) _⟩

theorem bl_cmp : ∀ (a b : List UInt8), bl a b = decide (Lib.compareBytes a b < 0)
  | [], [] => rfl
  | [], _ :: _ => rfl
  | _ :: _, [] => rfl
  | x :: xs, y :: ys => by
    unfold bl Lib.compareBytes
    have ih := bl_cmp xs ys
    by_cases h : x = y
    · subst h
      rw [if_pos rfl, if_neg (UInt8.lt_irrefl x), if_neg (UInt8.lt_irrefl x)]
      exact ih
    · rw [if_neg h]
      by_cases h1 : x < y
      · rw [if_pos h1]; simp [h1]
      · have h2 : y < x := by
          rw [UInt8.lt_iff_toNat_lt] at h1 ⊢
          have : x.toNat ≠ y.toNat := fun e => h (UInt8.toNat_inj.1 e)
          omega
        rw [if_neg h1, if_pos h2]; simp [h1]
theorem cb_swap : ∀ (a b : List UInt8), Lib.compareBytes b a = - Lib.compareBytes a b
  | [], [] => rfl
  | [], _ :: _ => rfl
  | _ :: _, [] => rfl
  | x :: xs, y :: ys => by
    unfold Lib.compareBytes
    have ih := cb_swap xs ys
    by_cases h1 : x < y
    · have h2 : ¬ y < x := by rw [UInt8.lt_iff_toNat_lt] at h1 ⊢; omega
      rw [if_neg h2, if_pos h1, if_pos h1]; rfl
    · by_cases h2 : y < x
      · rw [if_pos h2, if_neg h1, if_pos h2]
      · rw [if_neg h2, if_neg h1, if_neg h1, if_neg h2]; exact ih
theorem cb_bd : ∀ (a b : List UInt8), -1 ≤ Lib.compareBytes a b ∧ Lib.compareBytes a b ≤ 1
  | [], [] => by decide
  | [], _ :: _ => by unfold Lib.compareBytes; omega
  | _ :: _, [] => by unfold Lib.compareBytes; omega
  | x :: xs, y :: ys => by
    unfold Lib.compareBytes
    have ih := cb_bd xs ys
    split
    · omega
    · split
      · omega
      · exact ih
theorem cmpI_swap (x y : Int) : cmpI y x = - cmpI x y := by unfold cmpI; split <;> split <;> omega
theorem cmpI_bd (x y : Int) : -1 ≤ cmpI x y ∧ cmpI x y ≤ 1 := by unfold cmpI; split <;> (try split) <;> omega
theorem cmpI_lt (x y : Int) : decide (cmpI x y < 0) = decide (x < y) := by unfold cmpI; split <;> (try split) <;> simp <;> omega
theorem kd_eq {a b c : Int} (h : kd a = kd b) (hc : c = 1 ∨ c = 2 ∨ c = 3) : a = c ↔ b = c := by
  unfold kd at h
  split at h <;> split at h <;> omega
theorem cmpV_swap (a b : Vl) : cmpV b a = - cmpV a b := by
  unfold cmpV
  by_cases h : kd a.k = kd b.k
  · rw [if_pos h, if_pos h.symm]
    have e1 := kd_eq h (c := 1) (by omega)
    have e2 := kd_eq h (c := 2) (by omega)
    have e3 := kd_eq h (c := 3) (by omega)
    by_cases h1 : a.k = 1 ∨ a.k = 2
    · rw [if_pos h1, if_pos (by rw [← e1, ← e2]; exact h1), cmpI_swap]
    · rw [if_neg h1, if_neg (by rw [← e1, ← e2]; exact h1)]
      by_cases h3 : a.k = 3
      · rw [if_pos h3, if_pos (e3.1 h3), cb_swap]
      · rw [if_neg h3, if_neg (fun x => h3 (e3.2 x))]; rfl
  · rw [if_neg h, if_neg (fun x => h x.symm), cmpI_swap]
theorem cmpV_bd (a b : Vl) : -1 ≤ cmpV a b ∧ cmpV a b ≤ 1 := by
  unfold cmpV
  split
  · split
    · exact cmpI_bd _ _
    · split
      · exact cb_bd _ _
      · omega
  · exact cmpI_bd _ _
theorem lessV_cmp (a b : Vl) : lessV a b = decide (cmpV a b < 0) := by
  unfold lessV cmpV lessS
  by_cases h : kd a.k = kd b.k
  · rw [if_pos h, if_pos h]
    split
    · rw [cmpI_lt]
    · split
      · rw [bl_cmp]
      · rfl
  · rw [if_neg h, if_neg h, cmpI_lt]
theorem lessV_cmp2 (a b : Vl) : lessV b a = decide (0 < cmpV a b) := by
  rw [lessV_cmp, cmpV_swap a b]
  exact decide_eq_decide.2 (by omega)



set_option maxHeartbeats 2000000 in
theorem rcompare_any (a b : Vl) (w : World) (hs : a.s.size ≤ 1000000) (ht : b.s.size ≤ 1000000) :
    Calls Tryz.prog 80 #[a.agg, b.agg] w (RetB w (.int .i64 (cmpV a b))) := by
  have H1 := fun W => rLess_any a b W hs ht
  have H2 := fun W => rLess_any b a W ht hs
  have hbd := cmpV_bd a b
  rw [lessV_cmp] at H1
  rw [lessV_cmp2] at H2
  generalize cmpV a b = c at *
  obtain ⟨k, i, s⟩ := a
  obtain ⟨k', j, t⟩ := b
  unfold Vl.agg at *
  simp only at *
  have HL := Lib.hid H1; clear H1
  have HM := Lib.hid H2; clear H2
  have hc : c = -1 ∨ c = 0 ∨ c = 1 := by omega
  clear hbd
  rcases hc with rfl | rfl | rfl
  all_goals
    go_enter Tryz.func80, Tryz.ntmps80
    go_wp2_with fail
    refine (HL.out _).mono ?_
    rintro e w1 ⟨rfl, hb1⟩
    have z1 : w.heap.size + 1 < w1.heap.size := by have := hb1.size; simp at this; omega
    obtain ⟨a0, a1, a2, -, -, -⟩ := ((At3.new w k i s 35).alloc _).below hb1 (by simp; omega)
    obtain ⟨b0, b1, b2, -, -, -⟩ := (At3.new (w.alloc (.cells #[.int .u8 k, .int .i64 i, .string s] 35)) k' j t 35).below hb1 (by simp)
    simp only [alloc_size] at b0 b1 b2
    go_wp2_with (go_at_call 119; refine (HM.out _).mono ?_; rintro e w2 ⟨rfl, hb2⟩)
    go_ret
    first | exact ⟨rfl, bto0 (bto0 (ball (ball (Below.refl _ _) _) _) hb1) hb2⟩ | exact ⟨rfl, bto0 (ball (ball (Below.refl _ _) _) _) hb1⟩

/-- Three stand in a row. -/
theorem cb_trans : ∀ (a b c : List UInt8), Lib.compareBytes a b ≤ 0 → Lib.compareBytes b c ≤ 0 → Lib.compareBytes a c ≤ 0 ∧ (Lib.compareBytes a c = 0 → Lib.compareBytes a b = 0 ∧ Lib.compareBytes b c = 0)
  | [], [], [] => by decide
  | [], [], _ :: _ => by simp [Lib.compareBytes]
  | [], _ :: _, [] => by simp [Lib.compareBytes]
  | [], _ :: _, _ :: _ => by simp [Lib.compareBytes]
  | _ :: _, [], _ => by intro h; simp [Lib.compareBytes] at h
  | _ :: _, _ :: _, [] => by intro _ h; simp [Lib.compareBytes] at h
  | x :: xs, y :: ys, z :: zs => by
    have ih := cb_trans xs ys zs
    unfold Lib.compareBytes
    simp only [UInt8.lt_iff_toNat_lt]
    by_cases h1 : x.toNat < y.toNat <;> by_cases h2 : y.toNat < z.toNat <;> by_cases h3 : y.toNat < x.toNat <;> by_cases h4 : z.toNat < y.toNat <;> by_cases h5 : x.toNat < z.toNat <;> by_cases h6 : z.toNat < x.toNat <;> first | (exfalso; omega) | simp [h1, h2, h3, h4, h5, h6] <;> first | exact ih | omega
theorem cmpI_trans (x y z : Int) (h1 : cmpI x y ≤ 0) (h2 : cmpI y z ≤ 0) : cmpI x z ≤ 0 ∧ (cmpI x z = 0 → cmpI x y = 0 ∧ cmpI y z = 0) := by
  unfold cmpI at *
  repeat' split at *
  all_goals omega
theorem cmpI_zero (x y : Int) : cmpI x y = 0 ↔ x = y := by unfold cmpI; split <;> (try split) <;> omega
theorem cmpV_trans (a b c : Vl) (h1 : cmpV a b ≤ 0) (h2 : cmpV b c ≤ 0) : cmpV a c ≤ 0 ∧ (cmpV a c = 0 → cmpV a b = 0 ∧ cmpV b c = 0) := by
  have hab := cmpI_trans (kd a.k) (kd b.k) (kd c.k)
  have hz1 := cmpI_zero (kd a.k) (kd b.k)
  have hz2 := cmpI_zero (kd b.k) (kd c.k)
  have hz3 := cmpI_zero (kd a.k) (kd c.k)
  by_cases e1 : kd a.k = kd b.k
  · by_cases e2 : kd b.k = kd c.k
    · have e3 : kd a.k = kd c.k := e1.trans e2
      have p1 := kd_eq e1 (c := 1) (by omega)
      have p2 := kd_eq e1 (c := 2) (by omega)
      have p3 := kd_eq e1 (c := 3) (by omega)
      unfold cmpV at *
      rw [if_pos e1] at *
      rw [if_pos e2] at *
      rw [if_pos e3] at *
      by_cases q1 : a.k = 1 ∨ a.k = 2
      · have q2 : b.k = 1 ∨ b.k = 2 := by rw [← p1, ← p2]; exact q1
        simp only [if_pos q1, if_pos q2] at h1 h2 ⊢
        exact cmpI_trans _ _ _ h1 h2
      · have q2 : ¬ (b.k = 1 ∨ b.k = 2) := by rw [← p1, ← p2]; exact q1
        simp only [if_neg q1, if_neg q2] at h1 h2 ⊢
        by_cases q3 : a.k = 3
        · have q4 : b.k = 3 := p3.1 q3
          simp only [if_pos q3, if_pos q4] at h1 h2 ⊢
          exact cb_trans _ _ _ h1 h2
        · have q4 : ¬ b.k = 3 := fun h => q3 (p3.2 h)
          simp only [if_neg q3, if_neg q4] at h1 h2 ⊢
          simp
    · have e3 : ¬ kd a.k = kd c.k := by rw [e1]; exact e2
      unfold cmpV at *
      rw [if_neg e2] at *
      rw [if_neg e3] at *
      rw [e1] at hab hz3 ⊢
      refine ⟨h2, fun h => absurd (hz2.1 h) e2⟩
  · by_cases e2 : kd b.k = kd c.k
    · have e3 : ¬ kd a.k = kd c.k := by rw [← e2]; exact e1
      unfold cmpV at *
      rw [if_neg e1] at *
      rw [if_neg e3] at *
      rw [← e2] at hab hz3 ⊢
      exact ⟨h1, fun h => absurd (hz1.1 h) e1⟩
    · have hh : cmpI (kd a.k) (kd b.k) ≤ 0 := by unfold cmpV at h1; rwa [if_neg e1] at h1
      have hk : cmpI (kd b.k) (kd c.k) ≤ 0 := by unfold cmpV at h2; rwa [if_neg e2] at h2
      obtain ⟨r1, r2⟩ := hab hh hk
      have e3 : ¬ kd a.k = kd c.k := fun e => e1 (hz1.1 (r2 (hz3.2 e)).1)
      have e : cmpV a c = cmpI (kd a.k) (kd c.k) := by unfold cmpV; rw [if_neg e3]
      rw [e]
      exact ⟨r1, fun h => absurd (hz3.1 h) e3⟩



def rowsV : List Vl → List Vl → List Bool → Int
  | [], [], _ => 0
  | [], _ :: _, _ => -1
  | _ :: _, [], _ => 1
  | a :: ar, b :: br, d => if cmpV a b = 0 then rowsV ar br d.tail else if d.headD false = true then -cmpV a b else cmpV a b
theorem rowsV_bd : ∀ (a b : List Vl) (d : List Bool), -1 ≤ rowsV a b d ∧ rowsV a b d ≤ 1
  | [], [], _ => by unfold rowsV; omega
  | [], _ :: _, _ => by unfold rowsV; omega
  | _ :: _, [], _ => by unfold rowsV; omega
  | a :: ar, b :: br, d => by
    unfold rowsV
    have ih := rowsV_bd ar br d.tail
    have h := cmpV_bd a b
    split
    · exact ih
    · split <;> omega
theorem rowsV_drop {a b : List Vl} {d : List Bool} {k : Nat} {x y : Vl} (ha : a[k]? = some x) (hb : b[k]? = some y) :
    rowsV (a.drop k) (b.drop k) (d.drop k) = if cmpV x y = 0 then rowsV (a.drop (k + 1)) (b.drop (k + 1)) (d.drop (k + 1)) else if (d[k]?).getD false = true then -cmpV x y else cmpV x y := by
  have h1 := lt_of_at ha
  have h2 := lt_of_at hb
  have e1 : a[k] = x := by simpa [List.getElem?_eq_getElem h1] using ha
  have e2 : b[k] = y := by simpa [List.getElem?_eq_getElem h2] using hb
  rw [List.drop_eq_getElem_cons h1, List.drop_eq_getElem_cons h2, e1, e2]
  conv => lhs; unfold rowsV
  have e3 : (d.drop k).tail = d.drop (k + 1) := by rw [List.tail_drop]
  have e4 : (d.drop k).headD false = (d[k]?).getD false := by
    rw [← List.head?_drop]
    cases d.drop k <;> rfl
  rw [e3, e4]
theorem rowsV_end {a b : List Vl} {d : List Bool} {k : Nat} (h : ¬ (k < a.length ∧ k < b.length)) (ha : k ≤ a.length) (hb : k ≤ b.length) : rowsV (a.drop k) (b.drop k) (d.drop k) = cmpI a.length b.length := by
  unfold cmpI
  by_cases h1 : k < a.length
  · have : k = b.length := by omega
    subst this
    rw [List.drop_length, List.drop_eq_getElem_cons h1]
    unfold rowsV
    rw [if_neg (by omega), if_pos (by omega)]
  · have : k = a.length := by omega
    subst this
    rw [List.drop_length]
    by_cases h2 : a.length < b.length
    · rw [List.drop_eq_getElem_cons h2, if_pos (by omega)]
      rfl
    · rw [List.drop_eq_nil_of_le (by omega), if_neg (by omega), if_neg (by omega)]
      rfl

theorem rowsV_end1 {a b : List Vl} {d : List Bool} {k : Nat} (h1 : k < a.length) (h2 : k = b.length) : rowsV (a.drop k) (b.drop k) (d.drop k) = 1 := by
  rw [List.drop_eq_getElem_cons h1, List.drop_eq_nil_of_le (by omega : b.length ≤ k)]
  rfl

set_option maxRecDepth 100000 in
set_option maxHeartbeats 4000000 in
theorem rrows_any (A1 A2 A3 : Option Addr) (n1 c1 n2 c2 n3 c3 : Nat) (a b : List Vl) (d : List Bool) (w : World)
    (h1 : Reads w w.heap.size 3 A1 n1 (vV a)) (h2 : Reads w w.heap.size 3 A2 n2 (vV b)) (h3 : Reads w w.heap.size 1 A3 n3 (d.map Value.bool)) (g1 : n1 ≤ maxLen) (s1 : ∀ v ∈ a, v.s.size ≤ 1000000) (s2 : ∀ v ∈ b, v.s.size ≤ 1000000) :
    Calls Tryz.prog 43 #[.slice A1 n1 c1, .slice A2 n2 c2, .slice A3 n3 c3] w (RetB w (.int .i64 (rowsV a b d))) := by
  have l1 : a.length = n1 := by have := h1.1; rw [vV_len] at this; omega
  have l2 : b.length = n2 := by have := h2.1; rw [vV_len] at this; omega
  have l3 : d.length = n3 := by have := h3.1; simp at this; omega
  have L1 := Lib.hid l1; clear l1
  have L2 := Lib.hid l2; clear l2
  have L3 := Lib.hid l3; clear l3
  have S1 := Lib.hid s1; clear s1
  have S2 := Lib.hid s2; clear s2
  unfold maxLen at g1
  go_enter Tryz.func43, Tryz.ntmps43
  go_wp2
  go_loopw [11] (fun i wr => ∃ k : Nat, k ≤ n1 ∧ k ≤ n2 ∧ i = .int .i64 k ∧ rowsV a b d = rowsV (a.drop k) (b.drop k) (d.drop k) ∧ Below w.heap.size w wr) (fun i _ => n1 - (intOf i).toNat)
  case atStart => exact ⟨0, Nat.zero_le _, Nat.zero_le _, rfl, rfl, Below.refl _ _⟩
  case round =>
    obtain ⟨k, hk1, hk2, rfl, he, hbw⟩ := hrel
    have hbz := hbw.size
    by_cases hlt : k < n1 ∧ k < n2
    · obtain ⟨k1, k2⟩ := hlt
      obtain ⟨ad, u, rfl, hub, hu, u0, u1, u2⟩ := (h1.below hbw).val k1
      obtain ⟨ad2, v, rfl, hvb, hv, v0, v1, v2⟩ := (h2.below hbw).val k2
      have hd := rowsV_drop (d := d) hu hv
      have hbd := cmpV_bd u v
      have HC := Lib.hid fun W => rcompare_any u v W (S1.out u (List.mem_of_getElem? hu)) (S2.out v (List.mem_of_getElem? hv))
      have hcz : cmpV u v = 0 ∨ cmpV u v ≠ 0 := by omega
      generalize cmpV u v = c at *
      have He := Lib.hid (he.trans hd)
      clear he hd
      have q1 : (0 : Int) ≤ (k : Int) := by omega
      have q2 : (k : Int) < (n1 : Int) := by omega
      have q3 : (k : Int) < (n2 : Int) := by omega
      obtain ⟨uk, ui, us⟩ := u
      obtain ⟨vk, vi, vs⟩ := v
      unfold Vl.agg at HC
      simp only at *
      have hS : Hid (∀ W, Below wr.heap.size wr W → W.cell? (ad.add (k * 3)) = some (.int .u8 uk) ∧ W.cell? ⟨(ad.add (k * 3)).block, (ad.add (k * 3)).off + 1, none⟩ = some (.int .i64 ui) ∧ W.cell? ⟨(ad.add (k * 3)).block, (ad.add (k * 3)).off + 2, none⟩ = some (.string us) ∧ W.cell? (ad2.add (k * 3)) = some (.int .u8 vk) ∧ W.cell? ⟨(ad2.add (k * 3)).block, (ad2.add (k * 3)).off + 1, none⟩ = some (.int .i64 vi) ∧ W.cell? ⟨(ad2.add (k * 3)).block, (ad2.add (k * 3)).off + 2, none⟩ = some (.string vs) ∧ Below wr.heap.size wr W) := by
        refine Lib.hid fun W hW => ⟨(hW.cell ?_).trans u0, (hW.cell ?_).trans u1, (hW.cell ?_).trans u2, (hW.cell ?_).trans v0, (hW.cell ?_).trans v1, (hW.cell ?_).trans v2, hW⟩
        all_goals (simp only [block_of_add]; omega)
      go_wp2_with fail
      go_region_held3 (fun W => W.cell? (ad.add (k * 3)) = some (.int .u8 uk) ∧ W.cell? ⟨(ad.add (k * 3)).block, (ad.add (k * 3)).off + 1, none⟩ = some (.int .i64 ui) ∧ W.cell? ⟨(ad.add (k * 3)).block, (ad.add (k * 3)).off + 2, none⟩ = some (.string us) ∧ W.cell? (ad2.add (k * 3)) = some (.int .u8 vk) ∧ W.cell? ⟨(ad2.add (k * 3)).block, (ad2.add (k * 3)).off + 1, none⟩ = some (.int .i64 vi) ∧ W.cell? ⟨(ad2.add (k * 3)).block, (ad2.add (k * 3)).off + 2, none⟩ = some (.string vs) ∧ Below wr.heap.size wr W)
        (first | exact hS.out _ (by (with_reducible repeat (first | exact Below.refl _ _ | exact hb1 | refine bto0 ?_ hb1 | refine bdr ?_ _ | refine Below.drew ?_ | refine ball ?_ _))) | assumption)
        (first | (go_at_call 80; (with_reducible refine (HC.out _).mono ?_); rintro e w1 ⟨rfl, hb1⟩))
      have hbw1 : Below w.heap.size w w1 := bto0 hbw (by (with_reducible repeat (first | exact Below.refl _ _ | exact hb1 | refine bto0 ?_ hb1 | refine bdr ?_ _ | refine Below.drew ?_ | refine ball ?_ _)))
      rcases hcz with rfl | hz
      · have He1 := Lib.hid (He.out.trans (if_pos rfl))
        clear He
        go_wp2
        go_roundw
        case rel => exact ⟨k + 1, by omega, by omega, by go_num, He1.out, hbw1⟩
        case measure => simp [intOf]; omega
      · have hcb : (c != 0) = true := by simpa using hz
        have He1 := Lib.hid (He.out.trans (if_neg hz))
        have hb0 := hbd.1
        have hb2 := hbd.2
        clear He hbd
        by_cases k3 : k < n3
        · obtain ⟨ad3, x, rfl, -, hx, hc3⟩ := (h3.below hbw1).at_ k3
          obtain ⟨t, ht, rfl⟩ : ∃ t, d[k]? = some t ∧ x = .bool t := by
            simp only [List.getElem?_map, Option.map_eq_some_iff] at hx
            obtain ⟨t, h1, rfl⟩ := hx
            exact ⟨t, h1, rfl⟩
          have q4 : (k : Int) < (n3 : Int) := by omega
          rw [ht] at He1
          clear ht hx
          cases t
          · go_wp2
            go_ret
            exact ⟨ret_int (by rw [He1.out]; rfl), hbw1⟩
          · go_wp2
            go_ret
            exact ⟨ret_int (by rw [He1.out]; rfl), hbw1⟩
        · have hn : d[k]? = none := List.getElem?_eq_none (by rw [L3.out]; omega)
          rw [hn] at He1
          clear hn
          go_wp2
          go_ret
          exact ⟨ret_int (by rw [He1.out]; rfl), hbw1⟩
    · by_cases k1 : k < n1
      · have hr := rowsV_end1 (a := a) (b := b) (d := d) (k := k) (by rw [L1.out]; exact k1) (by rw [L2.out]; omega)
        have He := Lib.hid (he.trans hr)
        have q2 : (n2 : Int) ≤ (k : Int) := by omega
        clear he hr hlt
        go_wp2
        go_ret
        exact ⟨ret_int He.out.symm, hbw⟩
      · have hr := rowsV_end (a := a) (b := b) (d := d) (k := k) (by rw [L1.out, L2.out]; exact hlt) (by rw [L1.out]; exact hk1) (by rw [L2.out]; exact hk2)
        rw [L1.out, L2.out] at hr
        have He := Lib.hid (he.trans hr)
        clear he hr hlt
        by_cases q : n1 < n2
        · go_wp2
          go_ret
          exact ⟨ret_int (by rw [He.out]; unfold cmpI; rw [if_pos (by omega)]), hbw⟩
        · go_wp2
          go_ret
          exact ⟨ret_int (by rw [He.out]; unfold cmpI; rw [if_neg (by omega), if_neg (by omega)]), hbw⟩


theorem rowsV_swap : ∀ (a b : List Vl) (d : List Bool), rowsV b a d = - rowsV a b d
  | [], [], _ => rfl
  | [], _ :: _, _ => rfl
  | _ :: _, [], _ => rfl
  | a :: ar, b :: br, d => by
    have ih := rowsV_swap ar br d.tail
    have h := cmpV_swap a b
    unfold rowsV
    rw [h]
    by_cases h0 : cmpV a b = 0
    · rw [if_pos (by omega), if_pos h0]; exact ih
    · rw [if_neg (by omega), if_neg h0]
      split <;> rfl
theorem sgn_trans (a b c : Vl) (t : Bool) (h1 : (if t = true then -cmpV a b else cmpV a b) ≤ 0) (h2 : (if t = true then -cmpV b c else cmpV b c) ≤ 0) :
    (if t = true then -cmpV a c else cmpV a c) ≤ 0 ∧ ((if t = true then -cmpV a c else cmpV a c) = 0 → cmpV a b = 0 ∧ cmpV b c = 0) := by
  cases t
  · simp only [Bool.false_eq_true, if_false] at h1 h2 ⊢
    exact cmpV_trans a b c h1 h2
  · simp only [if_true] at h1 h2 ⊢
    have s1 := cmpV_swap a b
    have s2 := cmpV_swap b c
    have s3 := cmpV_swap a c
    obtain ⟨r1, r2⟩ := cmpV_trans c b a (by omega) (by omega)
    refine ⟨by omega, fun h => ?_⟩
    have := r2 (by omega)
    omega
theorem rowsV_trans : ∀ (a b c : List Vl) (d : List Bool), rowsV a b d ≤ 0 → rowsV b c d ≤ 0 → rowsV a c d ≤ 0 ∧ (rowsV a c d = 0 → rowsV a b d = 0 ∧ rowsV b c d = 0)
  | [], [], [], _ => by simp [rowsV]
  | [], [], _ :: _, _ => by simp [rowsV]
  | [], _ :: _, [], _ => by simp [rowsV]
  | [], _ :: _, _ :: _, _ => by simp [rowsV]
  | _ :: _, [], _, _ => by intro h; simp [rowsV] at h
  | _ :: _, _ :: _, [], _ => by intro _ h; simp [rowsV] at h
  | x :: xs, y :: ys, z :: zs, d => by
    have ih := rowsV_trans xs ys zs d.tail
    have st := sgn_trans x y z (d.headD false)
    unfold rowsV
    generalize d.headD false = t at *
    intro h1 h2
    have hxy : cmpV x y = 0 ∨ cmpV x y ≠ 0 := by omega
    have hyz : cmpV y z = 0 ∨ cmpV y z ≠ 0 := by omega
    have tr0 : cmpV x y = 0 → cmpV y z = 0 → cmpV x z = 0 := fun e1 e2 => by
      have s1 := cmpV_swap x y
      have s2 := cmpV_swap y z
      have s3 := cmpV_swap x z
      have p := (cmpV_trans x y z (by omega) (by omega)).1
      have q := (cmpV_trans z y x (by omega) (by omega)).1
      omega
    rcases hxy with e1 | e1 <;> rcases hyz with e2 | e2
    · rw [if_pos e1] at h1 ⊢
      rw [if_pos e2] at h2 ⊢
      rw [if_pos (tr0 e1 e2)]
      exact ih h1 h2
    · rw [if_neg e2] at h2
      obtain ⟨p, q⟩ := st (by rw [e1]; split <;> omega) h2
      have hz : ¬ cmpV x z = 0 := fun e => e2 (q (by rw [e]; split <;> omega)).2
      rw [if_neg hz]
      exact ⟨p, fun h => absurd (q h).2 e2⟩
    · rw [if_neg e1] at h1
      obtain ⟨p, q⟩ := st h1 (by rw [e2]; split <;> omega)
      have hz : ¬ cmpV x z = 0 := fun e => e1 (q (by rw [e]; split <;> omega)).1
      rw [if_neg hz]
      exact ⟨p, fun h => absurd (q h).1 e1⟩
    · rw [if_neg e1] at h1
      rw [if_neg e2] at h2
      obtain ⟨p, q⟩ := st h1 h2
      have hz : ¬ cmpV x z = 0 := fun e => e1 (q (by rw [e]; split <;> omega)).1
      rw [if_neg hz]
      exact ⟨p, fun h => absurd (q h).1 e1⟩
/-- The other way at each place. -/
def othB (d : List Bool) (i : Nat) : Bool := !((d[i]?).getD false)
theorem rowsV_other : ∀ (a b : List Vl) (d o : List Bool), a.length = b.length → (∀ i, i < a.length → (o[i]?).getD false = !((d[i]?).getD false)) → rowsV a b o = - rowsV a b d
  | [], [], _, _, _, _ => rfl
  | [], _ :: _, _, _, h, _ => by simp at h
  | _ :: _, [], _, _, h, _ => by simp at h
  | a :: ar, b :: br, d, o, h, ho => by
    have ih := rowsV_other ar br d.tail o.tail (by simpa using h) (fun i hi => by simpa using ho (i + 1) (by simpa using hi))
    have h0 := ho 0 (by simp)
    have e1 : ∀ l : List Bool, l.headD false = (l[0]?).getD false := fun l => by cases l <;> rfl
    unfold rowsV
    rw [e1 o, e1 d, h0]
    by_cases hz : cmpV a b = 0
    · rw [if_pos hz, if_pos hz]; exact ih
    · rw [if_neg hz, if_neg hz]
      cases (d[0]?).getD false <;> simp
end
end Go.Proofs.YtgndebdoljnheaaGreatDoor
