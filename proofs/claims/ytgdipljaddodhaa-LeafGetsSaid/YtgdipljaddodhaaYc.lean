/-
  Entries of a tree: contracts of the program's Compare, of the reference's Less.
-/
import Derived.Test.YtgdipljaddodhaaYb
import Derived.Test.YtgdipljaddodhaaShelf
import Derived.Deep.RegionHeld3
import Derived.Deep.DrawnRows
import Derived.Deep.QuietTactic
import Derived.BigQuiet
import Derived.RegionTactic
set_option linter.unusedSimpArgs false
namespace Go.Proofs.Ytgdipljaddodhaa
open Go.RowKit

@[reducible] def En.agg (e : En) : Value := .agg #[.string e.s, .int .u32 e.p, .int .u16 e.q]
theorem cmp32_any (x y : Int) (w : World) : Calls Try.prog 29 #[.int .u32 x, .int .u32 y] w fun e w' => e = .returned (.int .i64 (cmpI x y)) ∧ w = w' := by
  unfold cmpI
  by_cases h1 : x < y
  · go_enter Try.func29, Try.ntmps29
    go_wp2
    go_ret
    exact ⟨rfl, rfl⟩
  · by_cases h2 : y < x
    · go_enter Try.func29, Try.ntmps29
      go_wp2
      go_ret
      exact ⟨rfl, rfl⟩
    · go_enter Try.func29, Try.ntmps29
      go_wp2
      go_ret
      exact ⟨rfl, rfl⟩
theorem cmp16_any (x y : Int) (w : World) : Calls Try.prog 30 #[.int .u16 x, .int .u16 y] w fun e w' => e = .returned (.int .i64 (cmpI x y)) ∧ w = w' := by
  unfold cmpI
  by_cases h1 : x < y
  · go_enter Try.func30, Try.ntmps30
    go_wp2
    go_ret
    exact ⟨rfl, rfl⟩
  · by_cases h2 : y < x
    · go_enter Try.func30, Try.ntmps30
      go_wp2
      go_ret
      exact ⟨rfl, rfl⟩
    · go_enter Try.func30, Try.ntmps30
      go_wp2
      go_ret
      exact ⟨rfl, rfl⟩
theorem orL_drop {l : List Int} {k : Nat} {x : Int} (h : l[k]? = some x) : orL (l.drop k) = if x = 0 then orL (l.drop (k + 1)) else x := by
  have hk := lt_of_at h
  have : l[k] = x := by simpa [List.getElem?_eq_getElem hk] using h
  rw [List.drop_eq_getElem_cons hk, this]
  rfl
theorem or_any (A : Option Addr) (n c B : Nat) (l : List Int) (w : World) (hr : Reads w B 1 A n (l.map (Value.int .i64))) (hn : n ≤ 1000) :
    Calls Try.prog 27 #[.slice A n c] w fun e w' => e = .returned (.int .i64 (orL l)) ∧ w = w' := by
  have hl : l.length = n := by have := hr.1; simp at this; omega
  have Hl := Lib.hid hl; clear hl
  go_enter Try.func27, Try.ntmps27
  go_wp2
  go_loop [8] (fun i => ∃ k : Nat, k ≤ n ∧ i = .int .i64 k ∧ orL l = orL (l.drop k)) (fun i => n - (intOf i).toNat)
  case atStart => exact ⟨0, Nat.zero_le _, rfl, rfl⟩
  case round =>
    obtain ⟨k, hk, rfl, he⟩ := hrel
    have HE := Lib.hid he; clear he
    have q0 : (0 : Int) ≤ (k : Int) := by omega
    by_cases hlt : k < n
    · have q1 : (k : Int) < (n : Int) := by omega
      obtain ⟨ad, u, rfl, _, hu, c0⟩ := hr.at_ hlt
      rw [List.getElem?_map] at hu
      obtain ⟨x, hx, rfl⟩ := Option.map_eq_some_iff.1 hu
      have hd := Lib.hid (orL_drop hx)
      clear hx hu
      by_cases h0 : x = 0
      · subst h0
        have he2 : Hid (orL l = orL (l.drop (k + 1))) := Lib.hid (by rw [HE.out, hd.out, if_pos rfl])
        go_wp2
        go_round
        case rel => exact ⟨k + 1, by omega, by go_num, he2.out⟩
        case measure => simp [intOf]; omega
      · have he2 : Hid (orL l = x) := Lib.hid (by rw [HE.out, hd.out, if_neg h0])
        have hb : (x != 0) = true := by simpa using h0
        go_wp2
        go_ret
        exact ⟨by rw [he2.out]; rfl, rfl⟩
    · have he2 : Hid (orL l = 0) := Lib.hid (by rw [HE.out, List.drop_eq_nil_of_le (by rw [Hl.out]; omega)]; rfl)
      go_wp2
      go_ret
      exact ⟨by rw [he2.out]; rfl, rfl⟩

set_option maxHeartbeats 1000000 in
theorem lessE_any (a b : En) (w : World) : Calls Try.prog 11 #[a.agg, b.agg] w (RetB w (.bool (lessE a b))) := by
  unfold lessE
  obtain ⟨s, p, q⟩ := a
  obtain ⟨t, x, y⟩ := b
  unfold En.agg
  simp only
  by_cases h : (s.toList == t.toList) = true
  · rw [if_pos h]
    have h' : (s.toList != t.toList) = false := by simpa using h
    by_cases h2 : p = x
    · rw [if_pos h2]
      have h2' : (p != x) = false := by simpa using h2
      go_enter Try.func11, Try.ntmps11
      go_wp2
      go_ret
      exact ⟨rfl, by (with_reducible repeat (first | exact Below.refl _ _ | exact hb1 | exact hb1 | refine bto0 ?_ hb1 | refine bto0 ?_ hb1 | refine bdr ?_ _ | refine Below.drew ?_ | refine ball ?_ _))⟩
    · rw [if_neg h2]
      have h2' : (p != x) = true := by simpa using h2
      go_enter Try.func11, Try.ntmps11
      go_wp2
      go_ret
      exact ⟨rfl, by (with_reducible repeat (first | exact Below.refl _ _ | exact hb1 | exact hb1 | refine bto0 ?_ hb1 | refine bto0 ?_ hb1 | refine bdr ?_ _ | refine Below.drew ?_ | refine ball ?_ _))⟩
  · rw [if_neg h]
    have h' : (s.toList == t.toList) = false := by simpa using h
    have h'' : (s.toList != t.toList) = true := by simpa using h
    go_enter Try.func11, Try.ntmps11
    go_wp2
    go_ret
    exact ⟨rfl, by (with_reducible repeat (first | exact Below.refl _ _ | exact hb1 | exact hb1 | refine bto0 ?_ hb1 | refine bto0 ?_ hb1 | refine bdr ?_ _ | refine Below.drew ?_ | refine ball ?_ _))⟩
end Go.Proofs.Ytgdipljaddodhaa
