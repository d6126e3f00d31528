/-
  A reader of a page's bytes: the library's ContainsFunc over bytes that are not 0; ended.
-/
import Derived.Test.YtgdipljaddodhaaYr
import Derived.Deep.QuietTactic
import Derived.IntWalk
set_option linter.unusedSimpArgs false
namespace Go.Proofs.Ytgdipljaddodhaa
open Go.RowKit

theorem nz_any (x : Int) (w : World) : Calls Try.prog 55 #[.int .u8 x] w fun e w' => e = .returned (.bool (x != 0)) ∧ w = w' := by
  go_enter Try.func55, Try.ntmps55
  go_wp2
  go_ret
  exact ⟨rfl, rfl⟩
/-- All bytes are 0. -/
def allZ (l : List UInt8) : Bool := l.all (· == 0)
theorem allZ_take {l : List UInt8} {k : Nat} {x : UInt8} (h : l[k]? = some x) : allZ (l.take (k + 1)) = (allZ (l.take k) && (x == 0)) := by
  unfold allZ
  rw [List.take_add_one, h]; simp
theorem allZ_false {l : List UInt8} {k : Nat} {x : UInt8} (h : l[k]? = some x) (hx : x ≠ 0) : allZ l = false := by
  unfold allZ
  rw [List.all_eq_false]
  exact ⟨x, List.mem_of_getElem? h, by simpa using hx⟩
set_option maxRecDepth 100000 in
theorem index_any (A : Option Addr) (n c B : Nat) (l : List UInt8) (w : World) (hr : Reads w B 1 A n (bL l)) (hn : n ≤ 1000000) :
    Calls Try.prog 58 #[.slice A n c, .func (.func 55) #[] #[]] w fun e w' => ∃ r : Int, e = .returned (.int .i64 r) ∧ w = w' ∧ decide (0 ≤ r) = !(allZ l) := by
  have hnI : (n : Int) ≤ 1000000 := by omega
  have hl := hr.bytes_len
  have Hl := Lib.hid hl; clear hl
  go_enter Try.func58, Try.ntmps58
  go_wp2_with fail
  go_loop [8] (fun v => ∃ k : Nat, v = .int .i64 k ∧ k ≤ n ∧ allZ (l.take k) = true) (fun v => n - (intOf v).toNat)
  case atStart => exact ⟨0, rfl, by omega, rfl⟩
  case round =>
    obtain ⟨k, rfl, hk, hz⟩ := hrel
    have g1 : (0 : Int) ≤ (k : Int) := by omega
    have Hz := Lib.hid hz; clear hz
    by_cases hki : k < n
    · have g2 : (k : Int) < (n : Int) := by omega
      obtain ⟨ad, x, rfl, _, hx, d1⟩ := hr.byte hki
      have Hx := Lib.hid hx; clear hx
      by_cases hx0 : x = 0
      · have e1 : ((x.toNat : Int) != 0) = false := by subst hx0; rfl
        have Hx0 := Lib.hid hx0; clear hx0
        go_wp2_with (go_at_call 55; refine (nz_any _ _).mono ?_; rintro e w' ⟨rfl, rfl⟩)
        go_round
        case rel => exact ⟨k + 1, by go_num, by omega, by rw [allZ_take Hx.out, Hz.out, Hx0.out]; rfl⟩
        case measure => simp [intOf]; omega
      · have e1 : ((x.toNat : Int) != 0) = true := by
          have : ¬ x.toNat = 0 := fun e => hx0 (UInt8.toNat_inj.1 e)
          simp; omega
        have Hx0 := Lib.hid hx0; clear hx0
        go_wp2_with (go_at_call 55; refine (nz_any _ _).mono ?_; rintro e w' ⟨rfl, rfl⟩)
        go_ret
        exact ⟨(k : Int), rfl, rfl, by rw [allZ_false Hx.out Hx0.out]; simp⟩
    · obtain rfl : n = k := by omega
      have e1 : l.take n = l := List.take_of_length_le (by rw [Hl.out]; exact Nat.le_refl _)
      have h2 := Hz.out
      rw [e1] at h2
      have H2 := Lib.hid h2; clear h2 e1
      go_wp2
      go_ret
      exact ⟨-1, rfl, rfl, by rw [H2.out]; rfl⟩
theorem contains_any (A : Option Addr) (n c B : Nat) (l : List UInt8) (w : World) (hr : Reads w B 1 A n (bL l)) (hn : n ≤ 1000000) :
    Calls Try.prog 54 #[.slice A n c, .func (.func 55) #[] #[]] w fun e w' => e = .returned (.bool (!(allZ l))) ∧ w = w' := by
  have I := Lib.hid (index_any A n c B l w hr hn)
  clear hr
  go_enter Try.func54, Try.ntmps54
  go_wp2_with fail
  refine I.out.mono ?_
  rintro e w' ⟨r, rfl, rfl, hq⟩
  have Hq := Lib.hid hq; clear hq
  go_wp2
  go_ret
  exact ⟨ret_bool (by rw [← Hq.out]), rfl⟩

theorem ended_any (g B : Nat) (r : List UInt8) (sh : Bool) (w : World) (h : Rd w g B r sh) (hr : r.length ≤ 1000000) :
    Calls Try.prog 40 #[.pointer (some ⟨g, 0, none⟩)] w fun e w' => e = .returned (.bool (!sh && allZ r)) ∧ w = w' := by
  obtain ⟨A, m, c, hX, hr1, hmc, hB⟩ := h
  have hl := hr1.bytes_len
  have c0 : w.cell? ⟨g, 0, none⟩ = some (.slice A m c) := hX.cell 0
  have c1 : w.cell? ⟨g, 1, none⟩ = some (.bool sh) := hX.cell 1
  have C := Lib.hid (contains_any A m c B r w hr1 (by omega))
  clear hX hr1 hl hr
  cases sh
  · go_enter Try.func40, Try.ntmps40
    go_wp2_with fail
    refine C.out.mono ?_
    rintro e w' ⟨rfl, rfl⟩
    go_wp2
    go_ret
    exact ⟨by simp, rfl⟩
  · go_enter Try.func40, Try.ntmps40
    go_wp2
    go_ret
    exact ⟨rfl, rfl⟩
end Go.Proofs.Ytgdipljaddodhaa
