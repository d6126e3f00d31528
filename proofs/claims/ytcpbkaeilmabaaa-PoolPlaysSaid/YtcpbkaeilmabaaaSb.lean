/-
  Slots of a heap page: the library's ContainsFunc over bytes that are not 0.
-/
import Derived.Test.YtcpbkaeilmabaaaSa
namespace Go.Proofs.Ytcpbkaeilmabaaa
open Go.RowKit

theorem end_any (a b : Nat) (ha : a ≤ 1000000) (hb : b ≤ 1000000) (w : World) : Calls Try.prog 85 #[.agg #[.int .i64 a, .int .i64 b]] w (RetB w (.int .i64 ((a : Int) + (b : Int)))) := by
  have h0 : (0 : Int) ≤ (a : Int) := by omega
  have h1 : (a : Int) ≤ 1000000 := by omega
  have h2 : (0 : Int) ≤ (b : Int) := by omega
  have h3 : (b : Int) ≤ 1000000 := by omega
  go_enter Try.func85, Try.ntmps85
  go_wp2
  go_ret
  exact ⟨rfl, ball (Below.refl _ _) _⟩
theorem nz_any (x : Int) (w : World) : Calls Try.prog 87 #[.int .u8 x] w fun e w' => e = .returned (.bool (x != 0)) ∧ w = w' := by
  go_enter Try.func87, Try.ntmps87
  go_wp2
  go_ret
  exact ⟨rfl, rfl⟩
/-- All bytes are 0. -/
def allZ (l : List UInt8) : Bool := l.all (· == 0)
theorem allZ_take {l : List UInt8} {k : Nat} {x : UInt8} (h : l[k]? = some x) : allZ (l.take (k + 1)) = (allZ (l.take k) && (x == 0)) := by
  unfold allZ
  rw [List.take_add_one, h]; simp
theorem allZ_false {l : List UInt8} {k : Nat} {x : UInt8} (h : l[k]? = some x) (hx : x ≠ 0) : allZ l = false := by
  unfold allZ
  rw [List.all_eq_false]
  exact ⟨x, List.mem_of_getElem? h, by simpa using hx⟩
set_option maxRecDepth 100000 in
theorem index_any (A : Option Addr) (n c B : Nat) (l : List UInt8) (w : World) (hr : Reads w B 1 A n (bL l)) (hn : n ≤ 1000000) :
    Calls Try.prog 88 #[.slice A n c, .func (.func 87) #[] #[]] w fun e w' => ∃ r : Int, e = .returned (.int .i64 r) ∧ w = w' ∧ decide (0 ≤ r) = !(allZ l) := by
  have hnI : (n : Int) ≤ 1000000 := by omega
  have hl := hr.bytes_len
  have Hl := Lib.hid hl; clear hl
  go_enter Try.func88, Try.ntmps88
  go_wp2_with fail
  go_loop [8] (fun v => ∃ k : Nat, v = .int .i64 k ∧ k ≤ n ∧ allZ (l.take k) = true) (fun v => n - (intOf v).toNat)
  case atStart => exact ⟨0, rfl, by omega, rfl⟩
  case round =>
    obtain ⟨k, rfl, hk, hz⟩ := hrel
    have g1 : (0 : Int) ≤ (k : Int) := by omega
    have Hz := Lib.hid hz; clear hz
    by_cases hki : k < n
    · have g2 : (k : Int) < (n : Int) := by omega
      obtain ⟨ad, x, rfl, _, hx, d1⟩ := hr.byte hki
      have Hx := Lib.hid hx; clear hx
      by_cases hx0 : x = 0
      · have e1 : ((x.toNat : Int) != 0) = false := by subst hx0; rfl
        have Hx0 := Lib.hid hx0; clear hx0
        go_wp2_with (go_at_call 87; refine (nz_any _ _).mono ?_; rintro e w' ⟨rfl, rfl⟩)
        go_round
        case rel => exact ⟨k + 1, by go_num, by omega, by rw [allZ_take Hx.out, Hz.out, Hx0.out]; rfl⟩
        case measure => simp [intOf]; omega
      · have e1 : ((x.toNat : Int) != 0) = true := by
          have : ¬ x.toNat = 0 := fun e => hx0 (UInt8.toNat_inj.1 e)
          simp; omega
        have Hx0 := Lib.hid hx0; clear hx0
        go_wp2_with (go_at_call 87; refine (nz_any _ _).mono ?_; rintro e w' ⟨rfl, rfl⟩)
        go_ret
        exact ⟨(k : Int), rfl, rfl, by rw [allZ_false Hx.out Hx0.out]; simp⟩
    · obtain rfl : n = k := by omega
      have e1 : l.take n = l := List.take_of_length_le (by rw [Hl.out]; exact Nat.le_refl _)
      have h2 := Hz.out
      rw [e1] at h2
      have H2 := Lib.hid h2; clear h2 e1
      go_wp2
      go_ret
      exact ⟨-1, rfl, rfl, by rw [H2.out]; rfl⟩
theorem contains_any (A : Option Addr) (n c B : Nat) (l : List UInt8) (w : World) (hr : Reads w B 1 A n (bL l)) (hn : n ≤ 1000000) :
    Calls Try.prog 86 #[.slice A n c, .func (.func 87) #[] #[]] w fun e w' => e = .returned (.bool (!(allZ l))) ∧ w = w' := by
  have I := Lib.hid (index_any A n c B l w hr hn)
  clear hr
  go_enter Try.func86, Try.ntmps86
  go_wp2_with fail
  refine I.out.mono ?_
  rintro e w' ⟨r, rfl, rfl, hq⟩
  have Hq := Lib.hid hq; clear hq
  go_wp2
  go_ret
  exact ⟨ret_bool (by rw [← Hq.out]), rfl⟩
end Go.Proofs.Ytcpbkaeilmabaaa
