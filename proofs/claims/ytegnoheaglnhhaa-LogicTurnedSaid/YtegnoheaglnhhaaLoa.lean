/-
  Contracts of package logic: known, Not, of.
-/
import Derived.Test.YtegnoheaglnhhaaRows
import Derived.Test.YtegnoheaglnhhaaMem
import Derived.WalkSpells
import Derived.WalkLawsBesides
namespace Go.Proofs.Ytegnoheaglnhhaa
open Go.RowKit

def kn (a : Int) : Int := if 3 < a then 2 else a
def nt (a : Int) : Int := if a = 0 then 3 else if a = 3 then 0 else kn a

set_option maxHeartbeats 400000 in
theorem known_any (a : Int) (w : World) :
    Calls Try.prog 37 #[.int .u8 a] w fun e w' => e = .returned (.int .u8 (kn a)) ∧ w = w' := by
  unfold kn
  by_cases h : 3 < a
  · go_enter Try.func37, Try.ntmps37
    go_wp2
    go_ret
    exact ⟨rfl, rfl⟩
  · go_enter Try.func37, Try.ntmps37
    go_wp2
    go_ret
    exact ⟨rfl, rfl⟩

set_option maxHeartbeats 400000 in
theorem not_any (a : Int) (w : World) :
    Calls Try.prog 16 #[.int .u8 a] w fun e w' => e = .returned (.int .u8 (nt a)) ∧ w = w' := by
  unfold nt
  go_enter Try.func16, Try.ntmps16
  go_wp2_with (go_at_call 37; refine (known_any _ _).mono ?_; rintro e w' ⟨rfl, rfl⟩)
  all_goals (go_ret; refine ⟨?_, rfl⟩; simp_all)

def andL (l : List Int) : Int := l.foldl (fun m a => min m (kn a)) 3
def orL (l : List Int) : Int := nt (l.foldl (fun m a => min m (nt a)) 3)
set_option maxHeartbeats 400000 in
theorem and_any (A : Option Addr) (n c : Nat) (l : List Int) (w : World) (B : Nat) (hr : Reads w B 1 A n (vU8 l)) (hn : n ≤ 1000000) :
    Calls Try.prog 11 #[.slice A n c] w fun e w' => e = .returned (.int .u8 (andL l)) ∧ w = w' := by
  have hl : l.length = n := by have := hr.1; rw [vU8_len] at this; omega
  go_enter Try.func11, Try.ntmps11
  have Hl := Lib.hid hl; clear hl
  go_wp2
  go_loop [3, 8] (fun m i => ∃ k : Nat, k ≤ n ∧ i = .int .i64 k ∧ m = .int .u8 ((l.take k).foldl (fun m a => min m (kn a)) 3)) (fun _ i => n - (intOf i).toNat)
  case atStart => exact ⟨0, Nat.zero_le _, rfl, rfl⟩
  case round =>
    obtain ⟨k, hk, rfl, rfl⟩ := hrel
    by_cases hlt : k < n
    · obtain ⟨ad, u, rfl, _, hx, hc⟩ := hr.at_ hlt
      obtain ⟨x, hx1, rfl⟩ := vU8_at hx
      have Hs := Lib.hid (foldl_take_succ (fun m a => min m (kn a)) 3 l k x hx1)
      clear hx hx1 hr
      generalize (l.take k).foldl (fun m a => min m (kn a)) 3 = m at *
      go_wp2_with (go_at_call 37; refine (known_any _ _).mono ?_; rintro e w' ⟨rfl, rfl⟩)
      go_round
      case rel => exact ⟨k + 1, by omega, by go_num, val_int (by rw [Hs.out]; split <;> omega)⟩
      case measure => simp [intOf]; omega
    · go_wp2
      go_ret
      have : k = n := by omega
      subst this
      exact ⟨ret_int (by unfold andL; rw [List.take_of_length_le (by rw [Hl.out]; omega)]), rfl⟩

set_option maxHeartbeats 400000 in
theorem or_any (A : Option Addr) (n c : Nat) (l : List Int) (w : World) (B : Nat) (hr : Reads w B 1 A n (vU8 l)) (hn : n ≤ 1000000) :
    Calls Try.prog 14 #[.slice A n c] w fun e w' => e = .returned (.int .u8 (orL l)) ∧ w = w' := by
  have hl : l.length = n := by have := hr.1; rw [vU8_len] at this; omega
  go_enter Try.func14, Try.ntmps14
  have Hl := Lib.hid hl; clear hl
  go_wp2
  go_loop [3, 8] (fun m i => ∃ k : Nat, k ≤ n ∧ i = .int .i64 k ∧ m = .int .u8 ((l.take k).foldl (fun m a => min m (nt a)) 3)) (fun _ i => n - (intOf i).toNat)
  case atStart => exact ⟨0, Nat.zero_le _, rfl, rfl⟩
  case round =>
    obtain ⟨k, hk, rfl, rfl⟩ := hrel
    by_cases hlt : k < n
    · obtain ⟨ad, u, rfl, _, hx, hc⟩ := hr.at_ hlt
      obtain ⟨x, hx1, rfl⟩ := vU8_at hx
      have Hs := Lib.hid (foldl_take_succ (fun m a => min m (nt a)) 3 l k x hx1)
      clear hx hx1 hr
      generalize (l.take k).foldl (fun m a => min m (nt a)) 3 = m at *
      go_wp2_with (go_at_call 16; refine (not_any _ _).mono ?_; rintro e w' ⟨rfl, rfl⟩)
      go_round
      case rel => exact ⟨k + 1, by omega, by go_num, val_int (by rw [Hs.out]; split <;> omega)⟩
      case measure => simp [intOf]; omega
    · go_wp2_with (go_at_call 16; refine (not_any _ _).mono ?_; rintro e w' ⟨rfl, rfl⟩)
      go_ret
      have : k = n := by omega
      subst this
      exact ⟨ret_int (by unfold orL; rw [List.take_of_length_le (by rw [Hl.out]; omega)]), rfl⟩

end Go.Proofs.Ytegnoheaglnhhaa
