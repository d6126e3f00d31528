/-
  Several texts in one: Gr.
-/
import Derived.Test.YtgndebdoljnheaaGreatDoorMeae
import Derived.Test.YtgndebdoljnheaaGreatDoorProg
import Derived.IntWalk
/-
  More values than are gone through: contract of the reference's Great.
-/
namespace Go.Proofs.YtgndebdoljnheaaGreatDoor
section
set_option linter.unusedSimpArgs false
set_option linter.unusedVariables false
open Go.RowKit

/-- More than is gone through? -/
def grV : Int → List Vl → Bool
  | _, [] => false
  | n, v :: r => if 5000 < n + (1 + min (v.s.size : Int) 9000) then true else grV (n + (1 + min (v.s.size : Int) 9000)) r
theorem grV_drop {l : List Vl} {k : Nat} {v : Vl} (h : l[k]? = some v) (n : Int) : grV n (l.drop k) = if 5000 < n + (1 + min (v.s.size : Int) 9000) then true else grV (n + (1 + min (v.s.size : Int) 9000)) (l.drop (k + 1)) := by
  have hk := lt_of_at h
  have : l[k] = v := by simpa [List.getElem?_eq_getElem hk] using h
  rw [List.drop_eq_getElem_cons hk, this]
  rfl

set_option maxHeartbeats 1000000 in
theorem great_any (A : Option Addr) (n c : Nat) (l : List Vl) (w : World) (B : Nat) (hr : Reads w B 3 A n (vV l)) (hsz : ∀ v ∈ l, v.s.size ≤ maxLen) (hn : n ≤ maxLen) :
    Calls Tryz.prog 16 #[.slice A n c] w fun e w' => e = .returned (.bool (grV 0 l)) ∧ w = w' := by
  have hl : l.length = n := by have := hr.1; rw [vV_len] at this; omega
  have Hl := Lib.hid hl; clear hl
  have Hz := Lib.hid hsz; clear hsz
  unfold maxLen at hn
  go_enter Tryz.func16, Tryz.ntmps16
  go_wp2
  go_loop [3, 7] (fun m i => ∃ (k : Nat) (q : Int), k ≤ n ∧ i = .int .i64 k ∧ m = .int .i64 q ∧ 0 ≤ q ∧ q ≤ 5000 ∧ grV 0 l = grV q (l.drop k)) (fun _ i => n - (intOf i).toNat)
  case atStart => exact ⟨0, 0, Nat.zero_le _, rfl, rfl, by omega, by omega, rfl⟩
  case round =>
    obtain ⟨k, q, hk, rfl, rfl, hq0, hq1, he⟩ := hrel
    by_cases hlt : k < n
    · obtain ⟨ad, v, rfl, _, hv, _, _, hc2⟩ := hr.val hlt
      have hvz := Hz.out v (List.mem_of_getElem? hv)
      have hd := grV_drop hv q
      unfold maxLen at hvz
      clear hv hr
      by_cases ht : 5000 < q + (1 + min (v.s.size : Int) 9000)
      · rw [if_pos ht] at hd
        have He := Lib.hid (he.trans hd)
        clear he hd
        by_cases h9 : 9000 < (v.s.size : Int)
        · go_wp2
          go_ret
          exact ⟨ret_bool He.out.symm, rfl⟩
        · have ht' : 5000 < q + (1 + (v.s.size : Int)) := by omega
          go_wp2
          go_ret
          exact ⟨ret_bool He.out.symm, rfl⟩
      · rw [if_neg ht] at hd
        have He := Lib.hid (he.trans hd)
        clear he hd
        go_wp2
        go_round
        case rel => exact ⟨k + 1, q + (1 + min (v.s.size : Int) 9000), by omega, by go_num, by first | rfl | exact val_int (by omega), by omega, by omega, He.out⟩
        case measure => simp [intOf]; omega
    · have hd : l.drop k = [] := List.drop_eq_nil_of_le (by rw [Hl.out]; omega)
      rw [hd] at he
      have he2 : grV 0 l = false := he
      have He := Lib.hid he2
      clear he hd he2
      go_wp2
      go_ret
      exact ⟨ret_bool He.out.symm, rfl⟩
end
end Go.Proofs.YtgndebdoljnheaaGreatDoor
