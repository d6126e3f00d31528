/-
  The reference's Value.
-/
import Derived.Test.YtflolnilagogpaaIy
set_option linter.unusedSimpArgs false
set_option linter.unusedVariables false
namespace Go.Proofs.Ytflolnilagogpaa
open Go.RowKit

theorem str_get {l : List UInt8} {j : Nat} {b : UInt8} (h : j < (str l).size) (hb : l[j]? = some b) : (str l)[j] = b := by
  have := str_at l j h
  rw [hb] at this
  exact (Option.some.inj this).symm
theorem val_step (U : Nat) (b : UInt8) (hU : U < 256 ^ 6) : IntKind.u64.wrap (IntKind.u64.wrap (256 * (U : Int)) + IntKind.u64.wrap (b.toNat : Int)) = ((256 * U + b.toNat : Nat) : Int) := by
  have hb := b.toNat_lt
  rw [IntKind.wrap_u64, IntKind.wrap_u64, IntKind.wrap_u64]
  omega
set_option maxRecDepth 100000 in
set_option maxHeartbeats 1000000 in
theorem dval_any (l : List UInt8) (hl : l.length ≤ 7) (w : World) : Calls Try.prog 53 #[.string (str l)] w fun e w' => e = .returned (.int .u64 (beVal l)) ∧ w = w' := by
  have hz : (str l).size ≤ 7 := by rw [str_size]; exact hl
  have hzl := Lib.hid (str_size l)
  go_enter Try.func53, Try.ntmps53
  go_wp2
  go_loop [3, 4] (fun uv iv => ∃ j : Nat, j ≤ l.length ∧ iv = .int .i64 j ∧ uv = .int .u64 ((beVal (l.take j) : Nat) : Int)) (fun _ iv => 10 - (intOf iv).toNat)
  case atStart => exact ⟨0, by omega, rfl, rfl⟩
  case round =>
    obtain ⟨j, hj, rfl, rfl⟩ := hrel
    have q0 : (0 : Int) ≤ (j : Int) := by omega
    by_cases hlt : j < (str l).size
    · have hlt' : j < l.length := by rw [← hzl.out]; exact hlt
      have hb : l[j]? = some l[j] := List.getElem?_eq_getElem hlt'
      have hg := Lib.hid (str_get hlt hb)
      have hbt := Lib.hid (beVal_take hb)
      have hU := beVal_lt_of (l := l.take j) (n := 6) (by rw [List.length_take]; omega)
      obtain ⟨b, hbe⟩ : ∃ b, l[j] = b := ⟨_, rfl⟩
      rw [hbe] at hg hbt
      have hor := Lib.hid (val_step (beVal (l.take j)) b hU)
      obtain ⟨U, hUe⟩ : ∃ U, beVal (l.take j) = U := ⟨_, rfl⟩
      rw [hUe] at hbt hor ⊢
      clear hbe hUe hU hb
      go_wp2
      go_round
      case rel => exact ⟨j + 1, by omega, by go_num, val_int (by rw [hg.out, hbt.out]; exact hor.out)⟩
      case measure => simp [intOf]; omega
    · have h1 : j = l.length := by have := hzl.out; omega
      have h2 : Hid (l.take j = l) := Lib.hid (List.take_of_length_le (by omega))
      rw [h2.out]
      clear h1
      go_wp2
      go_ret
      exact ⟨rfl, rfl⟩

end Go.Proofs.Ytflolnilagogpaa
