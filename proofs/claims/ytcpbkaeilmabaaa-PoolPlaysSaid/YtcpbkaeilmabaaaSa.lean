/-
  Slots of a heap page: numbers of two bytes, where a slot stands; the library's ContainsFunc, Clone.
-/
import Derived.Test.YtcpbkaeilmabaaaDk
import Derived.Test.YtcpbkaeilmabaaaDr
import Derived.Deep.QuietTactic
import Derived.IntWalk
namespace Go.Proofs.Ytcpbkaeilmabaaa
open Go.RowKit

/-- A number of two bytes that stands somewhere. -/
def two (l : List UInt8) (i : Nat) : Nat := 256 * (l.getD i 0).toNat + (l.getD (i + 1) 0).toNat
theorem two_lt (l : List UInt8) (i : Nat) : two l i < 65536 := by
  unfold two
  have := (l.getD i 0).toNat_lt
  have := (l.getD (i + 1) 0).toNat_lt
  omega
theorem or_i64 (x b : UInt8) : bits .or .i64 ((x.toNat : Int) * 256) (b.toNat : Int) = ((256 * x.toNat + b.toNat : Nat) : Int) := by
  have hb := b.toNat_lt
  have hx := x.toNat_lt
  have h1 : (x.toNat : Int) * 256 = ((256 * x.toNat : Nat) : Int) := by omega
  rw [h1]
  show IntKind.i64.wrap ((BitVec.ofInt 64 ((256 * x.toNat : Nat) : Int) ||| BitVec.ofInt 64 (b.toNat : Int)).toNat : Int) = _
  have e1 : (BitVec.ofInt 64 ((256 * x.toNat : Nat) : Int)).toNat = 256 * x.toNat := by rw [BitVec.toNat_ofInt]; omega
  have e2 : (BitVec.ofInt 64 (b.toNat : Int)).toNat = b.toNat := by rw [BitVec.toNat_ofInt]; omega
  rw [BitVec.toNat_or, e1, e2, or_nat]
  simp [IntKind.wrap, IntKind.bits, IntKind.signed]; omega
theorem slotAt_any (k : Nat) (hk : k ≤ 1000000) (w : World) : Calls Try.prog 77 #[.int .i64 k] w fun e w' => e = .returned (.int .i64 (8 + (k : Int) * 4)) ∧ w = w' := by
  have h0 : (0 : Int) ≤ (k : Int) := by omega
  have h1 : (k : Int) ≤ 1000000 := by omega
  go_enter Try.func77, Try.ntmps77
  go_wp2
  go_ret
  exact ⟨rfl, rfl⟩
set_option maxRecDepth 100000 in
theorem two_any (A : Option Addr) (n c B : Nat) (l : List UInt8) (i : Nat) (w : World) (hr : Reads w B 1 A n (bL l)) (hi : i + 1 < n) (hn : n ≤ 1000000) :
    Calls Try.prog 84 #[.slice A n c, .int .i64 i] w (RetB w (.int .i64 (two l i : Nat))) := by
  obtain ⟨ad, x, rfl, hb, hx, c0⟩ := hr.byte (k := i) (by omega)
  obtain ⟨ad', y, e, _, hy, c1⟩ := hr.byte (k := i + 1) (by omega)
  injection e with e
  subst e
  have ht : two l i = 256 * x.toNat + y.toNat := by unfold two; rw [List.getD_eq_getElem?_getD, List.getD_eq_getElem?_getD, hx, hy]; rfl
  have ho := or_i64 x y
  rw [← ht] at ho
  obtain ⟨V, hV⟩ : ∃ V, two l i = V := ⟨_, rfl⟩
  rw [hV] at ho ⊢
  have b3 : (x.toNat : Int) ≤ 255 := by have := x.toNat_lt; omega
  have b2 : (y.toNat : Int) ≤ 255 := by have := y.toNat_lt; omega
  have g0 : (0 : Int) ≤ (i : Int) := by omega
  have g1 : (i : Int) < (n : Int) := by omega
  have g2 : (i : Int) + 1 < (n : Int) := by omega
  have g3 : (n : Int) ≤ 1000000 := by omega
  have ea : ad.add (i + 1) = ⟨ad.block, ad.off + (i + 1), none⟩ := by unfold Addr.add; simp
  rw [ea] at c1
  have g4 : (0 : Int) ≤ (i : Int) + 1 := by omega
  clear ea
  have wr1 : IntKind.i64.wrap ((i : Int) + 1) = (i : Int) + 1 := IntWalk.i64_in _ (by omega)
  clear ht hV hx hy hr
  go_enter Try.func84, Try.ntmps84
  go_wp2_with fail
  go_region
  go_wp2
  go_ret
  exact ⟨rfl, (Below.refl _ _).drew⟩
end Go.Proofs.Ytcpbkaeilmabaaa
