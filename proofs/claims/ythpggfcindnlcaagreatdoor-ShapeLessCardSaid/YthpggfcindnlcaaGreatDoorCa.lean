
/-
  Contracts of calc: Add, Sub, Neg, Mul.
-/
import Derived.Test.YthpggfcindnlcaaGreatDoorRows
import Derived.Test.YthpggfcindnlcaaGreatDoorMem
import Derived.Test.YthpggfcindnlcaaGreatDoorShelf
import Derived.IntWalk
import Derived.WalkSpells
import Derived.WalkLawsBesides
set_option linter.unusedSimpArgs false
set_option linter.unusedVariables false
namespace Go.Proofs.YthpggfcindnlcaaGreatDoor
open Go.RowKit

theorem wrap_toInt (v : BitVec 64) : IntKind.i64.wrap (v.toNat : Int) = v.toInt := by
  have := v.isLt
  rw [BitVec.toInt_eq_toNat_cond]
  simp [IntKind.wrap, IntKind.signed, IntKind.bits]
  split <;> split <;> omega
theorem msb_of (a : Int) (h0 : -9223372036854775808 ≤ a) (h1 : a ≤ 9223372036854775807) : (BitVec.ofInt 64 a).msb = decide (a < 0) := by
  rw [BitVec.msb_eq_toInt, BitVec.toInt_ofInt]
  have : a.bmod (2 ^ 64) = a := by simp only [Int.bmod]; omega
  rw [this]
theorem bits_sign (a b c d : Int) (ha : -9223372036854775808 ≤ a ∧ a ≤ 9223372036854775807) (hb : -9223372036854775808 ≤ b ∧ b ≤ 9223372036854775807) (hc : -9223372036854775808 ≤ c ∧ c ≤ 9223372036854775807) (hd : -9223372036854775808 ≤ d ∧ d ≤ 9223372036854775807) :
    (bits .and .i64 (bits .xor .i64 a b) (bits .xor .i64 c d) < 0) ↔ (¬ (a < 0 ↔ b < 0) ∧ ¬ (c < 0 ↔ d < 0)) := by
  have e : ∀ x y : Int, bits .xor .i64 x y = (BitVec.ofInt 64 x ^^^ BitVec.ofInt 64 y).toInt := fun x y => wrap_toInt _
  have f : ∀ x y : Int, bits .and .i64 x y = (BitVec.ofInt 64 x &&& BitVec.ofInt 64 y).toInt := fun x y => wrap_toInt _
  rw [e, e, f, BitVec.ofInt_toInt, BitVec.ofInt_toInt]
  have g : ∀ v : BitVec 64, v.toInt < 0 ↔ v.msb = true := fun v => by rw [BitVec.msb_eq_toInt]; simp
  rw [g, BitVec.msb_and, BitVec.msb_xor, BitVec.msb_xor, msb_of a ha.1 ha.2, msb_of b hb.1 hb.2, msb_of c hc.1 hc.2, msb_of d hd.1 hd.2]
  by_cases h1 : a < 0 <;> by_cases h2 : b < 0 <;> by_cases h3 : c < 0 <;> by_cases h4 : d < 0 <;> simp [h1, h2, h3, h4]

theorem wrapu (n : Int) : IntKind.u64.wrap n = n % 18446744073709551616 := by
  simp [IntKind.wrap, IntKind.signed, IntKind.bits]
/-- A number, if it is right; else 0, and false. -/
def rngP (x : Int) : Prop := -9223372036854775808 ≤ x ∧ x ≤ 9223372036854775807
instance (x : Int) : Decidable (rngP x) := by unfold rngP; infer_instance
def numN (x : Int) : Int := if rngP x then x else 0
def numR (x : Int) : Value := .tuple #[.int .i64 (numN x), .bool (decide (rngP x))]
theorem numR_in {x : Int} (h : rngP x) : numR x = .tuple #[.int .i64 x, .bool true] := by simp [numR, numN, h]
theorem numR_out {x : Int} (h : ¬ rngP x) : numR x = .tuple #[.int .i64 0, .bool false] := by simp [numR, numN, h]
theorem numN_rng (x : Int) : rngP (numN x) := by
  unfold numN
  split
  · assumption
  · exact ⟨by omega, by omega⟩

theorem add_any (a b : Int) (w : World) (ha : rngP a) (hb : rngP b) :
    Calls Tryz.prog 111 #[.int .i64 a, .int .i64 b] w fun e w' => e = .returned (numR (a + b)) ∧ w = w' := by
  obtain ⟨ha0, ha1⟩ := ha
  obtain ⟨hb0, hb1⟩ := hb
  have hs := bits_sign a (wrap64 (a + b)) b (wrap64 (a + b)) ⟨ha0, ha1⟩ (by unfold wrap64; omega) ⟨hb0, hb1⟩ (by unfold wrap64; omega)
  by_cases h : rngP (a + b)
  · have hb := h
    obtain ⟨h0, h1⟩ := hb
    have e : wrap64 (a + b) = a + b := by unfold wrap64; omega
    rw [e] at hs
    have hn : ¬ bits .and .i64 (bits .xor .i64 a (a + b)) (bits .xor .i64 b (a + b)) < 0 := fun k => by
      have := hs.1 k
      omega
    clear hs e
    rw [numR_in h]
    clear h
    go_enter Tryz.func111, Tryz.ntmps111
    go_wp2
    go_ret2
    exact ⟨rfl, rfl⟩
  · have hn : bits .and .i64 (bits .xor .i64 a (wrap64 (a + b))) (bits .xor .i64 b (wrap64 (a + b))) < 0 := hs.2 (by unfold rngP at h; unfold wrap64; omega)
    clear hs
    rw [numR_out h]
    clear h
    go_enter Tryz.func111, Tryz.ntmps111
    go_wp2
    go_ret2
    exact ⟨rfl, rfl⟩
theorem sub_any (a b : Int) (w : World) (ha : rngP a) (hb : rngP b) :
    Calls Tryz.prog 110 #[.int .i64 a, .int .i64 b] w fun e w' => e = .returned (numR (a - b)) ∧ w = w' := by
  obtain ⟨ha0, ha1⟩ := ha
  obtain ⟨hb0, hb1⟩ := hb
  have hs := bits_sign a b a (wrap64 (a - b)) ⟨ha0, ha1⟩ ⟨hb0, hb1⟩ ⟨ha0, ha1⟩ (by unfold wrap64; omega)
  by_cases h : rngP (a - b)
  · have hb := h
    obtain ⟨h0, h1⟩ := hb
    have e : wrap64 (a - b) = a - b := by unfold wrap64; omega
    rw [e] at hs
    have hn : ¬ bits .and .i64 (bits .xor .i64 a b) (bits .xor .i64 a (a - b)) < 0 := fun k => by
      have := hs.1 k
      omega
    clear hs e
    rw [numR_in h]
    clear h
    go_enter Tryz.func110, Tryz.ntmps110
    go_wp2
    go_ret2
    exact ⟨rfl, rfl⟩
  · have hn : bits .and .i64 (bits .xor .i64 a b) (bits .xor .i64 a (wrap64 (a - b))) < 0 := hs.2 (by unfold rngP at h; unfold wrap64; omega)
    clear hs
    rw [numR_out h]
    clear h
    go_enter Tryz.func110, Tryz.ntmps110
    go_wp2
    go_ret2
    exact ⟨rfl, rfl⟩
theorem neg_any (a : Int) (w : World) (ha : rngP a) :
    Calls Tryz.prog 98 #[.int .i64 a] w fun e w' => e = .returned (numR (-a)) ∧ w = w' := by
  have c := sub_any 0 a w ⟨by omega, by omega⟩ ha
  have e : (0 : Int) - a = -a := by omega
  rw [e] at c
  have C := Lib.hid c
  obtain ⟨x, hx⟩ : ∃ x, numN (-a) = x := ⟨_, rfl⟩
  obtain ⟨y, hy⟩ : ∃ y, decide (rngP (-a)) = y := ⟨_, rfl⟩
  unfold numR at C ⊢
  rw [hx, hy] at C ⊢
  clear c e hx hy ha
  go_enter Tryz.func98, Tryz.ntmps98
  go_wp2_with (go_at_call 110; refine C.out.mono ?_; rintro e w' ⟨rfl, rfl⟩)
  go_ret2
  exact ⟨rfl, rfl⟩
theorem size_c (a : Int) (w : World) (ha : rngP a) :
    Calls Tryz.prog 121 #[.int .i64 a] w fun e w' => e = .returned (.int .u64 (a.natAbs : Nat)) ∧ w = w' := by
  obtain ⟨h0, h1⟩ := ha
  by_cases h : a < 0
  · go_enter Tryz.func121, Tryz.ntmps121
    go_wp2
    go_ret
    exact ⟨ret_int (by rw [wrapu, wrapu]; omega), rfl⟩
  · go_enter Tryz.func121, Tryz.ntmps121
    go_wp2
    go_ret
    exact ⟨ret_int (by omega), rfl⟩
end Go.Proofs.YthpggfcindnlcaaGreatDoor
