/-
  Several texts in one: Cb Cf Nk R1 By Ow R2.
-/
import Derived.Test.YtilopgfpifhccaaMte
import Derived.Test.YtilopgfpifhccaaMtf
import Derived.Test.YtilopgfpifhccaaMta
import Derived.Test.YtilopgfpifhccaaMtb
import Derived.Test.YtilopgfpifhccaaMtc
import Derived.Laws.Externs
import Derived.Deep.QuietTactic
import Derived.BigQuiet
import Derived.Lib.SlBytesRow
import Derived.Laws.CopyOwn
import Derived.ShutString
import Derived.Laws.Cells
import Derived.Laws.BytesString
import Derived.Test.YtilopgfpifhccaaProg
import Derived.Lib.AppendStr
import Derived.Deep.Onto
import Derived.Laws.MakeOwn
import Derived.WalkSpells
import Derived.WalkLawsBesides
/-
  Contracts of calc: Mul, Sum, Times at a small product; the chapter's examples.
-/
namespace Go.Proofs.Ytilopgfpifhccaa
section
set_option linter.unusedSimpArgs false
set_option linter.unusedVariables false
open Go.RowKit

theorem abs_lt {a : Int} (h : rngP a) : a.natAbs < 18446744073709551616 := by obtain ⟨h0, h1⟩ := h; omega
theorem prod_sign (a b : Int) : a * b = if (a < 0) ↔ (b < 0) then ((a.natAbs * b.natAbs : Nat) : Int) else -((a.natAbs * b.natAbs : Nat) : Int) := by
  rcases Int.natAbs_eq a with h | h <;> rcases Int.natAbs_eq b with k | k
  · by_cases ha : a < 0
    · omega
    · by_cases hb : b < 0
      · omega
      · simp only [ha, hb, iff_self, if_true]
        rw [h, k]; simp
  · by_cases hb : b < 0
    · by_cases ha : a < 0
      · omega
      · simp only [ha, hb, iff_true, if_false]
        rw [Int.natCast_mul, ← h]
        have : ((b.natAbs : Nat) : Int) = -b := by omega
        rw [this, Int.mul_neg, Int.neg_neg]
    · have : b = 0 := by omega
      subst this; simp
  · by_cases ha : a < 0
    · by_cases hb : b < 0
      · omega
      · simp only [ha, hb, true_iff, if_false]
        rw [Int.natCast_mul, ← k]
        have : ((a.natAbs : Nat) : Int) = -a := by omega
        rw [this, Int.neg_mul, Int.neg_neg]
    · have : a = 0 := by omega
      subst this; simp
  · have e1 : ((a.natAbs : Nat) : Int) = -a := by omega
    have e2 : ((b.natAbs : Nat) : Int) = -b := by omega
    rw [Int.natCast_mul, e1, e2, Int.neg_mul_neg]
    by_cases ha : a < 0 <;> by_cases hb : b < 0 <;> simp only [ha, hb, iff_self, if_true, iff_false, iff_true, not_true, if_false]
    · have : b = 0 := by omega
      subst this; simp
    · have : a = 0 := by omega
      subst this; simp

theorem wneg (L : Int) (h0 : 0 ≤ L) (h1 : L ≤ 9223372036854775808) : Ending.returned (.tuple #[.int .i64 (wrap64 (IntKind.u64.wrap (-L))), .bool true]) = .returned (.tuple #[.int .i64 (-L), .bool true]) := by
  have : wrap64 (IntKind.u64.wrap (-L)) = -L := by rw [wrapu]; unfold wrap64; omega
  rw [this]

set_option maxHeartbeats 400000 in
theorem mul_any (a b : Int) (w : World) (ha : rngP a) (hb : rngP b) :
    Calls Try.prog 74 #[.int .i64 a, .int .i64 b] w fun e w' => e = .returned (numR (a * b)) ∧ w = w' := by
  have m := Try.bits_Mul64 a.natAbs b.natAbs (abs_lt ha) (abs_lt hb)
  have p := prod_sign a b
  obtain ⟨P, hP⟩ : ∃ P, a.natAbs * b.natAbs = P := ⟨_, rfl⟩
  rw [hP] at m p
  have hh := Nat.div_add_mod P 18446744073709551616
  have hl := Nat.mod_lt P (by omega : 0 < 18446744073709551616)
  obtain ⟨H, hH⟩ : ∃ H, P / 18446744073709551616 = H := ⟨_, rfl⟩
  obtain ⟨L, hL⟩ : ∃ L, P % 18446744073709551616 = L := ⟨_, rfl⟩
  rw [hH, hL] at m hh
  rw [hL] at hl
  have c1 := size_c a w ha
  have c2 := size_c b w hb
  obtain ⟨x, hx⟩ : ∃ x, a.natAbs = x := ⟨_, rfl⟩
  obtain ⟨y, hy⟩ : ∃ y, b.natAbs = y := ⟨_, rfl⟩
  rw [hx] at c1 m
  rw [hy] at c2 m
  have M := Lib.hid m
  have C1 := Lib.hid c1
  have C2 := Lib.hid c2
  have key : ∀ r : Value, (if (a < 0 ↔ b < 0) then (if H = 0 ∧ L < 9223372036854775808 then r = .tuple #[.int .i64 L, .bool true] else r = .tuple #[.int .i64 0, .bool false]) else (if H = 0 ∧ L ≤ 9223372036854775808 then r = .tuple #[.int .i64 (-L), .bool true] else r = .tuple #[.int .i64 0, .bool false])) → r = numR (a * b) := by
    intro r hr
    rw [p]
    by_cases hs : (a < 0 ↔ b < 0)
    · rw [if_pos hs] at hr ⊢
      by_cases hc : H = 0 ∧ L < 9223372036854775808
      · rw [if_pos hc] at hr
        have : (P : Int) = L := by omega
        rw [hr, this, numR_in ⟨by omega, by omega⟩]
      · rw [if_neg hc] at hr
        rw [hr, numR_out]
        intro h
        have := h.2
        omega
    · rw [if_neg hs] at hr ⊢
      by_cases hc : H = 0 ∧ L ≤ 9223372036854775808
      · rw [if_pos hc] at hr
        have : (P : Int) = L := by omega
        rw [hr, this, numR_in ⟨by omega, by omega⟩]
      · rw [if_neg hc] at hr
        rw [hr, numR_out]
        intro h
        have := h.1
        omega
  obtain ⟨R, hR⟩ : ∃ R, numR (a * b) = R := ⟨_, rfl⟩
  rw [hR] at key ⊢
  have Key := Lib.hid key
  clear key m c1 c2 p hP hh hH hL hx hy hR ha hb
  have sgn : (a < 0 ∧ b < 0) ∨ (a < 0 ∧ ¬ b < 0) ∨ (¬ a < 0 ∧ b < 0) ∨ (¬ a < 0 ∧ ¬ b < 0) := by omega
  have cs : ¬ H = 0 ∨ (H = 0 ∧ 9223372036854775808 < L) ∨ (H = 0 ∧ L = 9223372036854775808) ∨ (H = 0 ∧ L < 9223372036854775808) := by omega
  rcases sgn with ⟨s1, s2⟩ | ⟨s1, s2⟩ | ⟨s1, s2⟩ | ⟨s1, s2⟩
  · have d1 : decide (a < 0) = true := by simpa using s1
    have d2 : decide (b < 0) = true := by simpa using s2
    rcases cs with c | ⟨rfl, c⟩ | ⟨rfl, rfl⟩ | ⟨rfl, c⟩
    · have hR := Key.out (.tuple #[.int .i64 0, .bool false]) (by rw [if_pos (by omega), if_neg (by omega)])
      rw [← hR]
      clear Key hR
      go_enter Try.func74, Try.ntmps74
      go_wp2_with (first
        | (go_at_call 77; first | ((with_reducible refine C1.out.mono ?_); rintro e w' ⟨rfl, rfl⟩) | ((with_reducible refine C2.out.mono ?_); rintro e w' ⟨rfl, rfl⟩))
        | (go_at_call 76; refine (M.out _).mono ?_; rintro e w' ⟨rfl, rfl⟩))
      go_ret2
      first | exact ⟨rfl, rfl⟩ | exact ⟨wneg _ (by omega) (by omega), rfl⟩
    · have hR := Key.out (.tuple #[.int .i64 0, .bool false]) (by rw [if_pos (by omega), if_neg (by omega)])
      rw [← hR]
      clear Key hR
      go_enter Try.func74, Try.ntmps74
      go_wp2_with (first
        | (go_at_call 77; first | ((with_reducible refine C1.out.mono ?_); rintro e w' ⟨rfl, rfl⟩) | ((with_reducible refine C2.out.mono ?_); rintro e w' ⟨rfl, rfl⟩))
        | (go_at_call 76; refine (M.out _).mono ?_; rintro e w' ⟨rfl, rfl⟩))
      go_ret2
      first | exact ⟨rfl, rfl⟩ | exact ⟨wneg _ (by omega) (by omega), rfl⟩
    · have hR := Key.out (.tuple #[.int .i64 0, .bool false]) (by rw [if_pos (by omega), if_neg (by omega)])
      rw [← hR]
      clear Key hR
      go_enter Try.func74, Try.ntmps74
      go_wp2_with (first
        | (go_at_call 77; first | ((with_reducible refine C1.out.mono ?_); rintro e w' ⟨rfl, rfl⟩) | ((with_reducible refine C2.out.mono ?_); rintro e w' ⟨rfl, rfl⟩))
        | (go_at_call 76; refine (M.out _).mono ?_; rintro e w' ⟨rfl, rfl⟩))
      go_ret2
      first | exact ⟨rfl, rfl⟩ | exact ⟨wneg _ (by omega) (by omega), rfl⟩
    · have hR := Key.out (.tuple #[.int .i64 L, .bool true]) (by rw [if_pos (by omega), if_pos (by omega)])
      rw [← hR]
      clear Key hR
      go_enter Try.func74, Try.ntmps74
      go_wp2_with (first
        | (go_at_call 77; first | ((with_reducible refine C1.out.mono ?_); rintro e w' ⟨rfl, rfl⟩) | ((with_reducible refine C2.out.mono ?_); rintro e w' ⟨rfl, rfl⟩))
        | (go_at_call 76; refine (M.out _).mono ?_; rintro e w' ⟨rfl, rfl⟩))
      go_ret2
      first | exact ⟨rfl, rfl⟩ | exact ⟨wneg _ (by omega) (by omega), rfl⟩
  · have d1 : decide (a < 0) = true := by simpa using s1
    have d2 : decide (b < 0) = false := by simpa using s2
    rcases cs with c | ⟨rfl, c⟩ | ⟨rfl, rfl⟩ | ⟨rfl, c⟩
    · have hR := Key.out (.tuple #[.int .i64 0, .bool false]) (by rw [if_neg (by omega), if_neg (by omega)])
      rw [← hR]
      clear Key hR
      go_enter Try.func74, Try.ntmps74
      go_wp2_with (first
        | (go_at_call 77; first | ((with_reducible refine C1.out.mono ?_); rintro e w' ⟨rfl, rfl⟩) | ((with_reducible refine C2.out.mono ?_); rintro e w' ⟨rfl, rfl⟩))
        | (go_at_call 76; refine (M.out _).mono ?_; rintro e w' ⟨rfl, rfl⟩))
      go_ret2
      first | exact ⟨rfl, rfl⟩ | exact ⟨wneg _ (by omega) (by omega), rfl⟩
    · have hR := Key.out (.tuple #[.int .i64 0, .bool false]) (by rw [if_neg (by omega), if_neg (by omega)])
      rw [← hR]
      clear Key hR
      go_enter Try.func74, Try.ntmps74
      go_wp2_with (first
        | (go_at_call 77; first | ((with_reducible refine C1.out.mono ?_); rintro e w' ⟨rfl, rfl⟩) | ((with_reducible refine C2.out.mono ?_); rintro e w' ⟨rfl, rfl⟩))
        | (go_at_call 76; refine (M.out _).mono ?_; rintro e w' ⟨rfl, rfl⟩))
      go_ret2
      first | exact ⟨rfl, rfl⟩ | exact ⟨wneg _ (by omega) (by omega), rfl⟩
    · have hR := Key.out (.tuple #[.int .i64 (-9223372036854775808), .bool true]) (by rw [if_neg (by omega), if_pos (by omega)]; rfl)
      rw [← hR]
      clear Key hR
      go_enter Try.func74, Try.ntmps74
      go_wp2_with (first
        | (go_at_call 77; first | ((with_reducible refine C1.out.mono ?_); rintro e w' ⟨rfl, rfl⟩) | ((with_reducible refine C2.out.mono ?_); rintro e w' ⟨rfl, rfl⟩))
        | (go_at_call 76; refine (M.out _).mono ?_; rintro e w' ⟨rfl, rfl⟩))
      go_ret2
      first | exact ⟨rfl, rfl⟩ | exact ⟨wneg _ (by omega) (by omega), rfl⟩
    · have hR := Key.out (.tuple #[.int .i64 (-L), .bool true]) (by rw [if_neg (by omega), if_pos (by omega)])
      rw [← hR]
      clear Key hR
      go_enter Try.func74, Try.ntmps74
      go_wp2_with (first
        | (go_at_call 77; first | ((with_reducible refine C1.out.mono ?_); rintro e w' ⟨rfl, rfl⟩) | ((with_reducible refine C2.out.mono ?_); rintro e w' ⟨rfl, rfl⟩))
        | (go_at_call 76; refine (M.out _).mono ?_; rintro e w' ⟨rfl, rfl⟩))
      go_ret2
      first | exact ⟨rfl, rfl⟩ | exact ⟨wneg _ (by omega) (by omega), rfl⟩
  · have d1 : decide (a < 0) = false := by simpa using s1
    have d2 : decide (b < 0) = true := by simpa using s2
    rcases cs with c | ⟨rfl, c⟩ | ⟨rfl, rfl⟩ | ⟨rfl, c⟩
    · have hR := Key.out (.tuple #[.int .i64 0, .bool false]) (by rw [if_neg (by omega), if_neg (by omega)])
      rw [← hR]
      clear Key hR
      go_enter Try.func74, Try.ntmps74
      go_wp2_with (first
        | (go_at_call 77; first | ((with_reducible refine C1.out.mono ?_); rintro e w' ⟨rfl, rfl⟩) | ((with_reducible refine C2.out.mono ?_); rintro e w' ⟨rfl, rfl⟩))
        | (go_at_call 76; refine (M.out _).mono ?_; rintro e w' ⟨rfl, rfl⟩))
      go_ret2
      first | exact ⟨rfl, rfl⟩ | exact ⟨wneg _ (by omega) (by omega), rfl⟩
    · have hR := Key.out (.tuple #[.int .i64 0, .bool false]) (by rw [if_neg (by omega), if_neg (by omega)])
      rw [← hR]
      clear Key hR
      go_enter Try.func74, Try.ntmps74
      go_wp2_with (first
        | (go_at_call 77; first | ((with_reducible refine C1.out.mono ?_); rintro e w' ⟨rfl, rfl⟩) | ((with_reducible refine C2.out.mono ?_); rintro e w' ⟨rfl, rfl⟩))
        | (go_at_call 76; refine (M.out _).mono ?_; rintro e w' ⟨rfl, rfl⟩))
      go_ret2
      first | exact ⟨rfl, rfl⟩ | exact ⟨wneg _ (by omega) (by omega), rfl⟩
    · have hR := Key.out (.tuple #[.int .i64 (-9223372036854775808), .bool true]) (by rw [if_neg (by omega), if_pos (by omega)]; rfl)
      rw [← hR]
      clear Key hR
      go_enter Try.func74, Try.ntmps74
      go_wp2_with (first
        | (go_at_call 77; first | ((with_reducible refine C1.out.mono ?_); rintro e w' ⟨rfl, rfl⟩) | ((with_reducible refine C2.out.mono ?_); rintro e w' ⟨rfl, rfl⟩))
        | (go_at_call 76; refine (M.out _).mono ?_; rintro e w' ⟨rfl, rfl⟩))
      go_ret2
      first | exact ⟨rfl, rfl⟩ | exact ⟨wneg _ (by omega) (by omega), rfl⟩
    · have hR := Key.out (.tuple #[.int .i64 (-L), .bool true]) (by rw [if_neg (by omega), if_pos (by omega)])
      rw [← hR]
      clear Key hR
      go_enter Try.func74, Try.ntmps74
      go_wp2_with (first
        | (go_at_call 77; first | ((with_reducible refine C1.out.mono ?_); rintro e w' ⟨rfl, rfl⟩) | ((with_reducible refine C2.out.mono ?_); rintro e w' ⟨rfl, rfl⟩))
        | (go_at_call 76; refine (M.out _).mono ?_; rintro e w' ⟨rfl, rfl⟩))
      go_ret2
      first | exact ⟨rfl, rfl⟩ | exact ⟨wneg _ (by omega) (by omega), rfl⟩
  · have d1 : decide (a < 0) = false := by simpa using s1
    have d2 : decide (b < 0) = false := by simpa using s2
    rcases cs with c | ⟨rfl, c⟩ | ⟨rfl, rfl⟩ | ⟨rfl, c⟩
    · have hR := Key.out (.tuple #[.int .i64 0, .bool false]) (by rw [if_pos (by omega), if_neg (by omega)])
      rw [← hR]
      clear Key hR
      go_enter Try.func74, Try.ntmps74
      go_wp2_with (first
        | (go_at_call 77; first | ((with_reducible refine C1.out.mono ?_); rintro e w' ⟨rfl, rfl⟩) | ((with_reducible refine C2.out.mono ?_); rintro e w' ⟨rfl, rfl⟩))
        | (go_at_call 76; refine (M.out _).mono ?_; rintro e w' ⟨rfl, rfl⟩))
      go_ret2
      first | exact ⟨rfl, rfl⟩ | exact ⟨wneg _ (by omega) (by omega), rfl⟩
    · have hR := Key.out (.tuple #[.int .i64 0, .bool false]) (by rw [if_pos (by omega), if_neg (by omega)])
      rw [← hR]
      clear Key hR
      go_enter Try.func74, Try.ntmps74
      go_wp2_with (first
        | (go_at_call 77; first | ((with_reducible refine C1.out.mono ?_); rintro e w' ⟨rfl, rfl⟩) | ((with_reducible refine C2.out.mono ?_); rintro e w' ⟨rfl, rfl⟩))
        | (go_at_call 76; refine (M.out _).mono ?_; rintro e w' ⟨rfl, rfl⟩))
      go_ret2
      first | exact ⟨rfl, rfl⟩ | exact ⟨wneg _ (by omega) (by omega), rfl⟩
    · have hR := Key.out (.tuple #[.int .i64 0, .bool false]) (by rw [if_pos (by omega), if_neg (by omega)])
      rw [← hR]
      clear Key hR
      go_enter Try.func74, Try.ntmps74
      go_wp2_with (first
        | (go_at_call 77; first | ((with_reducible refine C1.out.mono ?_); rintro e w' ⟨rfl, rfl⟩) | ((with_reducible refine C2.out.mono ?_); rintro e w' ⟨rfl, rfl⟩))
        | (go_at_call 76; refine (M.out _).mono ?_; rintro e w' ⟨rfl, rfl⟩))
      go_ret2
      first | exact ⟨rfl, rfl⟩ | exact ⟨wneg _ (by omega) (by omega), rfl⟩
    · have hR := Key.out (.tuple #[.int .i64 L, .bool true]) (by rw [if_pos (by omega), if_pos (by omega)])
      rw [← hR]
      clear Key hR
      go_enter Try.func74, Try.ntmps74
      go_wp2_with (first
        | (go_at_call 77; first | ((with_reducible refine C1.out.mono ?_); rintro e w' ⟨rfl, rfl⟩) | ((with_reducible refine C2.out.mono ?_); rintro e w' ⟨rfl, rfl⟩))
        | (go_at_call 76; refine (M.out _).mono ?_; rintro e w' ⟨rfl, rfl⟩))
      go_ret2
      first | exact ⟨rfl, rfl⟩ | exact ⟨wneg _ (by omega) (by omega), rfl⟩

theorem sum_take {l : List Int} {k : Nat} {x : Int} (h : l[k]? = some x) : (l.take (k + 1)).sum = (l.take k).sum + x := by
  rw [List.take_add_one, h]; simp
theorem sum_bd (l : List Int) (h : ∀ x ∈ l, rngP x) : -9223372036854775808 * (l.length : Int) ≤ l.sum ∧ l.sum ≤ 9223372036854775807 * (l.length : Int) := by
  induction l with
  | nil => simp
  | cons x r ih =>
    obtain ⟨h1, h2⟩ := ih fun y hy => h y (by simp [hy])
    obtain ⟨h3, h4⟩ := h x (by simp)
    rw [List.sum_cons, List.length_cons]
    omega
end
end Go.Proofs.Ytilopgfpifhccaa
/-
  Contracts of calc: Times where the product has one word; the chapter's examples.
-/
namespace Go.Proofs.Ytilopgfpifhccaa
section
open Go.RowKit

theorem two_ints {k k' : IntKind} {a b a' b' : Int} (h : a = a') (g : b = b') : Ending.returned (.tuple #[.int k a, .int k' b]) = .returned (.tuple #[.int k a', .int k' b']) := by rw [h, g]
theorem add_over (w : World) : Calls Try.prog 73 #[.int .i64 9223372036854775807, .int .i64 1] w fun e w' => e = .returned (.tuple #[.int .i64 0, .bool false]) ∧ w = w' :=
  add_any 9223372036854775807 1 w ⟨by omega, by omega⟩ ⟨by omega, by omega⟩
end
end Go.Proofs.Ytilopgfpifhccaa
/-
  Contracts of an operation of two values: the program's.
-/
namespace Go.Proofs.Ytilopgfpifhccaa
section
open Go.RowKit

def opN (o : List UInt8) (x y : Int) : Int := if o == [43] then numN (x + y) else if o == [45] then numN (x - y) else if o == [42] then numN (x * y) else 0
def opQ (o : List UInt8) (x y : Int) : Bool := if o == [43] then decide (rngP (x + y)) else if o == [45] then decide (rngP (x - y)) else if o == [42] then decide (rngP (x * y)) else false
def opIs (o : List UInt8) : Bool := o == [43] || o == [45] || o == [42]
def zV : Vl := ⟨0, 0, ⟨#[]⟩⟩
/-- What an operation makes of two values. -/
def doV (o : List UInt8) (a b : Vl) : Vl × Bool :=
  if 1 < a.k ∨ 1 < b.k then (zV, false) else if a.k = 0 ∨ b.k = 0 then (zV, opIs o) else if opQ o a.i b.i then (⟨1, opN o a.i b.i, ⟨#[]⟩⟩, true) else (zV, false)

set_option maxHeartbeats 1000000 in
theorem do_any (op : ByteArray) (x y : Int) (hx : rngP x) (hy : rngP y) (w : World) :
    Calls Try.prog 70 #[.string op, .int .i64 x, .int .i64 y] w fun e w' => e = .returned (.tuple #[.int .i64 (opN op.toList x y), .bool (opQ op.toList x y)]) ∧ w = w' := by
  have C1 := Lib.hid fun W => add_any x y W hx hy
  have C2 := Lib.hid fun W => sub_any x y W hx hy
  have C3 := Lib.hid fun W => mul_any x y W hx hy
  unfold opN opQ
  clear hx hy
  cases h1 : op.toList == [43]
  · cases h2 : op.toList == [45]
    · cases h3 : op.toList == [42]
      · go_enter Try.func70, Try.ntmps70
        go_wp2_with fail
        go_ret2
        exact ⟨rfl, rfl⟩
      · unfold numR at C3
        generalize numN (x * y) = n at *
        generalize decide (rngP (x * y)) = q at *
        go_enter Try.func70, Try.ntmps70
        go_wp2_with (go_at_call 74; refine (C3.out _).mono ?_; rintro e w' ⟨rfl, rfl⟩)
        go_ret2
        exact ⟨rfl, rfl⟩
    · unfold numR at C2
      generalize numN (x - y) = n at *
      generalize decide (rngP (x - y)) = q at *
      go_enter Try.func70, Try.ntmps70
      go_wp2_with (go_at_call 72; refine (C2.out _).mono ?_; rintro e w' ⟨rfl, rfl⟩)
      go_ret2
      exact ⟨rfl, rfl⟩
  · unfold numR at C1
    generalize numN (x + y) = n at *
    generalize decide (rngP (x + y)) = q at *
    go_enter Try.func70, Try.ntmps70
    go_wp2_with (go_at_call 73; refine (C1.out _).mono ?_; rintro e w' ⟨rfl, rfl⟩)
    go_ret2
    exact ⟨rfl, rfl⟩

theorem opN_rng (o : List UInt8) (x y : Int) : rngP (opN o x y) := by
  unfold opN
  split
  · exact numN_rng _
  · split
    · exact numN_rng _
    · split
      · exact numN_rng _
      · exact ⟨by omega, by omega⟩

set_option maxHeartbeats 4000000 in
theorem cdo_any (op : ByteArray) (a b : Vl) (ha : a.ok) (hb : b.ok) (w : World) :
    Calls Try.prog 63 #[.string op, a.agg, b.agg] w (RetB w (.tuple #[(doV op.toList a b).1.agg, .bool (doV op.toList a b).2])) := by
  obtain ⟨k, i, s⟩ := a
  obtain ⟨k', j, t⟩ := b
  obtain ⟨ak, ai, as'⟩ := ha
  obtain ⟨bk, bi, bs'⟩ := hb
  simp only at ak ai bk bi
  obtain ⟨ak0, ak1⟩ := ak
  obtain ⟨bk0, bk1⟩ := bk
  have D := Lib.hid fun W => do_any op i j ai bi W
  have hrg := opN_rng op.toList i j
  unfold doV opIs
  simp only [Vl.agg]
  generalize opN op.toList i j = n at *
  generalize opQ op.toList i j = q at *
  clear ai bi as' bs' hrg
  have hk : k = 0 ∨ k = 1 ∨ 1 < k := by omega
  have hk' : k' = 0 ∨ k' = 1 ∨ 1 < k' := by omega
  rcases hk with rfl | rfl | hk
  rotate_left 2
  · have m0 : (k != 0) = true := by simp; omega
    have m1 : (k != 1) = true := by simp; omega
    rw [if_pos (.inl hk)]
    go_enter Try.func63, Try.ntmps63
    go_wp2_with fail
    refine bodyPost_ret (v := .tuple #[zV.agg, .bool false]) (by simp [results, Try.results63, go_sem, zV, Vl.agg]) rfl ⟨rfl, ball (ball (ball (Below.refl _ _) _) _) _⟩
  all_goals rcases hk' with rfl | rfl | hk'
  · rw [if_neg (by show ¬ ((1 : Int) < 0 ∨ (1 : Int) < 0); omega), if_pos (by show (0 : Int) = 0 ∨ (0 : Int) = 0; omega)]
    generalize h1 : (op.toList == [43]) = b1
    generalize h2 : (op.toList == [45]) = b2
    generalize h3 : (op.toList == [42]) = b3
    cases b1 <;> cases b2 <;> cases b3
    all_goals
      go_enter Try.func63, Try.ntmps63
      go_wp2_with (go_at_call 70; refine (D.out _).mono ?_; rintro e w' ⟨rfl, rfl⟩)
      first | (refine bodyPost_ret (v := .tuple #[zV.agg, .bool true]) (by simp [results, Try.results63, go_sem, zV, Vl.agg]) rfl ⟨rfl, ball (ball (ball (Below.refl _ _) _) _) _⟩) | (refine bodyPost_ret (v := .tuple #[zV.agg, .bool false]) (by simp [results, Try.results63, go_sem, zV, Vl.agg]) rfl ⟨rfl, ball (ball (ball (Below.refl _ _) _) _) _⟩)
  · rw [if_neg (by show ¬ ((1 : Int) < 0 ∨ (1 : Int) < 1); omega), if_pos (by show (0 : Int) = 0 ∨ (1 : Int) = 0; omega)]
    generalize h1 : (op.toList == [43]) = b1
    generalize h2 : (op.toList == [45]) = b2
    generalize h3 : (op.toList == [42]) = b3
    cases b1 <;> cases b2 <;> cases b3
    all_goals
      go_enter Try.func63, Try.ntmps63
      go_wp2_with (go_at_call 70; refine (D.out _).mono ?_; rintro e w' ⟨rfl, rfl⟩)
      first | (refine bodyPost_ret (v := .tuple #[zV.agg, .bool true]) (by simp [results, Try.results63, go_sem, zV, Vl.agg]) rfl ⟨rfl, ball (ball (ball (Below.refl _ _) _) _) _⟩) | (refine bodyPost_ret (v := .tuple #[zV.agg, .bool false]) (by simp [results, Try.results63, go_sem, zV, Vl.agg]) rfl ⟨rfl, ball (ball (ball (Below.refl _ _) _) _) _⟩)
  · have m0 : (k' != 0) = true := by simp; omega
    have m1 : (k' != 1) = true := by simp; omega
    rw [if_pos (.inr hk')]
    go_enter Try.func63, Try.ntmps63
    go_wp2_with (go_at_call 70; refine (D.out _).mono ?_; rintro e w' ⟨rfl, rfl⟩)
    refine bodyPost_ret (v := .tuple #[zV.agg, .bool false]) (by simp [results, Try.results63, go_sem, zV, Vl.agg]) rfl ⟨rfl, ball (ball (ball (Below.refl _ _) _) _) _⟩
  · rw [if_neg (by show ¬ ((1 : Int) < 1 ∨ (1 : Int) < 0); omega), if_pos (by show (1 : Int) = 0 ∨ (0 : Int) = 0; omega)]
    generalize h1 : (op.toList == [43]) = b1
    generalize h2 : (op.toList == [45]) = b2
    generalize h3 : (op.toList == [42]) = b3
    cases b1 <;> cases b2 <;> cases b3
    all_goals
      go_enter Try.func63, Try.ntmps63
      go_wp2_with (go_at_call 70; refine (D.out _).mono ?_; rintro e w' ⟨rfl, rfl⟩)
      first | (refine bodyPost_ret (v := .tuple #[zV.agg, .bool true]) (by simp [results, Try.results63, go_sem, zV, Vl.agg]) rfl ⟨rfl, ball (ball (ball (Below.refl _ _) _) _) _⟩) | (refine bodyPost_ret (v := .tuple #[zV.agg, .bool false]) (by simp [results, Try.results63, go_sem, zV, Vl.agg]) rfl ⟨rfl, ball (ball (ball (Below.refl _ _) _) _) _⟩)
  · rw [if_neg (by show ¬ ((1 : Int) < 1 ∨ (1 : Int) < 1); omega), if_neg (by show ¬ ((1 : Int) = 0 ∨ (1 : Int) = 0); omega)]
    cases q
    · rw [if_neg (by simp)]
      go_enter Try.func63, Try.ntmps63
      go_wp2_with (go_at_call 70; refine (D.out _).mono ?_; rintro e w' ⟨rfl, rfl⟩)
      refine bodyPost_ret (v := .tuple #[zV.agg, .bool false]) (by simp [results, Try.results63, go_sem, zV, Vl.agg]) rfl ⟨rfl, ball (ball (ball (Below.refl _ _) _) _) _⟩
    · rw [if_pos rfl]
      go_enter Try.func63, Try.ntmps63
      go_wp2_with (go_at_call 70; refine (D.out _).mono ?_; rintro e w' ⟨rfl, rfl⟩)
      refine bodyPost_ret (v := .tuple #[.agg #[.int .u8 1, .int .i64 n, .string ⟨#[]⟩], .bool true]) (by simp [results, Try.results63, go_sem]) rfl ⟨rfl, ball (ball (ball (Below.refl _ _) _) _) _⟩
  · have m0 : (k' != 0) = true := by simp; omega
    have m1 : (k' != 1) = true := by simp; omega
    rw [if_pos (.inr hk')]
    go_enter Try.func63, Try.ntmps63
    go_wp2_with (go_at_call 70; refine (D.out _).mono ?_; rintro e w' ⟨rfl, rfl⟩)
    refine bodyPost_ret (v := .tuple #[zV.agg, .bool false]) (by simp [results, Try.results63, go_sem, zV, Vl.agg]) rfl ⟨rfl, ball (ball (ball (Below.refl _ _) _) _) _⟩
end
end Go.Proofs.Ytilopgfpifhccaa
/-
  What terms come to (plain).
-/
namespace Go.Proofs.Ytilopgfpifhccaa
section
set_option linter.unusedSimpArgs false
set_option linter.unusedVariables false
open Go.RowKit

/-- A truth as a value, unless it is an error. -/
def valT (t : Int) : Option Vl := if tok t then some (tv t) else none
/-- The truth of what a term comes to. -/
def truO : Option Vl → Int
  | none => 2
  | some v => ofV v
def atO (l : List Vl) (n : Int) : Option Vl := if n < 0 then none else l[n.toNat]?
def atR (rows : List (List Vl)) (i k : Int) : Option Vl := if i < 0 then none else match rows[i.toNat]? with
  | none => none
  | some r => atO r k
def turnO (v : Vl) : Option Vl := if v.k = 0 then some v else if v.k = 1 ∧ rngP (-v.i) then some ⟨1, -v.i, ⟨#[]⟩⟩ else none
def doO (op : List UInt8) (a b : Vl) : Option Vl := if (doV op a b).2 then some (doV op a b).1 else none
/-- How two values stand, unless one is wrong. -/
def cmpO (op : ByteArray) (a b : Option Vl) : Int := match a, b with
  | some x, some y => testV op x y
  | _, _ => 2
def wNot : List UInt8 := [78, 79, 84]
def wAnd : List UInt8 := [65, 78, 68]
def wOr : List UInt8 := [79, 82]
def isArith (op : List UInt8) : Prop := op = [43] ∨ op = [45] ∨ op = [42]
def isCmp (op : List UInt8) : Prop := op = [61] ∨ op = [60, 62] ∨ op = [60] ∨ op = [60, 61] ∨ op = [62] ∨ op = [62, 61]
instance (op : List UInt8) : Decidable (isArith op) := by unfold isArith; infer_instance
instance (op : List UInt8) : Decidable (isCmp op) := by unfold isCmp; infer_instance
def oneK (op : List UInt8) (a : Option Vl) : Option Vl :=
  if op = wNot then valT (nt (truO a)) else if op = [45] then a.bind turnO else none
def conK (op : ByteArray) (a b : Option Vl) : Int :=
  if op.toList = wAnd then andL [truO a, truO b] else if op.toList = wOr then orL [truO a, truO b] else if isCmp op.toList then cmpO op a b else 2
def twoK (op : ByteArray) (a b : Option Vl) : Option Vl :=
  if op.toList = wNot then none else if isArith op.toList then (match a, b with
    | some x, some y => doO op.toList x y
    | _, _ => none) else valT (conK op a b)
def nullK (no : Bool) : Option Vl → Option Vl
  | none => none
  | some v => valT (if no then nt (if v.k = 0 then 3 else 0) else (if v.k = 0 then 3 else 0))
def inK (no : Bool) (a : Option Vl) (l : List (Option Vl)) : Option Vl :=
  valT (if no then nt (orL (l.map (cmpO ⟨#[61]⟩ a))) else orL (l.map (cmpO ⟨#[61]⟩ a)))
def evK (rows : List (List Vl)) (tot : List Vl) (h : TmH) (l : List (Option Vl)) : Option Vl :=
  if h.k = 1 then some h.v else if h.k = 2 then atR rows h.tb h.cl else if h.k = 7 then atO tot h.cl else
  if h.k = 3 then (match l with | [a] => oneK h.op.toList a | _ => none) else
  if h.k = 4 then (match l with | [a, b] => twoK h.op a b | _ => none) else
  if h.k = 5 then (match l with | [a] => nullK h.no a | _ => none) else
  if h.k = 6 then (match l with | a :: r => inK h.no a r | _ => none) else none
def evT (rows : List (List Vl)) (tot : List Vl) : Nat → Tm → Option Vl
  | 0, _ => none
  | f + 1, .mk h _ _ _ args => evK rows tot h (args.map (evT rows tot f))
theorem evT_succ (rows : List (List Vl)) (tot : List Vl) (f : Nat) (h : TmH) (A : Option Addr) (n c : Nat) (args : List Tm) : evT rows tot (f + 1) (.mk h A n c args) = evK rows tot h (args.map (evT rows tot f)) := rfl
theorem truO_bd (o : Option Vl) : 0 ≤ truO o ∧ truO o ≤ 3 := by
  cases o with
  | none => exact ⟨by decide, by decide⟩
  | some v => exact ofV_bd v
end
end Go.Proofs.Ytilopgfpifhccaa
/-
  Bytes in memory and as strings: lists of bytes, a block of bytes, a string made of it.
-/
namespace Go.Proofs.Ytilopgfpifhccaa
section
open Go.RowKit

def bL (l : List UInt8) : List Value := l.map fun x => Value.int .u8 (x.toNat : Int)
def bV (l : List UInt8) : Array Value := (bL l).toArray
def str (l : List UInt8) : ByteArray := ⟨l.toArray⟩
theorem bL_len (l : List UInt8) : (bL l).length = l.length := by simp [bL]
theorem bV_size (l : List UInt8) : (bV l).size = l.length := by simp [bV, bL_len]
theorem bV_toList (l : List UInt8) : (bV l).toList = bL l := by simp [bV]
theorem bL_one (l : List UInt8) : ∀ u ∈ bL l, u.oneCell' = true := by
  intro u hu
  obtain ⟨x, _, rfl⟩ := List.mem_map.1 hu
  rfl
theorem bL_at {l : List UInt8} {i : Nat} {x : UInt8} (h : l[i]? = some x) : (bL l)[i]? = some (.int .u8 (x.toNat : Int)) := by simp [bL, h]
theorem bV_at {l : List UInt8} {i : Nat} {x : UInt8} (h : l[i]? = some x) : (bV l)[i]? = some (.int .u8 (x.toNat : Int)) := by simp [bV, bL, h]
theorem str_size (l : List UInt8) : (str l).size = l.length := by simp [str, ByteArray.size]
theorem str_data (l : List UInt8) : (str l).data.toList = l := by simp [str]
theorem str_of (s : ByteArray) : str s.data.toList = s := by cases s; simp [str]
theorem str_toList (l : List UInt8) : (str l).toList = l := by rw [ByteArray.toList_eq, str_data]
theorem str_at (l : List UInt8) (i : Nat) (h : i < (str l).size) : l[i]? = some ((str l)[i]) := by
  have h' : i < l.length := by rwa [str_size] at h
  rw [List.getElem?_eq_getElem h']
  rfl
theorem beq_str (a b : List UInt8) : ((str a).toList == (str b).toList) = decide (a = b) := by
  rw [str_toList, str_toList]
  by_cases h : a = b <;> simp [h]
theorem bytes_of_blk {w : World} {g : Nat} {t : TypeId} {l : List UInt8} (h : Blk w g t (bV l)) : Lib.Bytes w g 0 (str l) := by
  intro i hi
  rw [Nat.zero_add, h.cell i]
  exact bV_at (str_at l i hi)
theorem bytes_of_reads {w : World} {B : Nat} {ad : Addr} {n : Nat} {l : List UInt8} (h : Reads w B 1 (some ad) n (bL l)) (hn : ad.spot = none) : Lib.Bytes w ad.block ad.off (str l) := by
  intro i hi
  rw [str_size] at hi
  have hl : l.length = n := by have := h.1; rw [bL_len] at this; omega
  obtain ⟨ad', e, _, hc⟩ := h.2 (by omega)
  injection e with e
  subst e
  have h1 := hc i _ (bL_at (str_at l i (by rwa [str_size])))
  obtain ⟨b, o, p⟩ := ad
  simp only at hn
  subst hn
  have : (⟨b, o, none⟩ : Addr).add i = ⟨b, o + i, none⟩ := by unfold Addr.add; split <;> simp_all
  rw [this] at h1
  exact h1
theorem conv_blk {P : Program} {w : World} {g : Nat} {t : TypeId} {l : List UInt8} (h : Blk w g t (bV l)) (src e dst : TypeId) (hs : P.underlying src = some (.slice e)) (he : P.underlying e = some (.int .u8)) (hd : P.underlying dst = some .string) (n cap : Nat) (hn : l.length = n) :
    (convert src dst (.slice (some ⟨g, 0, none⟩) n cap)).run P w = .ok (.string (str l)) w := by
  subst hn
  have := Lib.run_convert_whole (P := P) w src e dst hs he hd g 0 (str l) (bytes_of_blk h) cap
  rwa [str_size] at this
theorem foldl_push (l : List UInt8) : ∀ s : ByteArray, (l.map fun x => (x.toNat : Int)).foldl (fun r n => r.push (UInt8.ofNat n.toNat)) s = ⟨s.data ++ l.toArray⟩ := by
  induction l with
  | nil => intro s; simp
  | cons x r ih =>
    intro s
    simp only [List.map_cons, List.foldl_cons, ih]
    simp [ByteArray.push]
theorem conv_reads {P : Program} {w : World} {B : Nat} {A : Option Addr} {n : Nat} {l : List UInt8} (h : Reads w B 1 A n (bL l)) (src e dst : TypeId) (hs : P.underlying src = some (.slice e)) (he : P.underlying e = some (.int .u8)) (hd : P.underlying dst = some .string) (cap : Nat) :
    (convert src dst (.slice A n cap)).run P w = .ok (.string (str l)) w := by
  have hl : l.length = n := by have := h.1; rw [bL_len] at this; omega
  rw [run_convert_bytes_string w src dst e A n cap hs he hd]
  have key : ∀ a : Addr, A = some a → (Conv.bytesToString (.slice (some a) n cap)).run P w = .ok (.string (str l)) w := by
    intro a ha
    have hcell : ∀ j v, (bL l)[j]? = some v → w.cell? (a.add j) = some v := by
      intro j v hv
      have hj : j < (bL l).length := lt_of_at hv
      rw [bL_len] at hj
      obtain ⟨ad, e', _, hc⟩ := h.2 (by omega)
      rw [ha] at e'
      injection e' with e'
      subst e'
      exact hc j v hv
    have h1 := run_loadCells_list (P := P) w a (bL l) hcell
    rw [bL_len, hl] at h1
    have h2 := run_bytesToString (P := P) w a n cap (l.map fun x => (x.toNat : Int)) (by rw [h1]; simp [bL, Function.comp_def])
    rw [h2, foldl_push]
    simp [str, ByteArray.empty, ByteArray.emptyWithCapacity]
    rfl
  rcases A with _ | a
  · have hn : n = 0 := by
      rcases Nat.eq_zero_or_pos n with h0 | h0
      · exact h0
      · obtain ⟨ad, e', _⟩ := h.2 h0; cases e'
    subst hn
    have : l = [] := List.eq_nil_of_length_eq_zero hl
    subst this
    simp [Conv.bytesToString, str]
    rfl
  · exact key a rfl
theorem extract_str (l : List UInt8) (i j : Nat) : (str l).extract i j = str ((l.drop i).take (j - i)) := by
  apply ByteArray.ext
  apply Array.toList_inj.1
  rw [Lib.extract_data, str_data, str_data]
section
variable {P : Program} {t : TypeId} (hu : P.underlying t = some .string)
include hu
theorem cut_mid (l r : List UInt8) (k k' : IntKind) (i j : Int) (h0 : 0 ≤ i) (h1 : i ≤ j) (h2 : j ≤ l.length) (hr : (l.drop i.toNat).take (j.toNat - i.toNat) = r) (W : World) :
    (Instr.slice t (.string (str l)) (some (.int k i)) (some (.int k' j)) none).run P W = .ok (.string (str r)) W := by
  rw [run_slice_string W t (str l) k k' i j hu h0 h1 (by rw [str_size]; exact h2), extract_str, hr]
theorem cut_hi (l r : List UInt8) (k : IntKind) (j : Int) (h1 : 0 ≤ j) (h2 : j ≤ l.length) (hr : l.take j.toNat = r) (W : World) :
    (Instr.slice t (.string (str l)) none (some (.int k j)) none).run P W = .ok (.string (str r)) W := by
  rw [run_slice_string_h W t (str l) hu k j h1 (by rw [str_size]; exact h2), extract_str, List.drop_zero, Nat.sub_zero, hr]
theorem cut_lo (l r : List UInt8) (k : IntKind) (i : Int) (h1 : 0 ≤ i) (h2 : i ≤ l.length) (hr : l.drop i.toNat = r) (W : World) :
    (Instr.slice t (.string (str l)) (some (.int k i)) none none).run P W = .ok (.string (str r)) W := by
  rw [run_slice_string_l W t (str l) hu k i h1 (by rw [str_size]; exact h2), extract_str, str_size, List.take_of_length_le (by rw [List.length_drop]; omega), hr]
end
theorem splice_bL (l r : List UInt8) (k : Nat) : splice (bL l) k (bL r) = bL (splice l k r) := by simp [splice, bL, List.map_take, List.map_drop]
theorem splice_bV (l r : List UInt8) (k : Nat) : (splice (bV l).toList k (bL r)).toArray = bV (splice l k r) := by rw [bV_toList, splice_bL]; rfl
section
variable {α : Type} (l r : List α) (k : Nat)
theorem splice_take (h : k ≤ l.length) : (splice l k r).take k = l.take k := by
  unfold splice
  rw [List.take_append_of_le_length (by simp; omega)]
  exact List.take_take.trans (by rw [Nat.min_self])
theorem splice_mid (h : k ≤ l.length) : ((splice l k r).drop k).take r.length = r := by
  unfold splice
  rw [List.drop_append, List.length_take, Nat.min_eq_left h, Nat.sub_self, List.drop_zero, List.drop_of_length_le (by simp; omega), List.nil_append, List.take_append_of_le_length (Nat.le_refl _), List.take_length]
theorem splice_drop (h : k ≤ l.length) : (splice l k r).drop (k + r.length) = l.drop (k + r.length) := by
  unfold splice
  rw [← List.append_assoc]
  exact List.drop_left' (by simp; omega)
end
end
end Go.Proofs.Ytilopgfpifhccaa
/-
  Bytes that are appended to a slice of the call's own; numbers as bytes, the high ones first.
-/
namespace Go.Proofs.Ytilopgfpifhccaa
section
open Go.RowKit

theorem Try.infoB : (Try.prog.info? 5).map (fun i => (i.zero, i.size, i.bytes)) = some (some (.int .u8 0), 1, 1) := by kernel_rfl
/-- A slice value of the call's own that holds these bytes. -/
def Own (w : World) (base : Nat) (v : Value) (l : List UInt8) : Prop := w.ownsRow base 5 1 v l.length (bL l)
/-- What an append onto a row of the call's own leaves as it was: all below, every block of other elements. -/
structure Keeps (base : Nat) (w w' : World) : Prop where
  below : ∀ B w0, B ≤ base → Below B w0 w → Below B w0 w'
  blk : ∀ g t cs, t ≠ 5 → Blk w g t cs → Blk w' g t cs
  size : w.heap.size ≤ w'.heap.size
theorem Keeps.refl (base : Nat) (w : World) : Keeps base w w := ⟨fun _ _ _ h => h, fun _ _ _ _ h => h, Nat.le_refl _⟩
theorem Keeps.trans {base : Nat} {a b c : World} (h : Keeps base a b) (k : Keeps base b c) : Keeps base a c :=
  ⟨fun B w0 hB hb => k.below B w0 hB (h.below B w0 hB hb), fun g t cs ht hb => k.blk g t cs ht (h.blk g t cs ht hb), Nat.le_trans h.size k.size⟩
theorem Keeps.alloc_ {base : Nat} {w : World} (hb : base ≤ w.heap.size) (o : Obj) : Keeps base w (w.alloc o) :=
  ⟨fun _ _ hB h => h.alloc (by omega) o, fun _ _ _ _ h => h.alloc o, by simp⟩
theorem Keeps.drew_ {base : Nat} {w : World} : Keeps base w w.drew := ⟨fun _ _ _ h => h.drew, fun _ _ _ _ h => h, Nat.le_refl _⟩
theorem keeps_grown {w w' : World} {base n : Nat} {v : Value} {xs : List Value} (hown : w.ownsRow base 5 1 v n xs) (hg : w.grownBy w' v.ownBlock) (hb : base ≤ w.heap.size) : Keeps base w w' :=
  ⟨fun _ _ hB h => bgrow h hg hown hB (by omega), fun _ _ _ ht h => h.grown hg (fun e => own_blk_ne hown h (fun e' => ht e'.symm) e.symm), hg.size⟩
theorem Own.alloc {w : World} {base : Nat} {v : Value} {l : List UInt8} (h : Own w base v l) (o : Obj) : Own (w.alloc o) base v l := World.ownsRow.alloc h o
theorem Own.nil (w : World) (base : Nat) : Own w base (.slice none 0 0) [] := ⟨rfl, .inl ⟨rfl, rfl⟩⟩
theorem Own.empty (w : World) {g : Nat} (hg : g = w.heap.size) : Own (w.alloc (.cells #[] 5)) w.heap.size (.slice (some ⟨g, 0, none⟩) 0 0) [] := own_empty w _ 1 hg
theorem Own.form {w : World} {base : Nat} {v : Value} {l : List UInt8} (h : Own w base v l) : ∃ A c, v = .slice A l.length c ∧ l.length ≤ c := own_form h
theorem Own.reads {w : World} {base : Nat} {A : Option Addr} {n c : Nat} {l : List UInt8} (h : Own w base (.slice A n c) l) : Reads w w.heap.size 1 A n (bL l) ∧ n = l.length := by
  obtain ⟨A', c', e, _⟩ := h.form
  injection e with e1 e2 e3
  subst e1; subst e2; subst e3
  exact ⟨Reads.of_own h, rfl⟩
theorem Own.new {w : World} {g : Nat} {l : List UInt8} (h : Blk w g 5 (bV l)) (hl : l.length ≤ maxLen) {base n : Nat} (hb : base ≤ g) (hn : n = l.length) : Own w base (.slice (some ⟨g, 0, none⟩) n n) l := by
  subst hn
  refine ⟨by rw [bL_len]; omega, .inr ⟨g, l.length, bV l, rfl, hb, h, Nat.le_refl _, hl, by rw [bV_size]; omega, ?_⟩⟩
  rw [bV_toList, Nat.mul_one, ← bL_len, List.take_length]

theorem Own.less {w : World} {base base' : Nat} {v : Value} {l : List UInt8} (h : Own w base v l) (hb : base' ≤ base) : Own w base' v l := World.ownsRow.mono h hb
theorem Own.below {w w' : World} {base : Nat} {v : Value} {l : List UInt8} (h : Own w base v l) (hb : Below w.heap.size w w') : Own w' base v l :=
  World.ownsRow.kept h (row := none) ⟨hb.os, hb.tape, hb.output, hb.size, fun i hi _ => hb.block i hi⟩ (by cases h' : v.ownBlock <;> simp)
theorem Keeps.of_below {base : Nat} {w w' : World} (hb : base ≤ w.heap.size) (h : Below w.heap.size w w') : Keeps base w w' :=
  ⟨fun _ _ hB k => k.trans (h.mono (by omega)), fun _ _ _ _ k => k.below h k.lt, h.size⟩
section
variable {ops : Array Oper} {rest : List Oper} {o : Oper} {a : Act} {Q : Exit → Act → World → Prop} {w : World}
end

/-- n bytes of a number, the high ones first. -/
def be : Nat → Nat → List UInt8
  | 0, _ => []
  | n + 1, u => be n (u / 256) ++ [UInt8.ofNat u]
theorem be_len : ∀ n u, (be n u).length = n
  | 0, _ => rfl
  | n + 1, u => by rw [be, List.length_append, be_len n]; rfl
theorem be_cons : ∀ n u, be (n + 1) u = UInt8.ofNat (u / 256 ^ n) :: be n u
  | 0, u => by simp [be]
  | n + 1, u => by
    rw [be, be_cons n (u / 256), be, List.cons_append]
    congr 2
    rw [Nat.div_div_eq_div_mul, Nat.pow_succ, Nat.mul_comm]
theorem be_at (n u k : Nat) (hk : k < n) : (be n u)[k]? = some (UInt8.ofNat (u / 256 ^ (n - 1 - k))) := by
  induction n generalizing k with
  | zero => omega
  | succ n ih =>
    rw [be_cons]
    cases k with
    | zero => simp
    | succ k => rw [List.getElem?_cons_succ, ih k (by omega)]; congr 4; omega
theorem be_take (n u k : Nat) (hk : k < n) : (be n u).take (k + 1) = (be n u).take k ++ [UInt8.ofNat (u / 256 ^ (n - 1 - k))] := by
  rw [List.take_add_one, be_at n u k hk]; rfl
theorem u8_nat (n : Nat) : ((UInt8.ofNat n).toNat : Int) = (n : Int) % 256 := by simp
end
end Go.Proofs.Ytilopgfpifhccaa
/-
  What terms are asked over, as it lies in memory; a value of a list, a truth as a value.
-/
namespace Go.Proofs.Ytilopgfpifhccaa
section
set_option linter.unusedSimpArgs false
set_option linter.unusedVariables false
open Go.RowKit

/-- A row as it lies in memory. -/
structure Rv where
  A : Option Addr
  n : Nat
  c : Nat
  l : List Vl
def vRv (l : List Rv) : List Value := l.map fun r => .slice r.A r.n r.c
theorem vRv_len (l : List Rv) : (vRv l).length = l.length := by simp [vRv]
theorem Reads.rv_ {w : World} {B : Nat} {A : Option Addr} {n k : Nat} {l : List Rv} (hr : Reads w B 1 A n (vRv l)) (hk : k < n) :
    ∃ ad r, A = some ad ∧ ad.block < B ∧ l[k]? = some r ∧ w.cell? (ad.add k) = some (.slice r.A r.n r.c) := by
  obtain ⟨ad, u, hA, hb, hu, hc⟩ := hr.at_ hk
  simp only [vRv, List.getElem?_map, Option.map_eq_some_iff] at hu
  obtain ⟨r, hr, rfl⟩ := hu
  exact ⟨ad, r, hA, hb, hr, hc⟩
/-- A value that is not too great. -/
def okV (v : Vl) : Prop := v.ok ∧ v.s.size ≤ 1000000
/-- Rows and totals that a call knows. -/
structure EnvO (w : World) (RA : Option Addr) (rn : Nat) (rws : List Rv) (TA : Option Addr) (tn : Nat) (tot : List Vl) : Prop where
  r : Reads w w.heap.size 1 RA rn (vRv rws)
  e : ∀ x ∈ rws, Reads w w.heap.size 3 x.A x.n (vV x.l) ∧ x.n ≤ maxLen ∧ ∀ v ∈ x.l, okV v
  t : Reads w w.heap.size 3 TA tn (vV tot)
  rn : rn ≤ maxLen
  tn : tn ≤ maxLen
  tv : ∀ v ∈ tot, okV v
theorem EnvO.below0 {w w' : World} {RA : Option Addr} {rn : Nat} {rws : List Rv} {TA : Option Addr} {tn : Nat} {tot : List Vl} (h : EnvO w RA rn rws TA tn tot) (hb : Below w.heap.size w w') : EnvO w' RA rn rws TA tn tot :=
  ⟨(h.r.below hb).more hb.size, fun x hx => ⟨((h.e x hx).1.below hb).more hb.size, (h.e x hx).2⟩, (h.t.below hb).more hb.size, h.rn, h.tn, h.tv⟩

/-- A value, and whether it is one. -/
def retO (o : Option Vl) : Value := .tuple #[(o.getD zV).agg, .bool o.isSome]
theorem okV_zero : okV zV := ⟨⟨⟨by decide, by decide⟩, ⟨by decide, by decide⟩, by decide⟩, by decide⟩
def okO (o : Option Vl) : Prop := ∀ v, o = some v → okV v
theorem atO_ok {l : List Vl} (h : ∀ v ∈ l, okV v) (n : Int) : okO (atO l n) := by
  intro v hv
  unfold atO at hv
  split at hv
  · cases hv
  · exact h v (List.mem_of_getElem? hv)
theorem valT_ok (t : Int) : okO (valT t) := by
  intro v hv
  unfold valT at hv
  split at hv
  · injection hv with hv
    subst hv
    unfold tv
    repeat (split; exact ⟨⟨⟨by decide, by decide⟩, ⟨by decide, by decide⟩, by decide⟩, by decide⟩)
    exact ⟨⟨⟨by decide, by decide⟩, ⟨by decide, by decide⟩, by decide⟩, by decide⟩
  · cases hv
theorem turnO_ok {v : Vl} (h : okV v) : okO (turnO v) := by
  intro u hu
  unfold turnO at hu
  split at hu
  · injection hu with hu; exact hu ▸ h
  · split at hu
    · rename_i h2
      injection hu with hu
      subst hu
      exact ⟨⟨⟨(by decide : (0 : Int) ≤ 1), (by decide : (1 : Int) ≤ 255)⟩, h2.2, (by decide : (0 : Nat) ≤ maxLen)⟩, (by decide : (0 : Nat) ≤ 1000000)⟩
    · cases hu
theorem oneK_ok (op : List UInt8) {a : Option Vl} (h : okO a) : okO (oneK op a) := by
  unfold oneK
  split
  · exact valT_ok _
  · split
    · intro v hv
      cases a with
      | none => cases hv
      | some x => exact turnO_ok (h x rfl) v hv
    · intro v hv; cases hv
theorem nullK_ok (no : Bool) (a : Option Vl) : okO (nullK no a) := by
  cases a with
  | none => intro v hv; cases hv
  | some x => exact valT_ok _
end
end Go.Proofs.Ytilopgfpifhccaa
