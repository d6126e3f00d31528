/-
  Contracts of an operation of two values: the program's.
-/
import Derived.Test.YtegnoheaglnhhaaNg
import Derived.Test.YtegnoheaglnhhaaCf
import Derived.Test.YtegnoheaglnhhaaOpen
namespace Go.Proofs.Ytegnoheaglnhhaa
open Go.RowKit

def opN (o : List UInt8) (x y : Int) : Int := if o == [43] then numN (x + y) else if o == [45] then numN (x - y) else if o == [42] then numN (x * y) else 0
def opQ (o : List UInt8) (x y : Int) : Bool := if o == [43] then decide (rngP (x + y)) else if o == [45] then decide (rngP (x - y)) else if o == [42] then decide (rngP (x * y)) else false
def opIs (o : List UInt8) : Bool := o == [43] || o == [45] || o == [42]
def zV : Vl := ⟨0, 0, ⟨#[]⟩⟩
/-- What an operation makes of two values. -/
def doV (o : List UInt8) (a b : Vl) : Vl × Bool :=
  if 1 < a.k ∨ 1 < b.k then (zV, false) else if a.k = 0 ∨ b.k = 0 then (zV, opIs o) else if opQ o a.i b.i then (⟨1, opN o a.i b.i, ⟨#[]⟩⟩, true) else (zV, false)

set_option maxHeartbeats 1000000 in
theorem do_any (op : ByteArray) (x y : Int) (hx : rngP x) (hy : rngP y) (w : World) :
    Calls Try.prog 51 #[.string op, .int .i64 x, .int .i64 y] w fun e w' => e = .returned (.tuple #[.int .i64 (opN op.toList x y), .bool (opQ op.toList x y)]) ∧ w = w' := by
  have C1 := Lib.hid fun W => add_any x y W hx hy
  have C2 := Lib.hid fun W => sub_any x y W hx hy
  have C3 := Lib.hid fun W => mul_any x y W hx hy
  unfold opN opQ
  clear hx hy
  cases h1 : op.toList == [43]
  · cases h2 : op.toList == [45]
    · cases h3 : op.toList == [42]
      · go_enter Try.func51, Try.ntmps51
        go_wp2_with fail
        go_ret2
        exact ⟨rfl, rfl⟩
      · unfold numR at C3
        generalize numN (x * y) = n at *
        generalize decide (rngP (x * y)) = q at *
        go_enter Try.func51, Try.ntmps51
        go_wp2_with (go_at_call 28; refine (C3.out _).mono ?_; rintro e w' ⟨rfl, rfl⟩)
        go_ret2
        exact ⟨rfl, rfl⟩
    · unfold numR at C2
      generalize numN (x - y) = n at *
      generalize decide (rngP (x - y)) = q at *
      go_enter Try.func51, Try.ntmps51
      go_wp2_with (go_at_call 27; refine (C2.out _).mono ?_; rintro e w' ⟨rfl, rfl⟩)
      go_ret2
      exact ⟨rfl, rfl⟩
  · unfold numR at C1
    generalize numN (x + y) = n at *
    generalize decide (rngP (x + y)) = q at *
    go_enter Try.func51, Try.ntmps51
    go_wp2_with (go_at_call 26; refine (C1.out _).mono ?_; rintro e w' ⟨rfl, rfl⟩)
    go_ret2
    exact ⟨rfl, rfl⟩

theorem opN_rng (o : List UInt8) (x y : Int) : rngP (opN o x y) := by
  unfold opN
  split
  · exact numN_rng _
  · split
    · exact numN_rng _
    · split
      · exact numN_rng _
      · exact ⟨by omega, by omega⟩

set_option maxHeartbeats 4000000 in
theorem cdo_any (op : ByteArray) (a b : Vl) (ha : a.ok) (hb : b.ok) (w : World) :
    Calls Try.prog 35 #[.string op, a.agg, b.agg] w (RetB w (.tuple #[(doV op.toList a b).1.agg, .bool (doV op.toList a b).2])) := by
  obtain ⟨k, i, s⟩ := a
  obtain ⟨k', j, t⟩ := b
  obtain ⟨ak, ai, as'⟩ := ha
  obtain ⟨bk, bi, bs'⟩ := hb
  simp only at ak ai bk bi
  obtain ⟨ak0, ak1⟩ := ak
  obtain ⟨bk0, bk1⟩ := bk
  have D := Lib.hid fun W => do_any op i j ai bi W
  have hrg := opN_rng op.toList i j
  unfold doV opIs
  simp only [Vl.agg]
  generalize opN op.toList i j = n at *
  generalize opQ op.toList i j = q at *
  clear ai bi as' bs' hrg
  have hk : k = 0 ∨ k = 1 ∨ 1 < k := by omega
  have hk' : k' = 0 ∨ k' = 1 ∨ 1 < k' := by omega
  rcases hk with rfl | rfl | hk
  rotate_left 2
  · have m0 : (k != 0) = true := by simp; omega
    have m1 : (k != 1) = true := by simp; omega
    rw [if_pos (.inl hk)]
    go_enter Try.func35, Try.ntmps35
    go_wp2_with fail
    refine bodyPost_ret (v := .tuple #[zV.agg, .bool false]) (by simp [results, Try.results35, go_sem, zV, Vl.agg]) rfl ⟨rfl, ball (ball (ball (Below.refl _ _) _) _) _⟩
  all_goals rcases hk' with rfl | rfl | hk'
  · rw [if_neg (by show ¬ ((1 : Int) < 0 ∨ (1 : Int) < 0); omega), if_pos (by show (0 : Int) = 0 ∨ (0 : Int) = 0; omega)]
    generalize h1 : (op.toList == [43]) = b1
    generalize h2 : (op.toList == [45]) = b2
    generalize h3 : (op.toList == [42]) = b3
    cases b1 <;> cases b2 <;> cases b3
    all_goals
      go_enter Try.func35, Try.ntmps35
      go_wp2_with (go_at_call 51; refine (D.out _).mono ?_; rintro e w' ⟨rfl, rfl⟩)
      first | (refine bodyPost_ret (v := .tuple #[zV.agg, .bool true]) (by simp [results, Try.results35, go_sem, zV, Vl.agg]) rfl ⟨rfl, ball (ball (ball (Below.refl _ _) _) _) _⟩) | (refine bodyPost_ret (v := .tuple #[zV.agg, .bool false]) (by simp [results, Try.results35, go_sem, zV, Vl.agg]) rfl ⟨rfl, ball (ball (ball (Below.refl _ _) _) _) _⟩)
  · rw [if_neg (by show ¬ ((1 : Int) < 0 ∨ (1 : Int) < 1); omega), if_pos (by show (0 : Int) = 0 ∨ (1 : Int) = 0; omega)]
    generalize h1 : (op.toList == [43]) = b1
    generalize h2 : (op.toList == [45]) = b2
    generalize h3 : (op.toList == [42]) = b3
    cases b1 <;> cases b2 <;> cases b3
    all_goals
      go_enter Try.func35, Try.ntmps35
      go_wp2_with (go_at_call 51; refine (D.out _).mono ?_; rintro e w' ⟨rfl, rfl⟩)
      first | (refine bodyPost_ret (v := .tuple #[zV.agg, .bool true]) (by simp [results, Try.results35, go_sem, zV, Vl.agg]) rfl ⟨rfl, ball (ball (ball (Below.refl _ _) _) _) _⟩) | (refine bodyPost_ret (v := .tuple #[zV.agg, .bool false]) (by simp [results, Try.results35, go_sem, zV, Vl.agg]) rfl ⟨rfl, ball (ball (ball (Below.refl _ _) _) _) _⟩)
  · have m0 : (k' != 0) = true := by simp; omega
    have m1 : (k' != 1) = true := by simp; omega
    rw [if_pos (.inr hk')]
    go_enter Try.func35, Try.ntmps35
    go_wp2_with (go_at_call 51; refine (D.out _).mono ?_; rintro e w' ⟨rfl, rfl⟩)
    refine bodyPost_ret (v := .tuple #[zV.agg, .bool false]) (by simp [results, Try.results35, go_sem, zV, Vl.agg]) rfl ⟨rfl, ball (ball (ball (Below.refl _ _) _) _) _⟩
  · rw [if_neg (by show ¬ ((1 : Int) < 1 ∨ (1 : Int) < 0); omega), if_pos (by show (1 : Int) = 0 ∨ (0 : Int) = 0; omega)]
    generalize h1 : (op.toList == [43]) = b1
    generalize h2 : (op.toList == [45]) = b2
    generalize h3 : (op.toList == [42]) = b3
    cases b1 <;> cases b2 <;> cases b3
    all_goals
      go_enter Try.func35, Try.ntmps35
      go_wp2_with (go_at_call 51; refine (D.out _).mono ?_; rintro e w' ⟨rfl, rfl⟩)
      first | (refine bodyPost_ret (v := .tuple #[zV.agg, .bool true]) (by simp [results, Try.results35, go_sem, zV, Vl.agg]) rfl ⟨rfl, ball (ball (ball (Below.refl _ _) _) _) _⟩) | (refine bodyPost_ret (v := .tuple #[zV.agg, .bool false]) (by simp [results, Try.results35, go_sem, zV, Vl.agg]) rfl ⟨rfl, ball (ball (ball (Below.refl _ _) _) _) _⟩)
  · rw [if_neg (by show ¬ ((1 : Int) < 1 ∨ (1 : Int) < 1); omega), if_neg (by show ¬ ((1 : Int) = 0 ∨ (1 : Int) = 0); omega)]
    cases q
    · rw [if_neg (by simp)]
      go_enter Try.func35, Try.ntmps35
      go_wp2_with (go_at_call 51; refine (D.out _).mono ?_; rintro e w' ⟨rfl, rfl⟩)
      refine bodyPost_ret (v := .tuple #[zV.agg, .bool false]) (by simp [results, Try.results35, go_sem, zV, Vl.agg]) rfl ⟨rfl, ball (ball (ball (Below.refl _ _) _) _) _⟩
    · rw [if_pos rfl]
      go_enter Try.func35, Try.ntmps35
      go_wp2_with (go_at_call 51; refine (D.out _).mono ?_; rintro e w' ⟨rfl, rfl⟩)
      refine bodyPost_ret (v := .tuple #[.agg #[.int .u8 1, .int .i64 n, .string ⟨#[]⟩], .bool true]) (by simp [results, Try.results35, go_sem]) rfl ⟨rfl, ball (ball (ball (Below.refl _ _) _) _) _⟩
  · have m0 : (k' != 0) = true := by simp; omega
    have m1 : (k' != 1) = true := by simp; omega
    rw [if_pos (.inr hk')]
    go_enter Try.func35, Try.ntmps35
    go_wp2_with (go_at_call 51; refine (D.out _).mono ?_; rintro e w' ⟨rfl, rfl⟩)
    refine bodyPost_ret (v := .tuple #[zV.agg, .bool false]) (by simp [results, Try.results35, go_sem, zV, Vl.agg]) rfl ⟨rfl, ball (ball (ball (Below.refl _ _) _) _) _⟩
end Go.Proofs.Ytegnoheaglnhhaa
