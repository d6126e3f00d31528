/-
  The law ValRows: its walk.
-/
import Derived.Test.YtfokebnafmjajaaDoorVc
import Derived.Test.YtfokebnafmjajaaDoorVe
import Derived.Test.YtfokebnafmjajaaDoorVf
namespace Go.Proofs.YtfokebnafmjajaaDoor
open Go.RowKit

theorem cmpV_self (a : Vl) : cmpV a a = 0 := by have := cmpV_swap a a; omega
theorem rowsV_self : ∀ (a : List Vl), rowsV a a [] = 0
  | [] => rfl
  | x :: r => by unfold rowsV; rw [if_pos (cmpV_self x)]; exact rowsV_self r

set_option maxRecDepth 100000 in
set_option maxHeartbeats 4000000 in
theorem valRows_any (A1 A2 A3 : Option Addr) (n1 c1 n2 c2 n3 c3 : Nat) (a b : List Vl) (d : List Bool) (w : World) (hm : MaxC w)
    (h1 : Reads w w.heap.size 3 A1 n1 (vV a)) (h2 : Reads w w.heap.size 3 A2 n2 (vV b)) (h3 : Reads w w.heap.size 1 A3 n3 (d.map Value.bool)) (k1 : ∀ v ∈ a, v.ok) (k2 : ∀ v ∈ b, v.ok) (g1 : n1 ≤ maxLen) (g2 : n2 ≤ maxLen) (g3 : n3 ≤ maxLen) :
    Calls Tryd.prog 4 #[.slice A1 n1 c1, .slice A2 n2 c2, .slice A3 n3 c3] w (RetB w (.bool true)) := by
  have G1 := Lib.hid (great_any A1 n1 c1 a w w.heap.size h1 (fun v hv => (k1 v hv).2.2) g1)
  have G2 := Lib.hid (great_any A2 n2 c2 b w w.heap.size h2 (fun v hv => (k2 v hv).2.2) g2)
  by_cases hg : grV 0 a = true ∨ grV 0 b = true ∨ 5000 < n3
  · have HF := Lib.hid (fixed1_any w hm)
    clear h1 h2 h3 k1 k2 hm
    unfold maxLen at g1 g2 g3
    by_cases e1 : grV 0 a = true
    · rw [e1] at G1
      clear hg e1 G2
      go_enter Tryd.func4, Tryd.ntmps4
      go_wp2_with fail
      refine G1.out.mono ?_
      rintro e w' ⟨rfl, rfl⟩
      go_wp2_with fail
      refine HF.out.mono ?_
      rintro e w1 ⟨rfl, hb1⟩
      go_wp2
      go_ret
      exact ⟨rfl, hb1⟩
    · have e1' : grV 0 a = false := by simpa using e1
      rw [e1'] at G1
      by_cases e2 : grV 0 b = true
      · rw [e2] at G2
        clear hg e1 e1' e2
        go_enter Tryd.func4, Tryd.ntmps4
        go_wp2_with fail
        refine G1.out.mono ?_
        rintro e w' ⟨rfl, rfl⟩
        go_wp2_with fail
        refine G2.out.mono ?_
        rintro e w' ⟨rfl, rfl⟩
        go_wp2_with fail
        refine HF.out.mono ?_
        rintro e w1 ⟨rfl, hb1⟩
        go_wp2
        go_ret
        exact ⟨rfl, hb1⟩
      · have e2' : grV 0 b = false := by simpa using e2
        rw [e2'] at G2
        have e3 : (5000 : Int) < (n3 : Int) := by rcases hg with h | h | h; exact absurd h e1; exact absurd h e2; omega
        clear hg e1 e1' e2 e2'
        go_enter Tryd.func4, Tryd.ntmps4
        go_wp2_with fail
        refine G1.out.mono ?_
        rintro e w' ⟨rfl, rfl⟩
        go_wp2_with fail
        refine G2.out.mono ?_
        rintro e w' ⟨rfl, rfl⟩
        go_wp2_with fail
        refine HF.out.mono ?_
        rintro e w1 ⟨rfl, hb1⟩
        go_wp2
        go_ret
        exact ⟨rfl, hb1⟩
  · have e1 : grV 0 a = false := Bool.eq_false_iff.2 fun h => hg (.inl h)
    have e2 : grV 0 b = false := Bool.eq_false_iff.2 fun h => hg (.inr (.inl h))
    have e3 : (n3 : Int) ≤ 5000 := by have : ¬ 5000 < n3 := fun h => hg (.inr (.inr h)); omega
    have z1 := grV_sizes a 0 (by omega) e1
    have z2 := grV_sizes b 0 (by omega) e2
    rw [e1] at G1
    rw [e2] at G2
    have HMx := Lib.hid fun (W : World) (hb : Below w.heap.size w W) => hm.below0 hb
    have up3 := fun (W : World) (hb : Below w.heap.size w W) (A : Option Addr) (n : Nat) (l : List Vl) (h : Reads w w.heap.size 3 A n (vV l)) => (h.below hb).more hb.size
    have C1 := Lib.hid fun (W : World) (hb : Below w.heap.size w W) => compareRows_any A1 A2 A3 n1 c1 n2 c2 n3 c3 a b d W (up3 W hb _ _ _ h1) (up3 W hb _ _ _ h2) ((h3.below hb).more hb.size) g1
    have C2 := Lib.hid fun (W : World) (hb : Below w.heap.size w W) => rrows_any A1 A2 A3 n1 c1 n2 c2 n3 c3 a b d W (up3 W hb _ _ _ h1) (up3 W hb _ _ _ h2) ((h3.below hb).more hb.size) g1 (fun v hv => by have := z1 v hv; omega) (fun v hv => by have := z2 v hv; omega)
    have C3 := Lib.hid fun (W : World) (hb : Below w.heap.size w W) => same_any A1 A2 n1 c1 n2 c2 a b W (up3 W hb _ _ _ h1) (up3 W hb _ _ _ h2) g1
    have C4 := Lib.hid fun (W : World) (hb : Below w.heap.size w W) => rrows_any A1 A2 none n1 c1 n2 c2 0 0 a b [] W (up3 W hb _ _ _ h1) (up3 W hb _ _ _ h2) Reads.none_ g1 (fun v hv => by have := z1 v hv; omega) (fun v hv => by have := z2 v hv; omega)
    have C5 := fun (W : World) (hb : Below w.heap.size w W) => same_any A1 A1 n1 c1 n1 c1 a a W (up3 W hb _ _ _ h1) (up3 W hb _ _ _ h1) g1
    rw [rowsV_self a] at C5
    have C6 := Lib.hid C5
    clear C5 up3 h1 h2 h3 k1 k2 hg z1 z2 e1 e2 hm
    unfold maxLen at g1 g2 g3
    generalize rowsV a b d = x at *
    generalize rowsV a b [] = y at *
    go_enter Tryd.func4, Tryd.ntmps4
    go_wp2_with fail
    refine G1.out.mono ?_
    rintro e w' ⟨rfl, rfl⟩
    go_wp2_with fail
    refine G2.out.mono ?_
    rintro e w' ⟨rfl, rfl⟩
    go_wp2_with fail
    refine (fixed1_any _ (HMx.out _ (Below.refl _ _))).mono ?_
    rintro e w1 ⟨rfl, hb1⟩
    go_wp2_with fail
    refine (C1.out _ (by (with_reducible repeat (first | exact Below.refl _ _ | exact hb1 | refine bto0 ?_ hb1 | refine bdr ?_ _ | refine Below.drew ?_ | refine ball ?_ _)))).mono ?_
    rintro e w2 ⟨rfl, hb2⟩
    go_wp2_with fail
    refine (C2.out _ (by (with_reducible repeat (first | exact Below.refl _ _ | exact hb2 | exact hb1 | refine bto0 ?_ hb2 | refine bto0 ?_ hb1 | refine bdr ?_ _ | refine Below.drew ?_ | refine ball ?_ _)))).mono ?_
    rintro e w3 ⟨rfl, hb3⟩
    go_wp2_with fail
    refine (C3.out _ (by (with_reducible repeat (first | exact Below.refl _ _ | exact hb3 | exact hb2 | exact hb1 | refine bto0 ?_ hb3 | refine bto0 ?_ hb2 | refine bto0 ?_ hb1 | refine bdr ?_ _ | refine Below.drew ?_ | refine ball ?_ _)))).mono ?_
    rintro e w4 ⟨rfl, hb4⟩
    go_wp2_with fail
    refine (C4.out _ (by (with_reducible repeat (first | exact Below.refl _ _ | exact hb4 | exact hb3 | exact hb2 | exact hb1 | refine bto0 ?_ hb4 | refine bto0 ?_ hb3 | refine bto0 ?_ hb2 | refine bto0 ?_ hb1 | refine bdr ?_ _ | refine Below.drew ?_ | refine ball ?_ _)))).mono ?_
    rintro e w5 ⟨rfl, hb5⟩
    go_wp2_with fail
    refine (C6.out _ (by (with_reducible repeat (first | exact Below.refl _ _ | exact hb5 | exact hb4 | exact hb3 | exact hb2 | exact hb1 | refine bto0 ?_ hb5 | refine bto0 ?_ hb4 | refine bto0 ?_ hb3 | refine bto0 ?_ hb2 | refine bto0 ?_ hb1 | refine bdr ?_ _ | refine Below.drew ?_ | refine ball ?_ _)))).mono ?_
    rintro e w6 ⟨rfl, hb6⟩
    go_wp2
    go_ret
    exact ⟨ret_bool (by simp), by (with_reducible repeat (first | exact Below.refl _ _ | exact hb6 | exact hb5 | exact hb4 | exact hb3 | exact hb2 | exact hb1 | refine bto0 ?_ hb6 | refine bto0 ?_ hb5 | refine bto0 ?_ hb4 | refine bto0 ?_ hb3 | refine bto0 ?_ hb2 | refine bto0 ?_ hb1 | refine bdr ?_ _ | refine Below.drew ?_ | refine ball ?_ _))⟩
end Go.Proofs.YtfokebnafmjajaaDoor
