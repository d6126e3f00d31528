/-
  The law KeycodeOrder: its walk.
-/
import Derived.Test.YtohaplmbgipbcaaDoorKf
import Derived.Test.YtohaplmbgipbcaaDoorKq
set_option linter.unusedSimpArgs false
namespace Go.Proofs.YtohaplmbgipbcaaDoor
open Go.RowKit

theorem vV_take3 : ∀ (l : List Vl) (k : Nat), vV (l.take k) = (vV l).take (k * 3)
  | [], k => by simp [vV]
  | v :: l, 0 => by simp [vV]
  | v :: l, k + 1 => by
    have ih := vV_take3 l k
    have e : vV (v :: l) = v.cells ++ vV l := rfl
    have e2 : (k + 1) * 3 = v.cells.length + k * 3 := by rw [v.len]; omega
    rw [List.take_succ_cons, e, e2, List.take_length_add_append]
    show v.cells ++ vV (l.take k) = _
    rw [ih]
theorem Reads.rowTake {w : World} {B n : Nat} {A : Option Addr} {l : List Vl} (hr : Reads w B 3 A n (vV l)) (j : Nat) (h : j ≤ n) : Reads w B 3 A j (vV (l.take j)) := by
  have := hr.takec j h
  rw [← vV_take3] at this
  exact this

theorem str_l (l : List UInt8) : (str l).toList = l := by rw [ByteArray.toList_eq]; simp [str]
theorem key_size {l : List Vl} (h : grV 0 l = false) : (str (keyR l)).size ≤ 100000 := by
  have h1 := (grV_bd h).2.2
  show (keyR l).toArray.size ≤ 100000
  simp; omega

set_option maxRecDepth 100000 in
set_option maxHeartbeats 4000000 in
theorem lorder_any (A1 A2 : Option Addr) (n1 c1 n2 c2 : Nat) (a b : List Vl) (w : World) (hm : MaxC w)
    (h1 : Reads w w.heap.size 3 A1 n1 (vV a)) (h2 : Reads w w.heap.size 3 A2 n2 (vV b)) (k1 : ∀ v ∈ a, v.ok) (k2 : ∀ v ∈ b, v.ok) (g1 : n1 ≤ maxLen) (g2 : n2 ≤ maxLen) (x2 : n2 ≤ c2) :
    Calls Tryd.prog 5 #[.slice A1 n1 c1, .slice A2 n2 c2] w (RetB w (.bool true)) := by
  have HF := Lib.hid fun (W : World) (hb : Below w.heap.size w W) => fixed5_any W (hm.below0 hb)
  have up3 := fun (W : World) (hb : Below w.heap.size w W) (A : Option Addr) (n : Nat) (l : List Vl) (h : Reads w w.heap.size 3 A n (vV l)) => (h.below hb).more hb.size
  have G1 := fun (W : World) (hb : Below w.heap.size w W) => great_any A1 n1 c1 a W W.heap.size (up3 W hb _ _ _ h1) (fun v hv => (k1 v hv).2.2) g1
  have G2 := fun (W : World) (hb : Below w.heap.size w W) => great_any A2 n2 c2 b W W.heap.size (up3 W hb _ _ _ h2) (fun v hv => (k2 v hv).2.2) g2
  have l1 : a.length = n1 := by have := h1.1; rw [vV_len] at this; omega
  have l2 : b.length = n2 := by have := h2.1; rw [vV_len] at this; omega
  by_cases e1 : grV 0 a = true
  · rw [e1] at G1
    have H1 := Lib.hid G1; clear G1 G2 up3 h1 h2 k1 k2 hm e1 l1 l2
    go_enter Tryd.func5, Tryd.ntmps5
    go_wp2_with fail
    refine (H1.out _ (Below.refl _ _)).mono ?_
    rintro e w' ⟨rfl, rfl⟩
    go_wp2_with fail
    refine (HF.out _ (Below.refl _ _)).mono ?_
    rintro e w1 ⟨rfl, hb1⟩
    go_wp2
    go_ret
    exact ⟨rfl, hb1⟩
  have e1' : grV 0 a = false := by simpa using e1
  clear e1
  rw [e1'] at G1
  have H1 := Lib.hid G1; clear G1
  by_cases e2 : grV 0 b = true
  · rw [e2] at G2
    have H2 := Lib.hid G2; clear G2 up3 h1 h2 k1 k2 hm e1' e2 l1 l2
    go_enter Tryd.func5, Tryd.ntmps5
    go_wp2_with fail
    refine (H1.out _ (Below.refl _ _)).mono ?_
    rintro e w' ⟨rfl, rfl⟩
    go_wp2_with fail
    refine (H2.out _ (Below.refl _ _)).mono ?_
    rintro e w' ⟨rfl, rfl⟩
    go_wp2_with fail
    refine (HF.out _ (Below.refl _ _)).mono ?_
    rintro e w1 ⟨rfl, hb1⟩
    go_wp2
    go_ret
    exact ⟨rfl, hb1⟩
  have e2' : grV 0 b = false := by simpa using e2
  clear e2
  rw [e2'] at G2
  have H2 := Lib.hid G2; clear G2
  have M1 := fun (W : World) (hb : Below w.heap.size w W) => lmay_any A1 n1 c1 a W (up3 W hb _ _ _ h1) k1 (by have := (grV_bd e1').1; omega)
  have M2 := fun (W : World) (hb : Below w.heap.size w W) => lmay_any A2 n2 c2 b W (up3 W hb _ _ _ h2) k2 (by have := (grV_bd e2').1; omega)
  by_cases m1 : allMay a = false
  · rw [m1] at M1
    have HM1 := Lib.hid M1; clear M1 M2 up3 h1 h2 k1 k2 hm e1' e2' m1 l1 l2
    go_enter Tryd.func5, Tryd.ntmps5
    go_wp2_with fail
    refine (H1.out _ (Below.refl _ _)).mono ?_
    rintro e w' ⟨rfl, rfl⟩
    go_wp2_with fail
    refine (H2.out _ (Below.refl _ _)).mono ?_
    rintro e w' ⟨rfl, rfl⟩
    go_wp2_with fail
    refine (HM1.out _ (Below.refl _ _)).mono ?_
    rintro e w1 ⟨rfl, hb1⟩
    go_wp2_with fail
    refine (HF.out _ (by (with_reducible repeat (first | exact Below.refl _ _ | exact hb1 | refine bto0 ?_ hb1 | refine bdr ?_ _ | refine Below.drew ?_ | refine ball ?_ _)))).mono ?_
    rintro e w2 ⟨rfl, hb2⟩
    go_wp2
    go_ret
    exact ⟨rfl, by (with_reducible repeat (first | exact Below.refl _ _ | exact hb2 | exact hb1 | refine bto0 ?_ hb2 | refine bto0 ?_ hb1 | refine bdr ?_ _ | refine Below.drew ?_ | refine ball ?_ _))⟩
  have m1' : allMay a = true := by simpa using m1
  clear m1
  rw [m1'] at M1
  have HM1 := Lib.hid M1; clear M1
  by_cases m2 : allMay b = false
  · rw [m2] at M2
    have HM2 := Lib.hid M2; clear M2 up3 h1 h2 k1 k2 hm e1' e2' m1' m2 l1 l2
    go_enter Tryd.func5, Tryd.ntmps5
    go_wp2_with fail
    refine (H1.out _ (Below.refl _ _)).mono ?_
    rintro e w' ⟨rfl, rfl⟩
    go_wp2_with fail
    refine (H2.out _ (Below.refl _ _)).mono ?_
    rintro e w' ⟨rfl, rfl⟩
    go_wp2_with fail
    refine (HM1.out _ (Below.refl _ _)).mono ?_
    rintro e w1 ⟨rfl, hb1⟩
    go_wp2_with fail
    refine (HM2.out _ (by (with_reducible repeat (first | exact Below.refl _ _ | exact hb1 | refine bto0 ?_ hb1 | refine bdr ?_ _ | refine Below.drew ?_ | refine ball ?_ _)))).mono ?_
    rintro e w2 ⟨rfl, hb2⟩
    go_wp2_with fail
    refine (HF.out _ (by (with_reducible repeat (first | exact Below.refl _ _ | exact hb2 | exact hb1 | refine bto0 ?_ hb2 | refine bto0 ?_ hb1 | refine bdr ?_ _ | refine Below.drew ?_ | refine ball ?_ _)))).mono ?_
    rintro e w3 ⟨rfl, hb3⟩
    go_wp2
    go_ret
    exact ⟨rfl, by (with_reducible repeat (first | exact Below.refl _ _ | exact hb3 | exact hb2 | exact hb1 | refine bto0 ?_ hb3 | refine bto0 ?_ hb2 | refine bto0 ?_ hb1 | refine bdr ?_ _ | refine Below.drew ?_ | refine ball ?_ _))⟩
  have m2' : allMay b = true := by simpa using m2
  clear m2
  rw [m2'] at M2
  have HM2 := Lib.hid M2; clear M2
  have P1 := fun (W : World) (hb : Below w.heap.size w W) => kput_any A1 n1 c1 a W (hm.below0 hb) (up3 W hb _ _ _ h1) k1 e1'
  have P2 := fun (W : World) (hb : Below w.heap.size w W) => kput_any A2 n2 c2 b W (hm.below0 hb) (up3 W hb _ _ _ h2) k2 e2'
  unfold RetPut at P1 P2
  rw [(row_self_ok m1').1, (row_self_ok m1').2] at P1
  rw [(row_self_ok m2').1, (row_self_ok m2').2] at P2
  have z1 := (grV_bd e1').2.1
  have z2 := (grV_bd e2').2.1
  have C1 := fun (W : World) (hb : Below w.heap.size w W) => rrows_any A1 A2 none n1 c1 n2 c2 0 0 a b [] W (up3 W hb _ _ _ h1) (up3 W hb _ _ _ h2) Reads.none_ g1 (fun v hv => by have := z1 v hv; omega) (fun v hv => by have := z2 v hv; omega)
  have BG := fun W => begins_any (str (keyR a)) (str (keyR b)) W (key_size e1') (key_size e2')
  have hbg : begB (str (keyR a)) (str (keyR b)) = (decide (a.length ≤ b.length) && (rowsV a (b.take a.length) [] == 0)) := beg_row a b k1 k2 m1' m2'
  have hlt : Op.bytesLess (str (keyR a)).toList (str (keyR b)).toList = decide (rowsV a b [] < 0) := by rw [less_bl, str_l, str_l, less_cb, cb_row a b k1 k2 m1' m2']
  have heq : ((str (keyR a)).toList == (str (keyR b)).toList) = (rowsV a b [] == 0) := by rw [str_l, str_l, eq_cb, cb_row a b k1 k2 m1' m2']
  rw [hbg, l1, l2] at BG
  clear hbg
  generalize str (keyR a) = s at *
  generalize str (keyR b) = t at *
  have HP1 := Lib.hid P1; clear P1
  have HP2 := Lib.hid P2; clear P2
  by_cases hn : n1 ≤ n2
  · have q : (n1 : Int) ≤ (n2 : Int) := by omega
    have hmn : (min (n1 : Int) (n2 : Int)).toNat = n1 := by omega
    have C2 := fun (W : World) (hb : Below w.heap.size w W) => rrows_any A1 A2 none n1 c1 n1 c2 0 0 a (b.take n1) [] W (up3 W hb _ _ _ h1) ((up3 W hb _ _ _ h2).rowTake n1 hn) Reads.none_ g1 (fun v hv => by have := z1 v hv; omega) (fun v hv => by have := z2 v (List.mem_of_mem_take hv); omega)
    have d0 : decide (n1 ≤ n2) = true := by simpa using hn
    rw [d0] at BG
    generalize rowsV a (b.take n1) [] = y at *
    have HB := Lib.hid BG; clear BG
    have D2 : Hid (∀ (W : World), Below w.heap.size w W → Calls Tryd.prog 17 #[.slice A1 n1 c1, .slice A2 (min (n1 : Int) (n2 : Int)).toNat c2, .slice none 0 0] W (RetB W (.int .i64 y))) := by
      rw [hmn]; exact C2
    clear C2 hmn
    have hcs : ∃ u v : Bool, decide (rowsV a b [] < 0) = u ∧ (rowsV a b [] == 0) = v := ⟨_, _, rfl, rfl⟩
    obtain ⟨u, v, p2, p4⟩ := hcs
    rw [p2] at hlt
    rw [p4] at heq
    generalize rowsV a b [] = x at *
    have D1 := Lib.hid C1; clear C1
    clear up3 h1 h2 k1 k2 hm e1' e2' m1' m2' l1 l2 z1 z2 d0
    unfold maxLen at g1 g2
    cases u <;> cases v
    all_goals
      go_enter Tryd.func5, Tryd.ntmps5
      go_wp2_with fail
      refine (H1.out _ (Below.refl _ _)).mono ?_
      rintro e w' ⟨rfl, rfl⟩
      go_wp2_with fail
      refine (H2.out _ (Below.refl _ _)).mono ?_
      rintro e w' ⟨rfl, rfl⟩
      go_wp2_with fail
      refine (HM1.out _ (Below.refl _ _)).mono ?_
      rintro e w1 ⟨rfl, hb1⟩
      go_wp2_with fail
      refine (HM2.out _ (by (with_reducible repeat (first | exact Below.refl _ _ | exact hb1 | refine bto0 ?_ hb1 | refine bdr ?_ _ | refine Below.drew ?_ | refine ball ?_ _)))).mono ?_
      rintro e w2 ⟨rfl, hb2⟩
      go_wp2_with fail
      refine (HP1.out _ (by (with_reducible repeat (first | exact Below.refl _ _ | exact hb2 | exact hb1 | refine bto0 ?_ hb2 | refine bto0 ?_ hb1 | refine bdr ?_ _ | refine Below.drew ?_ | refine ball ?_ _)))).mono ?_
      rintro e w3 ⟨rfl, hb3⟩
      go_wp2_with fail
      refine (HP2.out _ (by (with_reducible repeat (first | exact Below.refl _ _ | exact hb3 | exact hb2 | exact hb1 | refine bto0 ?_ hb3 | refine bto0 ?_ hb2 | refine bto0 ?_ hb1 | refine bdr ?_ _ | refine Below.drew ?_ | refine ball ?_ _)))).mono ?_
      rintro e w4 ⟨rfl, hb4⟩
      go_wp2_with fail
      refine (D1.out _ (by (with_reducible repeat (first | exact Below.refl _ _ | exact hb4 | exact hb3 | exact hb2 | exact hb1 | refine bto0 ?_ hb4 | refine bto0 ?_ hb3 | refine bto0 ?_ hb2 | refine bto0 ?_ hb1 | refine bdr ?_ _ | refine Below.drew ?_ | refine ball ?_ _)))).mono ?_
      rintro e w5 ⟨rfl, hb5⟩
      go_wp2_with fail
      refine (D2.out _ (by (with_reducible repeat (first | exact Below.refl _ _ | exact hb5 | exact hb4 | exact hb3 | exact hb2 | exact hb1 | refine bto0 ?_ hb5 | refine bto0 ?_ hb4 | refine bto0 ?_ hb3 | refine bto0 ?_ hb2 | refine bto0 ?_ hb1 | refine bdr ?_ _ | refine Below.drew ?_ | refine ball ?_ _)))).mono ?_
      rintro e w6 ⟨rfl, hb6⟩
      go_wp2_with fail
      refine (HF.out _ (by (with_reducible repeat (first | exact Below.refl _ _ | exact hb6 | exact hb5 | exact hb4 | exact hb3 | exact hb2 | exact hb1 | refine bto0 ?_ hb6 | refine bto0 ?_ hb5 | refine bto0 ?_ hb4 | refine bto0 ?_ hb3 | refine bto0 ?_ hb2 | refine bto0 ?_ hb1 | refine bdr ?_ _ | refine Below.drew ?_ | refine ball ?_ _)))).mono ?_
      rintro e w7 ⟨rfl, hb7⟩
      go_wp2_with fail
      refine (HB.out _).mono ?_
      rintro e w' ⟨rfl, rfl⟩
      go_wp2
      go_ret
      exact ⟨ret_bool (by simp), by (with_reducible repeat (first | exact Below.refl _ _ | exact hb7 | exact hb6 | exact hb5 | exact hb4 | exact hb3 | exact hb2 | exact hb1 | refine bto0 ?_ hb7 | refine bto0 ?_ hb6 | refine bto0 ?_ hb5 | refine bto0 ?_ hb4 | refine bto0 ?_ hb3 | refine bto0 ?_ hb2 | refine bto0 ?_ hb1 | refine bdr ?_ _ | refine Below.drew ?_ | refine ball ?_ _))⟩
  · have q : (n2 : Int) < (n1 : Int) := by omega
    have d0 : decide (n1 ≤ n2) = false := by simpa using hn
    rw [d0, Bool.false_and] at BG
    have HB := Lib.hid BG; clear BG
    have hcs : ∃ u v : Bool, decide (rowsV a b [] < 0) = u ∧ (rowsV a b [] == 0) = v := ⟨_, _, rfl, rfl⟩
    obtain ⟨u, v, p2, p4⟩ := hcs
    rw [p2] at hlt
    rw [p4] at heq
    generalize rowsV a b [] = x at *
    have D1 := Lib.hid C1; clear C1
    clear up3 h1 h2 k1 k2 hm e1' e2' m1' m2' l1 l2 z1 z2 d0 hn
    unfold maxLen at g1 g2
    cases u <;> cases v
    all_goals
      go_enter Tryd.func5, Tryd.ntmps5
      go_wp2_with fail
      refine (H1.out _ (Below.refl _ _)).mono ?_
      rintro e w' ⟨rfl, rfl⟩
      go_wp2_with fail
      refine (H2.out _ (Below.refl _ _)).mono ?_
      rintro e w' ⟨rfl, rfl⟩
      go_wp2_with fail
      refine (HM1.out _ (Below.refl _ _)).mono ?_
      rintro e w1 ⟨rfl, hb1⟩
      go_wp2_with fail
      refine (HM2.out _ (by (with_reducible repeat (first | exact Below.refl _ _ | exact hb1 | refine bto0 ?_ hb1 | refine bdr ?_ _ | refine Below.drew ?_ | refine ball ?_ _)))).mono ?_
      rintro e w2 ⟨rfl, hb2⟩
      go_wp2_with fail
      refine (HP1.out _ (by (with_reducible repeat (first | exact Below.refl _ _ | exact hb2 | exact hb1 | refine bto0 ?_ hb2 | refine bto0 ?_ hb1 | refine bdr ?_ _ | refine Below.drew ?_ | refine ball ?_ _)))).mono ?_
      rintro e w3 ⟨rfl, hb3⟩
      go_wp2_with fail
      refine (HP2.out _ (by (with_reducible repeat (first | exact Below.refl _ _ | exact hb3 | exact hb2 | exact hb1 | refine bto0 ?_ hb3 | refine bto0 ?_ hb2 | refine bto0 ?_ hb1 | refine bdr ?_ _ | refine Below.drew ?_ | refine ball ?_ _)))).mono ?_
      rintro e w4 ⟨rfl, hb4⟩
      go_wp2_with fail
      refine (D1.out _ (by (with_reducible repeat (first | exact Below.refl _ _ | exact hb4 | exact hb3 | exact hb2 | exact hb1 | refine bto0 ?_ hb4 | refine bto0 ?_ hb3 | refine bto0 ?_ hb2 | refine bto0 ?_ hb1 | refine bdr ?_ _ | refine Below.drew ?_ | refine ball ?_ _)))).mono ?_
      rintro e w5 ⟨rfl, hb5⟩
      go_wp2_with fail
      refine (HF.out _ (by (with_reducible repeat (first | exact Below.refl _ _ | exact hb5 | exact hb4 | exact hb3 | exact hb2 | exact hb1 | refine bto0 ?_ hb5 | refine bto0 ?_ hb4 | refine bto0 ?_ hb3 | refine bto0 ?_ hb2 | refine bto0 ?_ hb1 | refine bdr ?_ _ | refine Below.drew ?_ | refine ball ?_ _)))).mono ?_
      rintro e w6 ⟨rfl, hb6⟩
      go_wp2_with fail
      refine (HB.out _).mono ?_
      rintro e w' ⟨rfl, rfl⟩
      go_wp2
      go_ret
      exact ⟨ret_bool (by simp), by (with_reducible repeat (first | exact Below.refl _ _ | exact hb6 | exact hb5 | exact hb4 | exact hb3 | exact hb2 | exact hb1 | refine bto0 ?_ hb6 | refine bto0 ?_ hb5 | refine bto0 ?_ hb4 | refine bto0 ?_ hb3 | refine bto0 ?_ hb2 | refine bto0 ?_ hb1 | refine bdr ?_ _ | refine Below.drew ?_ | refine ball ?_ _))⟩
end Go.Proofs.YtohaplmbgipbcaaDoor
