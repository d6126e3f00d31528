/-
  The law KeycodeRanges: its walk.
-/
import Derived.Test.YtohaplmbgipbcaaDoorKl
import Derived.Test.YtohaplmbgipbcaaDoorKg
set_option linter.unusedSimpArgs false
namespace Go.Proofs.YtohaplmbgipbcaaDoor
open Go.RowKit

theorem nb_key {l : List Vl} (h : allMay l = true) (hne : l ≠ []) : nb (keyR l) ≠ 0 := by
  cases l with
  | nil => exact absurd rfl hne
  | cons v r =>
    obtain ⟨mv, _⟩ := allMay_cons h
    obtain ⟨x, hx⟩ := key_head mv
    have hk := may_k mv
    rw [keyR_cons, hx, List.cons_append, nb_cons]
    have hc : UInt8.ofNat (1 + v.k).toNat ≠ 255 := by
      rcases hk with h | h | h | h <;> rw [h] <;> decide
    split
    · decide
    · omega

set_option maxRecDepth 100000 in
set_option maxHeartbeats 4000000 in
theorem lranges_any (A1 A2 : Option Addr) (n1 c1 n2 c2 : Nat) (a b : List Vl) (w : World) (hm : MaxC w)
    (h1 : Reads w w.heap.size 3 A1 n1 (vV a)) (h2 : Reads w w.heap.size 3 A2 n2 (vV b)) (k1 : ∀ v ∈ a, v.ok) (k2 : ∀ v ∈ b, v.ok) (g1 : n1 ≤ maxLen) (g2 : n2 ≤ maxLen) (x2 : n2 ≤ c2) :
    Calls Tryd.prog 8 #[.slice A1 n1 c1, .slice A2 n2 c2] w (RetB w (.bool true)) := by
  have HF := Lib.hid fun (W : World) (hb : Below w.heap.size w W) => fixed5_any W (hm.below0 hb)
  have up3 := fun (W : World) (hb : Below w.heap.size w W) (A : Option Addr) (n : Nat) (l : List Vl) (h : Reads w w.heap.size 3 A n (vV l)) => (h.below hb).more hb.size
  have G1 := fun (W : World) (hb : Below w.heap.size w W) => great_any A1 n1 c1 a W W.heap.size (up3 W hb _ _ _ h1) (fun v hv => (k1 v hv).2.2) g1
  have G2 := fun (W : World) (hb : Below w.heap.size w W) => great_any A2 n2 c2 b W W.heap.size (up3 W hb _ _ _ h2) (fun v hv => (k2 v hv).2.2) g2
  have l1 : a.length = n1 := by have := h1.1; rw [vV_len] at this; omega
  have l2 : b.length = n2 := by have := h2.1; rw [vV_len] at this; omega
  by_cases e1 : grV 0 a = true
  · rw [e1] at G1
    have H1 := Lib.hid G1; clear G1 G2 up3 h1 h2 k1 k2 hm e1 l1 l2
    go_enter Tryd.func8, Tryd.ntmps8
    go_wp2_with fail
    refine (H1.out _ (Below.refl _ _)).mono ?_
    rintro e w' ⟨rfl, rfl⟩
    go_wp2_with fail
    refine (HF.out _ (Below.refl _ _)).mono ?_
    rintro e w1 ⟨rfl, hb1⟩
    go_wp2
    go_ret
    exact ⟨rfl, hb1⟩
  have e1' : grV 0 a = false := by simpa using e1
  clear e1
  rw [e1'] at G1
  have H1 := Lib.hid G1; clear G1
  by_cases e2 : grV 0 b = true
  · rw [e2] at G2
    have H2 := Lib.hid G2; clear G2 up3 h1 h2 k1 k2 hm e1' e2 l1 l2
    go_enter Tryd.func8, Tryd.ntmps8
    go_wp2_with fail
    refine (H1.out _ (Below.refl _ _)).mono ?_
    rintro e w' ⟨rfl, rfl⟩
    go_wp2_with fail
    refine (H2.out _ (Below.refl _ _)).mono ?_
    rintro e w' ⟨rfl, rfl⟩
    go_wp2_with fail
    refine (HF.out _ (Below.refl _ _)).mono ?_
    rintro e w1 ⟨rfl, hb1⟩
    go_wp2
    go_ret
    exact ⟨rfl, hb1⟩
  have e2' : grV 0 b = false := by simpa using e2
  clear e2
  rw [e2'] at G2
  have H2 := Lib.hid G2; clear G2
  have M1 := fun (W : World) (hb : Below w.heap.size w W) => lmay_any A1 n1 c1 a W (up3 W hb _ _ _ h1) k1 (by have := (grV_bd e1').1; omega)
  have M2 := fun (W : World) (hb : Below w.heap.size w W) => lmay_any A2 n2 c2 b W (up3 W hb _ _ _ h2) k2 (by have := (grV_bd e2').1; omega)
  by_cases m1 : allMay a = false
  · rw [m1] at M1
    have HM1 := Lib.hid M1; clear M1 M2 up3 h1 h2 k1 k2 hm e1' e2' m1 l1 l2
    go_enter Tryd.func8, Tryd.ntmps8
    go_wp2_with fail
    refine (H1.out _ (Below.refl _ _)).mono ?_
    rintro e w' ⟨rfl, rfl⟩
    go_wp2_with fail
    refine (H2.out _ (Below.refl _ _)).mono ?_
    rintro e w' ⟨rfl, rfl⟩
    go_wp2_with fail
    refine (HM1.out _ (Below.refl _ _)).mono ?_
    rintro e w1 ⟨rfl, hb1⟩
    go_wp2_with fail
    refine (HF.out _ (by (with_reducible repeat (first | exact Below.refl _ _ | exact hb1 | refine bto0 ?_ hb1 | refine bdr ?_ _ | refine Below.drew ?_ | refine ball ?_ _)))).mono ?_
    rintro e w2 ⟨rfl, hb2⟩
    go_wp2
    go_ret
    exact ⟨rfl, by (with_reducible repeat (first | exact Below.refl _ _ | exact hb2 | exact hb1 | refine bto0 ?_ hb2 | refine bto0 ?_ hb1 | refine bdr ?_ _ | refine Below.drew ?_ | refine ball ?_ _))⟩
  have m1' : allMay a = true := by simpa using m1
  clear m1
  rw [m1'] at M1
  have HM1 := Lib.hid M1; clear M1
  by_cases m2 : allMay b = false
  · rw [m2] at M2
    have HM2 := Lib.hid M2; clear M2 up3 h1 h2 k1 k2 hm e1' e2' m1' m2 l1 l2
    go_enter Tryd.func8, Tryd.ntmps8
    go_wp2_with fail
    refine (H1.out _ (Below.refl _ _)).mono ?_
    rintro e w' ⟨rfl, rfl⟩
    go_wp2_with fail
    refine (H2.out _ (Below.refl _ _)).mono ?_
    rintro e w' ⟨rfl, rfl⟩
    go_wp2_with fail
    refine (HM1.out _ (Below.refl _ _)).mono ?_
    rintro e w1 ⟨rfl, hb1⟩
    go_wp2_with fail
    refine (HM2.out _ (by (with_reducible repeat (first | exact Below.refl _ _ | exact hb1 | refine bto0 ?_ hb1 | refine bdr ?_ _ | refine Below.drew ?_ | refine ball ?_ _)))).mono ?_
    rintro e w2 ⟨rfl, hb2⟩
    go_wp2_with fail
    refine (HF.out _ (by (with_reducible repeat (first | exact Below.refl _ _ | exact hb2 | exact hb1 | refine bto0 ?_ hb2 | refine bto0 ?_ hb1 | refine bdr ?_ _ | refine Below.drew ?_ | refine ball ?_ _)))).mono ?_
    rintro e w3 ⟨rfl, hb3⟩
    go_wp2
    go_ret
    exact ⟨rfl, by (with_reducible repeat (first | exact Below.refl _ _ | exact hb3 | exact hb2 | exact hb1 | refine bto0 ?_ hb3 | refine bto0 ?_ hb2 | refine bto0 ?_ hb1 | refine bdr ?_ _ | refine Below.drew ?_ | refine ball ?_ _))⟩
  have m2' : allMay b = true := by simpa using m2
  clear m2
  rw [m2'] at M2
  have HM2 := Lib.hid M2; clear M2
  by_cases h0 : a = []
  · have hn0 : ((n1 : Int) == 0) = true := by rw [← l1, h0]; rfl
    have hn0' : n1 = 0 := by rw [← l1, h0]; rfl
    clear up3 h1 h2 k1 k2 hm e1' e2' m1' m2' l1 l2 h0
    subst hn0'
    go_enter Tryd.func8, Tryd.ntmps8
    go_wp2_with fail
    refine (H1.out _ (Below.refl _ _)).mono ?_
    rintro e w' ⟨rfl, rfl⟩
    go_wp2_with fail
    refine (H2.out _ (Below.refl _ _)).mono ?_
    rintro e w' ⟨rfl, rfl⟩
    go_wp2_with fail
    refine (HM1.out _ (Below.refl _ _)).mono ?_
    rintro e w1 ⟨rfl, hb1⟩
    go_wp2_with fail
    refine (HM2.out _ (by (with_reducible repeat (first | exact Below.refl _ _ | exact hb1 | refine bto0 ?_ hb1 | refine bdr ?_ _ | refine Below.drew ?_ | refine ball ?_ _)))).mono ?_
    rintro e w2 ⟨rfl, hb2⟩
    go_wp2_with fail
    refine (HF.out _ (by (with_reducible repeat (first | exact Below.refl _ _ | exact hb2 | exact hb1 | refine bto0 ?_ hb2 | refine bto0 ?_ hb1 | refine bdr ?_ _ | refine Below.drew ?_ | refine ball ?_ _)))).mono ?_
    rintro e w3 ⟨rfl, hb3⟩
    go_wp2
    go_ret
    exact ⟨rfl, by (with_reducible repeat (first | exact Below.refl _ _ | exact hb3 | exact hb2 | exact hb1 | refine bto0 ?_ hb3 | refine bto0 ?_ hb2 | refine bto0 ?_ hb1 | refine bdr ?_ _ | refine Below.drew ?_ | refine ball ?_ _))⟩
  have hlp : 0 < a.length := by cases a with
    | nil => exact absurd rfl h0
    | cons _ _ => simp
  have hn0 : ((n1 : Int) == 0) = false := by simp; omega
  have P1 := fun (W : World) (hb : Below w.heap.size w W) => kput_any A1 n1 c1 a W (hm.below0 hb) (up3 W hb _ _ _ h1) k1 e1'
  have P2 := fun (W : World) (hb : Below w.heap.size w W) => kput_any A2 n2 c2 b W (hm.below0 hb) (up3 W hb _ _ _ h2) k2 e2'
  unfold RetPut at P1 P2
  rw [(row_self_ok m1').1, (row_self_ok m1').2] at P1
  rw [(row_self_ok m2').1, (row_self_ok m2').2] at P2
  have z1 := (grV_bd e1').2.1
  have z2 := (grV_bd e2').2.1
  have hnb := nb_key m1' h0
  have B1 := fun W => behind_any (str (keyR a)) W (key_size e1')
  have hda : (str (keyR a)).data.toList = keyR a := by simp [str]
  have hdb : (str (keyR b)).data.toList = keyR b := by simp [str]
  unfold RetBh at B1
  rw [hda, if_neg hnb] at B1
  have hd : decide (nb (keyR a) ≠ 0) = true := by simpa using hnb
  rw [hd] at B1
  have hbg : (keyR a).isPrefixOf (keyR b) = (decide (a.length ≤ b.length) && (rowsV a (b.take a.length) [] == 0)) := beg_row a b k1 k2 m1' m2'
  have hlaw := bh_law (keyR a) (keyR b) hnb
  have eu : (str (bhL (keyR a))).data.toList = bhL (keyR a) := by simp [str]
  rw [hbg, l1, l2] at hlaw
  obtain ⟨x, hx⟩ : ∃ x, Op.bytesLess (str (keyR b)).toList (str (keyR a)).toList = x := ⟨_, rfl⟩
  obtain ⟨y, hy⟩ : ∃ y, Op.bytesLess (str (keyR b)).toList (str (bhL (keyR a))).toList = y := ⟨_, rfl⟩
  have hx' : bl (keyR b) (keyR a) = x := by rw [← hx, lessB, hda, hdb]
  have hy' : bl (keyR b) (bhL (keyR a)) = y := by rw [← hy, lessB, eu, hdb]
  rw [hx', hy'] at hlaw
  clear hbg hx' hy' eu hda hdb hd hnb
  generalize str (bhL (keyR a)) = u at *
  generalize str (keyR a) = s at *
  generalize str (keyR b) = t at *
  have HP1 := Lib.hid P1; clear P1
  have HP2 := Lib.hid P2; clear P2
  have HB := Lib.hid B1; clear B1
  by_cases hn : n1 ≤ n2
  · have q : (n1 : Int) ≤ (n2 : Int) := by omega
    have hmn : (min (n1 : Int) (n2 : Int)).toNat = n1 := by omega
    have C2 := fun (W : World) (hb : Below w.heap.size w W) => rrows_any A1 A2 none n1 c1 n1 c2 0 0 a (b.take n1) [] W (up3 W hb _ _ _ h1) ((up3 W hb _ _ _ h2).rowTake n1 hn) Reads.none_ g1 (fun v hv => by have := z1 v hv; omega) (fun v hv => by have := z2 v (List.mem_of_mem_take hv); omega)
    have d0 : decide (n1 ≤ n2) = true := by simpa using hn
    rw [d0, Bool.true_and] at hlaw
    generalize rowsV a (b.take n1) [] = z at *
    have D2 : Hid (∀ (W : World), Below w.heap.size w W → Calls Tryd.prog 17 #[.slice A1 n1 c1, .slice A2 (min (n1 : Int) (n2 : Int)).toNat c2, .slice none 0 0] W (RetB W (.int .i64 z))) := by
      rw [hmn]; exact C2
    clear C2 hmn
    clear up3 h1 h2 k1 k2 hm e1' e2' m1' m2' l1 l2 z1 z2 d0 h0 hlp
    unfold maxLen at g1 g2
    cases x <;> cases y
    all_goals
      simp only [Bool.not_true, Bool.not_false, Bool.and_true, Bool.and_false, Bool.true_and, Bool.false_and] at hlaw
      have p4 := hlaw.symm
      clear hlaw
      go_enter Tryd.func8, Tryd.ntmps8
      go_wp2_with fail
      refine (H1.out _ (Below.refl _ _)).mono ?_
      rintro e w' ⟨rfl, rfl⟩
      go_wp2_with fail
      refine (H2.out _ (Below.refl _ _)).mono ?_
      rintro e w' ⟨rfl, rfl⟩
      go_wp2_with fail
      refine (HM1.out _ (Below.refl _ _)).mono ?_
      rintro e w1 ⟨rfl, hb1⟩
      go_wp2_with fail
      refine (HM2.out _ (by (with_reducible repeat (first | exact Below.refl _ _ | exact hb1 | refine bto0 ?_ hb1 | refine bdr ?_ _ | refine Below.drew ?_ | refine ball ?_ _)))).mono ?_
      rintro e w2 ⟨rfl, hb2⟩
      go_wp2_with fail
      refine (HP1.out _ (by (with_reducible repeat (first | exact Below.refl _ _ | exact hb2 | exact hb1 | refine bto0 ?_ hb2 | refine bto0 ?_ hb1 | refine bdr ?_ _ | refine Below.drew ?_ | refine ball ?_ _)))).mono ?_
      rintro e w3 ⟨rfl, hb3⟩
      go_wp2_with fail
      refine (HP2.out _ (by (with_reducible repeat (first | exact Below.refl _ _ | exact hb3 | exact hb2 | exact hb1 | refine bto0 ?_ hb3 | refine bto0 ?_ hb2 | refine bto0 ?_ hb1 | refine bdr ?_ _ | refine Below.drew ?_ | refine ball ?_ _)))).mono ?_
      rintro e w4 ⟨rfl, hb4⟩
      go_wp2_with fail
      refine (HB.out _).mono ?_
      rintro e w5 ⟨rfl, hb5⟩
      go_wp2_with fail
      refine (D2.out _ (by (with_reducible repeat (first | exact Below.refl _ _ | exact hb5 | exact hb4 | exact hb3 | exact hb2 | exact hb1 | refine bto0 ?_ hb5 | refine bto0 ?_ hb4 | refine bto0 ?_ hb3 | refine bto0 ?_ hb2 | refine bto0 ?_ hb1 | refine bdr ?_ _ | refine Below.drew ?_ | refine ball ?_ _)))).mono ?_
      rintro e w6 ⟨rfl, hb6⟩
      go_wp2_with fail
      refine (HF.out _ (by (with_reducible repeat (first | exact Below.refl _ _ | exact hb6 | exact hb5 | exact hb4 | exact hb3 | exact hb2 | exact hb1 | refine bto0 ?_ hb6 | refine bto0 ?_ hb5 | refine bto0 ?_ hb4 | refine bto0 ?_ hb3 | refine bto0 ?_ hb2 | refine bto0 ?_ hb1 | refine bdr ?_ _ | refine Below.drew ?_ | refine ball ?_ _)))).mono ?_
      rintro e w7 ⟨rfl, hb7⟩
      go_wp2
      go_ret
      exact ⟨ret_bool (by simp), by (with_reducible repeat (first | exact Below.refl _ _ | exact hb7 | exact hb6 | exact hb5 | exact hb4 | exact hb3 | exact hb2 | exact hb1 | refine bto0 ?_ hb7 | refine bto0 ?_ hb6 | refine bto0 ?_ hb5 | refine bto0 ?_ hb4 | refine bto0 ?_ hb3 | refine bto0 ?_ hb2 | refine bto0 ?_ hb1 | refine bdr ?_ _ | refine Below.drew ?_ | refine ball ?_ _))⟩
  · have q : (n2 : Int) < (n1 : Int) := by omega
    have d0 : decide (n1 ≤ n2) = false := by simpa using hn
    rw [d0, Bool.false_and] at hlaw
    clear up3 h1 h2 k1 k2 hm e1' e2' m1' m2' l1 l2 z1 z2 d0 hn h0 hlp
    unfold maxLen at g1 g2
    cases x <;> cases y
    all_goals
      simp only [Bool.not_true, Bool.not_false, Bool.and_true, Bool.and_false, Bool.true_and, Bool.false_and, reduceCtorEq] at hlaw
    all_goals
      go_enter Tryd.func8, Tryd.ntmps8
      go_wp2_with fail
      refine (H1.out _ (Below.refl _ _)).mono ?_
      rintro e w' ⟨rfl, rfl⟩
      go_wp2_with fail
      refine (H2.out _ (Below.refl _ _)).mono ?_
      rintro e w' ⟨rfl, rfl⟩
      go_wp2_with fail
      refine (HM1.out _ (Below.refl _ _)).mono ?_
      rintro e w1 ⟨rfl, hb1⟩
      go_wp2_with fail
      refine (HM2.out _ (by (with_reducible repeat (first | exact Below.refl _ _ | exact hb1 | refine bto0 ?_ hb1 | refine bdr ?_ _ | refine Below.drew ?_ | refine ball ?_ _)))).mono ?_
      rintro e w2 ⟨rfl, hb2⟩
      go_wp2_with fail
      refine (HP1.out _ (by (with_reducible repeat (first | exact Below.refl _ _ | exact hb2 | exact hb1 | refine bto0 ?_ hb2 | refine bto0 ?_ hb1 | refine bdr ?_ _ | refine Below.drew ?_ | refine ball ?_ _)))).mono ?_
      rintro e w3 ⟨rfl, hb3⟩
      go_wp2_with fail
      refine (HP2.out _ (by (with_reducible repeat (first | exact Below.refl _ _ | exact hb3 | exact hb2 | exact hb1 | refine bto0 ?_ hb3 | refine bto0 ?_ hb2 | refine bto0 ?_ hb1 | refine bdr ?_ _ | refine Below.drew ?_ | refine ball ?_ _)))).mono ?_
      rintro e w4 ⟨rfl, hb4⟩
      go_wp2_with fail
      refine (HB.out _).mono ?_
      rintro e w5 ⟨rfl, hb5⟩
      go_wp2_with fail
      refine (HF.out _ (by (with_reducible repeat (first | exact Below.refl _ _ | exact hb5 | exact hb4 | exact hb3 | exact hb2 | exact hb1 | refine bto0 ?_ hb5 | refine bto0 ?_ hb4 | refine bto0 ?_ hb3 | refine bto0 ?_ hb2 | refine bto0 ?_ hb1 | refine bdr ?_ _ | refine Below.drew ?_ | refine ball ?_ _)))).mono ?_
      rintro e w6 ⟨rfl, hb6⟩
      go_wp2
      go_ret
      exact ⟨ret_bool (by simp), by (with_reducible repeat (first | exact Below.refl _ _ | exact hb6 | exact hb5 | exact hb4 | exact hb3 | exact hb2 | exact hb1 | refine bto0 ?_ hb6 | refine bto0 ?_ hb5 | refine bto0 ?_ hb4 | refine bto0 ?_ hb3 | refine bto0 ?_ hb2 | refine bto0 ?_ hb1 | refine bdr ?_ _ | refine Below.drew ?_ | refine ball ?_ _))⟩
end Go.Proofs.YtohaplmbgipbcaaDoor
