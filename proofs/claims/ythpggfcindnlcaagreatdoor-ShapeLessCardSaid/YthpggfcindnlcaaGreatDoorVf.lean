
/-
  How two rows stand: the program's, and the reference's.
-/
import Derived.Test.YthpggfcindnlcaaGreatDoorVd
set_option linter.unusedSimpArgs false
set_option linter.unusedVariables false
namespace Go.Proofs.YthpggfcindnlcaaGreatDoor
open Go.RowKit
attribute [local go_sem ↓] Go.wp_at_zero Go.wp_at_succ

def rowsV : List Vl → List Vl → List Bool → Int
  | [], [], _ => 0
  | [], _ :: _, _ => -1
  | _ :: _, [], _ => 1
  | a :: ar, b :: br, d => if cmpV a b = 0 then rowsV ar br d.tail else if d.headD false = true then -cmpV a b else cmpV a b
theorem rowsV_bd : ∀ (a b : List Vl) (d : List Bool), -1 ≤ rowsV a b d ∧ rowsV a b d ≤ 1
  | [], [], _ => by unfold rowsV; omega
  | [], _ :: _, _ => by unfold rowsV; omega
  | _ :: _, [], _ => by unfold rowsV; omega
  | a :: ar, b :: br, d => by
    unfold rowsV
    have ih := rowsV_bd ar br d.tail
    have h := cmpV_bd a b
    split
    · exact ih
    · split <;> omega
theorem rowsV_drop {a b : List Vl} {d : List Bool} {k : Nat} {x y : Vl} (ha : a[k]? = some x) (hb : b[k]? = some y) :
    rowsV (a.drop k) (b.drop k) (d.drop k) = if cmpV x y = 0 then rowsV (a.drop (k + 1)) (b.drop (k + 1)) (d.drop (k + 1)) else if (d[k]?).getD false = true then -cmpV x y else cmpV x y := by
  have h1 := lt_of_at ha
  have h2 := lt_of_at hb
  have e1 : a[k] = x := by simpa [List.getElem?_eq_getElem h1] using ha
  have e2 : b[k] = y := by simpa [List.getElem?_eq_getElem h2] using hb
  rw [List.drop_eq_getElem_cons h1, List.drop_eq_getElem_cons h2, e1, e2]
  conv => lhs; unfold rowsV
  have e3 : (d.drop k).tail = d.drop (k + 1) := by rw [List.tail_drop]
  have e4 : (d.drop k).headD false = (d[k]?).getD false := by
    rw [← List.head?_drop]
    cases d.drop k <;> rfl
  rw [e3, e4]
theorem rowsV_end {a b : List Vl} {d : List Bool} {k : Nat} (h : ¬ (k < a.length ∧ k < b.length)) (ha : k ≤ a.length) (hb : k ≤ b.length) : rowsV (a.drop k) (b.drop k) (d.drop k) = cmpI a.length b.length := by
  unfold cmpI
  by_cases h1 : k < a.length
  · have : k = b.length := by omega
    subst this
    rw [List.drop_length, List.drop_eq_getElem_cons h1]
    unfold rowsV
    rw [if_neg (by omega), if_pos (by omega)]
  · have : k = a.length := by omega
    subst this
    rw [List.drop_length]
    by_cases h2 : a.length < b.length
    · rw [List.drop_eq_getElem_cons h2, if_pos (by omega)]
      rfl
    · rw [List.drop_eq_nil_of_le (by omega), if_neg (by omega), if_neg (by omega)]
      rfl

theorem cmpint_any (x y : Int) (w : World) : Calls Tryz.prog 51 #[.int .i64 x, .int .i64 y] w fun e w' => e = .returned (.int .i64 (cmpI x y)) ∧ w = w' := by
  unfold cmpI
  by_cases h1 : x < y
  · go_enter Tryz.func51, Tryz.ntmps51
    go_wp2
    go_ret
    exact ⟨rfl, rfl⟩
  · by_cases h2 : y < x
    · go_enter Tryz.func51, Tryz.ntmps51
      go_wp2
      go_ret
      exact ⟨rfl, rfl⟩
    · go_enter Tryz.func51, Tryz.ntmps51
      go_wp2
      go_ret
      exact ⟨rfl, rfl⟩

set_option maxRecDepth 100000 in
set_option maxHeartbeats 4000000 in
theorem compareRows_any (A1 A2 A3 : Option Addr) (n1 c1 n2 c2 n3 c3 : Nat) (a b : List Vl) (d : List Bool) (w : World)
    (h1 : Reads w w.heap.size 3 A1 n1 (vV a)) (h2 : Reads w w.heap.size 3 A2 n2 (vV b)) (h3 : Reads w w.heap.size 1 A3 n3 (d.map Value.bool)) (g1 : n1 ≤ maxLen) :
    Calls Tryz.prog 39 #[.slice A1 n1 c1, .slice A2 n2 c2, .slice A3 n3 c3] w (RetB w (.int .i64 (rowsV a b d))) := by
  have l1 : a.length = n1 := by have := h1.1; rw [vV_len] at this; omega
  have l2 : b.length = n2 := by have := h2.1; rw [vV_len] at this; omega
  have l3 : d.length = n3 := by have := h3.1; simp at this; omega
  have L1 := Lib.hid l1; clear l1
  have L2 := Lib.hid l2; clear l2
  have L3 := Lib.hid l3; clear l3
  unfold maxLen at g1
  go_enter Tryz.func39, Tryz.ntmps39
  go_wp2
  go_loopw [14] (fun i wr => ∃ k : Nat, k ≤ n1 ∧ k ≤ n2 ∧ i = .int .i64 k ∧ rowsV a b d = rowsV (a.drop k) (b.drop k) (d.drop k) ∧ Below w.heap.size w wr) (fun i _ => n1 - (intOf i).toNat)
  case atStart => exact ⟨0, Nat.zero_le _, Nat.zero_le _, rfl, rfl, Below.refl _ _⟩
  case round =>
    obtain ⟨k, hk1, hk2, rfl, he, hbw⟩ := hrel
    have hbz := hbw.size
    by_cases hlt : k < n1 ∧ k < n2
    · obtain ⟨k1, k2⟩ := hlt
      obtain ⟨ad, u, rfl, hub, hu, u0, u1, u2⟩ := (h1.below hbw).val k1
      obtain ⟨ad2, v, rfl, hvb, hv, v0, v1, v2⟩ := (h2.below hbw).val k2
      have hd := rowsV_drop (d := d) hu hv
      have hbd := cmpV_bd u v
      have HC := Lib.hid fun W => compare_any u v W
      have hcz : cmpV u v = 0 ∨ cmpV u v ≠ 0 := by omega
      generalize cmpV u v = c at *
      have He := Lib.hid (he.trans hd)
      clear he hd
      have q1 : (0 : Int) ≤ (k : Int) := by omega
      have q2 : (k : Int) < (n1 : Int) := by omega
      have q3 : (k : Int) < (n2 : Int) := by omega
      have qm : decide ((k : Int) < min (n1 : Int) (n2 : Int)) = true := by simp; omega
      obtain ⟨uk, ui, us⟩ := u
      obtain ⟨vk, vi, vs⟩ := v
      unfold Vl.agg at HC
      simp only at *
      have hS : Hid (∀ W, Below wr.heap.size wr W → W.cell? (ad.add (k * 3)) = some (.int .u8 uk) ∧ W.cell? ⟨(ad.add (k * 3)).block, (ad.add (k * 3)).off + 1, none⟩ = some (.int .i64 ui) ∧ W.cell? ⟨(ad.add (k * 3)).block, (ad.add (k * 3)).off + 2, none⟩ = some (.string us) ∧ W.cell? (ad2.add (k * 3)) = some (.int .u8 vk) ∧ W.cell? ⟨(ad2.add (k * 3)).block, (ad2.add (k * 3)).off + 1, none⟩ = some (.int .i64 vi) ∧ W.cell? ⟨(ad2.add (k * 3)).block, (ad2.add (k * 3)).off + 2, none⟩ = some (.string vs) ∧ Below wr.heap.size wr W) := by
        refine Lib.hid fun W hW => ⟨(hW.cell ?_).trans u0, (hW.cell ?_).trans u1, (hW.cell ?_).trans u2, (hW.cell ?_).trans v0, (hW.cell ?_).trans v1, (hW.cell ?_).trans v2, hW⟩
        all_goals (simp only [block_of_add]; omega)
      go_wp2_with fail
      go_region_held3 (fun W => W.cell? (ad.add (k * 3)) = some (.int .u8 uk) ∧ W.cell? ⟨(ad.add (k * 3)).block, (ad.add (k * 3)).off + 1, none⟩ = some (.int .i64 ui) ∧ W.cell? ⟨(ad.add (k * 3)).block, (ad.add (k * 3)).off + 2, none⟩ = some (.string us) ∧ W.cell? (ad2.add (k * 3)) = some (.int .u8 vk) ∧ W.cell? ⟨(ad2.add (k * 3)).block, (ad2.add (k * 3)).off + 1, none⟩ = some (.int .i64 vi) ∧ W.cell? ⟨(ad2.add (k * 3)).block, (ad2.add (k * 3)).off + 2, none⟩ = some (.string vs) ∧ Below wr.heap.size wr W)
        (first | exact hS.out _ (by (with_reducible repeat (first | exact Below.refl _ _ | exact hb1 | refine bto0 ?_ hb1 | refine bdr ?_ _ | refine Below.drew ?_ | refine ball ?_ _))) | assumption)
        (first | (go_at_call 33; (with_reducible refine (HC.out _).mono ?_); rintro e w1 ⟨rfl, hb1⟩))
      have hbw1 : Below w.heap.size w w1 := bto0 hbw (by (with_reducible repeat (first | exact Below.refl _ _ | exact hb1 | refine bto0 ?_ hb1 | refine bdr ?_ _ | refine Below.drew ?_ | refine ball ?_ _)))
      rcases hcz with rfl | hz
      · have He1 := Lib.hid (He.out.trans (if_pos rfl))
        clear He
        go_wp2
        go_roundw
        case rel => exact ⟨k + 1, by omega, by omega, by go_num, He1.out, hbw1⟩
        case measure => simp [intOf]; omega
      · have hcb : (c == 0) = false := by simpa using hz
        have He1 := Lib.hid (He.out.trans (if_neg hz))
        have hb0 := hbd.1
        have hb2 := hbd.2
        clear He hbd
        by_cases k3 : k < n3
        · obtain ⟨ad3, x, rfl, -, hx, hc3⟩ := (h3.below hbw1).at_ k3
          obtain ⟨t, ht, rfl⟩ : ∃ t, d[k]? = some t ∧ x = .bool t := by
            simp only [List.getElem?_map, Option.map_eq_some_iff] at hx
            obtain ⟨t, h1, rfl⟩ := hx
            exact ⟨t, h1, rfl⟩
          have q4 : (k : Int) < (n3 : Int) := by omega
          rw [ht] at He1
          clear ht hx
          cases t
          · go_wp2
            go_ret
            exact ⟨ret_int (by rw [He1.out]; rfl), hbw1⟩
          · go_wp2
            go_ret
            exact ⟨ret_int (by rw [He1.out]; rfl), hbw1⟩
        · have hn : d[k]? = none := List.getElem?_eq_none (by rw [L3.out]; omega)
          rw [hn] at He1
          clear hn
          go_wp2
          go_ret
          exact ⟨ret_int (by rw [He1.out]; rfl), hbw1⟩
    · have hr := rowsV_end (a := a) (b := b) (d := d) (k := k) (by rw [L1.out, L2.out]; exact hlt) (by rw [L1.out]; exact hk1) (by rw [L2.out]; exact hk2)
      rw [L1.out, L2.out] at hr
      have He := Lib.hid (he.trans hr)
      clear he hr
      have qm : decide ((k : Int) < min (n1 : Int) (n2 : Int)) = false := by simp; omega
      clear hlt hk1 hk2
      go_wp2_with (go_at_call 51; (with_reducible refine (cmpint_any _ _ _).mono ?_); rintro e w' ⟨rfl, rfl⟩)
      go_ret
      exact ⟨ret_int He.out.symm, hbw⟩

theorem rowsV_end1 {a b : List Vl} {d : List Bool} {k : Nat} (h1 : k < a.length) (h2 : k = b.length) : rowsV (a.drop k) (b.drop k) (d.drop k) = 1 := by
  rw [List.drop_eq_getElem_cons h1, List.drop_eq_nil_of_le (by omega : b.length ≤ k)]
  rfl

end Go.Proofs.YthpggfcindnlcaaGreatDoor
