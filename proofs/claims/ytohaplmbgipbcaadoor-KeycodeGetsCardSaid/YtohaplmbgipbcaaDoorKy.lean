/-
  The law KeycodeGets: its walk.
-/
import Derived.Test.YtohaplmbgipbcaaDoorKx
import Derived.Test.YtohaplmbgipbcaaDoorKq
set_option linter.unusedSimpArgs false
namespace Go.Proofs.YtohaplmbgipbcaaDoor
open Go.RowKit

theorem escL_ge (s : List UInt8) : s.length ≤ (escL s).length := by
  induction s with
  | nil => simp
  | cons c r ih => rw [escL_cons]; split <;> simp <;> omega
theorem keyV_ge {v : Vl} (h : mayV v = true) : 1 + v.s.size ≤ (keyV v).length := by
  rcases may_cases h with rfl | ⟨i, rfl⟩ | rfl | rfl | ⟨s, rfl, hs⟩
  · exact Nat.le_refl _
  · show 1 + 0 ≤ (2 :: keyI i).length
    simp
  · show 1 + 0 ≤ ([_, _] : List UInt8).length
    simp
  · show 1 + 0 ≤ ([_, _] : List UInt8).length
    simp
  · show 1 + s.size ≤ (4 :: (escL s.data.toList ++ [0, 1])).length
    have := escL_ge s.data.toList
    rw [szl] at this
    simp only [List.length_cons, List.length_append, List.length_nil]
    omega
theorem grV_key : ∀ (l : List Vl) (q : Int), allMay l = true → q + ((keyR l).length : Nat) ≤ 5000 → grV q l = false
  | [], _, _, _ => rfl
  | v :: l, q, h, hq => by
    obtain ⟨hv, hl⟩ := allMay_cons h
    have h1 := keyV_ge hv
    rw [keyR_cons, List.length_append] at hq
    rw [grV, if_neg (by omega)]
    exact grV_key l _ hl (by omega)

set_option maxRecDepth 100000 in
set_option maxHeartbeats 4000000 in
theorem lgets_any (s : ByteArray) (w : World) (hm : MaxC w) : Calls Tryd.prog 4 #[.string s] w (RetB w (.bool true)) := by
  have HF := Lib.hid fun (W : World) (hb : Below w.heap.size w W) => fixed5_any W (hm.below0 hb)
  by_cases h5 : 5000 < s.size
  · have g5 : (5000 : Int) < (s.size : Int) := by omega
    clear hm
    go_enter Tryd.func4, Tryd.ntmps4
    go_wp2_with fail
    refine (HF.out _ (Below.refl _ _)).mono ?_
    rintro e w1 ⟨rfl, hb1⟩
    go_wp2
    go_ret
    exact ⟨rfl, hb1⟩
  have g5 : (s.size : Int) ≤ 5000 := by omega
  have G1 := fun W => kget_any s W (by omega)
  have G2 := fun W => rkget_any s W (by omega)
  obtain ⟨hok, hback⟩ := kdR_back s.data.toList.length s.data.toList (Nat.le_refl _)
  unfold RetGet at G1 G2
  have hsl : (kdR s.data.toList).2 = 0 → (keyR (kdR s.data.toList).1).length ≤ 5000 := fun h => by rw [(hback h).2, szl]; omega
  have hstr : str s.data.toList = s := str_of s
  obtain ⟨D, hD⟩ : ∃ D, kdR s.data.toList = D := ⟨_, rfl⟩
  rw [hD] at G1 G2 hok hback hsl
  have hbad : D.2 ≠ 0 → D.1.length = 0 := by
    intro h
    have := comb_nil s.data.toList
    rw [hD] at this
    unfold comb at this
    rw [if_neg h] at this
    rw [← this]; rfl
  obtain ⟨l, er⟩ := D
  simp only at G1 G2 hok hback hsl hbad
  clear hD
  have H1 := Lib.hid G1; clear G1
  have H2 := Lib.hid G2; clear G2
  by_cases h0 : er = 0
  · subst h0
    obtain ⟨ha, hk⟩ := hback rfl
    have hg := grV_key l 0 ha (by have := hsl rfl; omega)
    have hnn : l.length ≤ 1000000 := by have := (grV_bd hg).1; omega
    have P := fun (W : World) (A : Option Addr) (c : Nat) (hb : Below w.heap.size w W) (hr : Reads W W.heap.size 3 A l.length (vV l)) => kput_any A l.length c l W (hm.below0 hb) hr hok hg
    unfold RetPut at P
    rw [(row_self_ok ha).1, (row_self_ok ha).2, hk, hstr] at P
    have SM := fun (W : World) (A : Option Addr) (c : Nat) (A2 : Option Addr) (c2 : Nat) (h1 : Reads W W.heap.size 3 A l.length (vV l)) (h2 : Reads W W.heap.size 3 A2 l.length (vV l)) => same_any A l.length c A2 c2 l W h1 h2 hnn
    have HP := Lib.hid P; clear P
    have HS := Lib.hid SM; clear SM
    clear hok hback hsl hbad ha hk hg hm hstr h5
    go_enter Tryd.func4, Tryd.ntmps4
    go_wp2_with fail
    refine (H1.out _).mono ?_
    rintro e w1 ⟨A1, c1, rfl, hc1, hr1, hb1⟩
    go_wp2_with fail
    refine (H2.out _).mono ?_
    rintro e w2 ⟨A2, c2, rfl, hc2, hr2, hb2⟩
    go_wp2_with fail
    refine (HF.out _ (by (with_reducible repeat (first | exact Below.refl _ _ | exact hb2 | exact hb1 | refine bto0 ?_ hb2 | refine bto0 ?_ hb1 | refine bdr ?_ _ | refine Below.drew ?_ | refine ball ?_ _)))).mono ?_
    rintro e w3 ⟨rfl, hb3⟩
    have hr1' : Reads w3 w3.heap.size 3 A1 l.length (vV l) := ((hr1.below (bto0 hb2 hb3)).more (bto0 hb2 hb3).size)
    have hr2' : Reads w3 w3.heap.size 3 A2 l.length (vV l) := ((hr2.below hb3).more hb3.size)
    go_wp2_with fail
    refine (HS.out _ A1 c1 A2 c2 hr1' hr2').mono ?_
    rintro e w4 ⟨rfl, hb4⟩
    have hr1'' : Reads w4 w4.heap.size 3 A1 l.length (vV l) := ((hr1'.below hb4).more hb4.size)
    go_wp2_with fail
    refine (HP.out _ A1 c1 (by (with_reducible repeat (first | exact Below.refl _ _ | exact hb4 | exact hb3 | exact hb2 | exact hb1 | refine bto0 ?_ hb4 | refine bto0 ?_ hb3 | refine bto0 ?_ hb2 | refine bto0 ?_ hb1 | refine bdr ?_ _ | refine Below.drew ?_ | refine ball ?_ _))) hr1'').mono ?_
    rintro e w5 ⟨rfl, hb5⟩
    go_wp2
    go_ret
    exact ⟨ret_bool (by simp), by (with_reducible repeat (first | exact Below.refl _ _ | exact hb5 | exact hb4 | exact hb3 | exact hb2 | exact hb1 | refine bto0 ?_ hb5 | refine bto0 ?_ hb4 | refine bto0 ?_ hb3 | refine bto0 ?_ hb2 | refine bto0 ?_ hb1 | refine bdr ?_ _ | refine Below.drew ?_ | refine ball ?_ _))⟩
  · have hneb : (er != 0) = true := by simpa using h0
    obtain rfl : l = [] := List.eq_nil_of_length_eq_zero (hbad h0)
    have SM := fun (W : World) (A : Option Addr) (c : Nat) (A2 : Option Addr) (c2 : Nat) => same_any A 0 c A2 c2 [] W (zero_reads _ _ _) (zero_reads _ _ _) (by omega)
    have HS := Lib.hid SM; clear SM
    clear hok hback hsl hbad hm hstr h5
    go_enter Tryd.func4, Tryd.ntmps4
    go_wp2_with fail
    refine (H1.out _).mono ?_
    rintro e w1 ⟨A1, c1, rfl, hc1, hr1, hb1⟩
    go_wp2_with fail
    refine (H2.out _).mono ?_
    rintro e w2 ⟨A2, c2, rfl, hc2, hr2, hb2⟩
    go_wp2_with fail
    refine (HF.out _ (by (with_reducible repeat (first | exact Below.refl _ _ | exact hb2 | exact hb1 | refine bto0 ?_ hb2 | refine bto0 ?_ hb1 | refine bdr ?_ _ | refine Below.drew ?_ | refine ball ?_ _)))).mono ?_
    rintro e w3 ⟨rfl, hb3⟩
    go_wp2_with fail
    refine (HS.out _ A1 c1 A2 c2).mono ?_
    rintro e w4 ⟨rfl, hb4⟩
    go_wp2
    go_ret
    exact ⟨ret_bool (by simp), by (with_reducible repeat (first | exact Below.refl _ _ | exact hb4 | exact hb3 | exact hb2 | exact hb1 | refine bto0 ?_ hb4 | refine bto0 ?_ hb3 | refine bto0 ?_ hb2 | refine bto0 ?_ hb1 | refine bdr ?_ _ | refine Below.drew ?_ | refine ball ?_ _))⟩
end Go.Proofs.YtohaplmbgipbcaaDoor
