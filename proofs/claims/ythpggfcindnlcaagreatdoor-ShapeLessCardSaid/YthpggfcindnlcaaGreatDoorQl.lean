/-
  ShapeLess: the program's Less; the law.
-/
import Derived.Test.YthpggfcindnlcaaGreatDoorQk
import Derived.Test.YthpggfcindnlcaaGreatDoorQi
set_option linter.unusedSimpArgs false
set_option linter.unusedVariables false
namespace Go.Proofs.YthpggfcindnlcaaGreatDoor
open Go.RowKit

theorem lessK_asym {na nb : Nat} {a b : List Vl} {l : List Ky} (h : lessK na nb a b l = true) : lessK nb na b a l = false := by
  rw [lessK_eq] at h ⊢
  rw [sel_comm nb na b, sel_comm nb na a, selD_comm nb na, rowsV_swap (selL na nb a l) (selL na nb b l)]
  simp only [decide_eq_true_eq, decide_eq_false_iff_not] at h ⊢
  omega
theorem lessK_irr (n : Nat) (a : List Vl) (l : List Ky) : lessK n n a a l = false := by
  rw [lessK_eq, rowsV_same]
  rfl
set_option maxRecDepth 100000 in
set_option maxHeartbeats 4000000 in
theorem less28_any {w : World} {Ak Aa Ab : Option Addr} {nk ck na ca nb cb : Nat} {ks : List Ky} {a b : List Vl} (hk : Reads w w.heap.size 3 Ak nk (vKy ks)) (ha : Reads w w.heap.size 3 Aa na (vV a)) (hb : Reads w w.heap.size 3 Ab nb (vV b)) (hnk : nk ≤ 1000) (hna : na ≤ 10000) (hnb : nb ≤ 10000)
    (hks : ∀ x ∈ ks, -9223372036854775808 ≤ x.i ∧ x.i ≤ 9223372036854775807) :
    Calls Tryz.prog 9 #[.agg (ordQ Ak nk ck), .slice Aa na ca, .slice Ab nb cb] w (RetB w (.bool (lessK na nb a b ks))) := by
  have b0 := ball (Below.refl w.heap.size w) (.cells (ordQ Ak nk ck) 36)
  have CM := Lib.hid (compare28_any (ck := ck) (ca := ca) (cb := cb) (hk.up b0) (ha.up b0) (hb.up b0) hnk hna hnb hks)
  rw [lessK_eq]
  have hbd := rowsV_bd (selL na nb a ks) (selL na nb b ks) (selD na nb ks)
  obtain ⟨R, hR⟩ : ∃ R, rowsV (selL na nb a ks) (selL na nb b ks) (selD na nb ks) = R := ⟨_, rfl⟩
  rw [hR] at CM hbd ⊢
  have H0 := Lib.hid b0
  clear hk ha hb hks hR b0
  go_enter Tryz.func9, Tryz.ntmps9
  go_wp2_with fail
  refine CM.out.mono ?_
  rintro e w1 ⟨rfl, hb1⟩
  have H1 := Lib.hid (bto0 H0.out hb1)
  clear hb1 CM
  go_wp2
  go_ret
  exact ⟨rfl, H1.out⟩
set_option maxRecDepth 100000 in
set_option maxHeartbeats 4000000 in
theorem shapeLess_any {w : World} {Ak Aa Ab : Option Addr} {nk ck na ca nb cb : Nat} {ks : List Ky} {a b : List Vl} (hk : Reads w w.heap.size 3 Ak nk (vKy ks)) (ha : Reads w w.heap.size 3 Aa na (vV a)) (hb : Reads w w.heap.size 3 Ab nb (vV b)) (hnk : nk ≤ maxLen) (hna : na ≤ maxLen) (hnb : nb ≤ maxLen)
    (hks : ∀ x ∈ ks, -9223372036854775808 ≤ x.i ∧ x.i ≤ 9223372036854775807) (oa : ∀ v ∈ a, v.ok) (ob : ∀ v ∈ b, v.ok) :
    Calls Tryz.prog 4 #[.slice Ak nk ck, .slice Aa na ca, .slice Ab nb cb] w (RetB w (.bool true)) := by
  have F := Lib.hid fixed28_any
  have G1 := Lib.hid (great_any Aa na ca a w w.heap.size ha (fun v hv => (oa v hv).2.2) hna)
  have G2 := Lib.hid (great_any Ab nb cb b w w.heap.size hb (fun v hv => (ob v hv).2.2) hnb)
  have la : a.length = na := by have := ha.1; rw [vV_len] at this; omega
  have lb : b.length = nb := by have := hb.1; rw [vV_len] at this; omega
  unfold maxLen at hnk
  have nkI : (nk : Int) ≤ 9223372036854775807 := by omega
  by_cases hg : grV 0 a = true ∨ grV 0 b = true ∨ 100 < nk
  · have HG := Lib.hid hg
    clear hg hk ha hb oa ob hks la lb
    go_enter Tryz.func4, Tryz.ntmps4
    go_wp2_with fail
    refine G1.out.mono ?_
    rintro e w1 ⟨rfl, rfl⟩
    cases h1 : grV 0 a
    rotate_left
    · go_wp2_with fail
      refine (F.out _).mono ?_
      rintro e w2 ⟨rfl, hb2⟩
      go_wp2
      go_ret
      exact ⟨rfl, hb2⟩
    go_wp2_with fail
    refine G2.out.mono ?_
    rintro e w1 ⟨rfl, rfl⟩
    cases h2 : grV 0 b
    rotate_left
    · go_wp2_with fail
      refine (F.out _).mono ?_
      rintro e w2 ⟨rfl, hb2⟩
      go_wp2
      go_ret
      exact ⟨rfl, hb2⟩
    have h3 : 100 < nk := by
      rcases HG.out with h | h | h
      · rw [h1] at h; cases h
      · rw [h2] at h; cases h
      · exact h
    go_wp2_with fail
    refine (F.out _).mono ?_
    rintro e w2 ⟨rfl, hb2⟩
    go_wp2
    go_ret
    exact ⟨rfl, hb2⟩
  have g1 : grV 0 a = false := by cases h : grV 0 a with | false => rfl | true => exact absurd (.inl h) hg
  have g2 : grV 0 b = false := by cases h : grV 0 b with | false => rfl | true => exact absurd (.inr (.inl h)) hg
  have h3 : ¬ 100 < nk := fun h => hg (.inr (.inr h))
  rw [g1] at G1
  rw [g2] at G2
  have na5 : na ≤ 5000 := by have := grQ_len a 0 (by omega) g1; omega
  have nb5 : nb ≤ 5000 := by have := grQ_len b 0 (by omega) g2; omega
  have sa := grQ_sizes a 0 (by omega) g1
  have sb := grQ_sizes b 0 (by omega) g2
  have L1 := Lib.hid fun W (hW : Below w.heap.size w W) => less28_any (ck := ck) (ca := ca) (cb := cb) (hk.up hW) (ha.up hW) (hb.up hW) (by omega) (by omega) (by omega) hks
  have L2 := Lib.hid fun W (hW : Below w.heap.size w W) => less28_any (ck := ck) (ca := cb) (cb := ca) (hk.up hW) (hb.up hW) (ha.up hW) (by omega) (by omega) (by omega) hks
  have L3 := Lib.hid fun W (hW : Below w.heap.size w W) => less28_any (ck := ck) (ca := ca) (cb := ca) (hk.up hW) (ha.up hW) (ha.up hW) (by omega) (by omega) (by omega) hks
  have RL := Lib.hid fun W (hW : Below w.heap.size w W) => rlessK_any (ck := ck) (ca := ca) (cb := cb) (hk.up hW) (ha.up hW) (hb.up hW) (by omega) (by omega) (by omega) hks (fun v hv => Nat.le_trans (sa v hv) (by omega)) (fun v hv => Nat.le_trans (sb v hv) (by omega))
  have hirr := lessK_irr na a ks
  have hasy := fun h => lessK_asym (na := na) (nb := nb) (a := a) (b := b) (l := ks) h
  obtain ⟨X, hX⟩ : ∃ X, lessK na nb a b ks = X := ⟨_, rfl⟩
  obtain ⟨Y, hY⟩ : ∃ Y, lessK nb na b a ks = Y := ⟨_, rfl⟩
  rw [hX] at L1 RL hasy
  rw [hY] at L2 hasy
  rw [hirr] at L3
  have HA := Lib.hid hasy
  have X0 := Blk.new w 36 (ordQ Ak nk ck)
  have b0 := ball (Below.refl w.heap.size w) (.cells (ordQ Ak nk ck) 36)
  have H0 := Lib.hid (And.intro b0 X0)
  clear hg g1 g2 hk ha hb oa ob hks la lb sa sb hirr hasy hX hY X0 b0
  go_enter Tryz.func4, Tryz.ntmps4
  go_wp2_with fail
  refine G1.out.mono ?_
  rintro e w1 ⟨rfl, rfl⟩
  go_wp2_with fail
  refine G2.out.mono ?_
  rintro e w1 ⟨rfl, rfl⟩
  go_wp2_with fail
  refine (L1.out _ H0.out.1).mono ?_
  rintro e w2 ⟨rfl, hb2⟩
  have X2 := H0.out.2.below hb2 H0.out.2.lt
  have k0 : w2.cell? ⟨w.heap.size, 0, none⟩ = some (.bool false) := X2.cell 0
  have k1 : w2.cell? ⟨w.heap.size, 1, none⟩ = some (.slice none 0 0) := X2.cell 1
  have k2 : w2.cell? ⟨w.heap.size, 2, none⟩ = some (.slice none 0 0) := X2.cell 2
  have k3 : w2.cell? ⟨w.heap.size, 3, none⟩ = some (.slice none 0 0) := X2.cell 3
  have k4 : w2.cell? ⟨w.heap.size, 4, none⟩ = some (.slice none 0 0) := X2.cell 4
  have k5 : w2.cell? ⟨w.heap.size, 5, none⟩ = some (.slice none 0 0) := X2.cell 5
  have k6 : w2.cell? ⟨w.heap.size, 6, none⟩ = some (.bool false) := X2.cell 6
  have k7 : w2.cell? ⟨w.heap.size, 7, none⟩ = some (.slice none 0 0) := X2.cell 7
  have k8 : w2.cell? ⟨w.heap.size, 8, none⟩ = some (.slice none 0 0) := X2.cell 8
  have k9 : w2.cell? ⟨w.heap.size, 9, none⟩ = some (.slice Ak nk ck) := X2.cell 9
  have k10 : w2.cell? ⟨w.heap.size, 10, none⟩ = some (.int .i64 0) := X2.cell 10
  have xl := X2.lt
  have H2 := Lib.hid (And.intro (bto0 H0.out.1 hb2) X2)
  clear hb2 X2
  cases X
  · go_wp2_with fail
    refine (F.out _).mono ?_
    rintro e w3 ⟨rfl, hb3⟩
    have X3 := H2.out.2.below hb3 H2.out.2.lt
    clear k0 k1 k2 k3 k4 k5 k6 k7 k8 k9 k10 xl
    have k0 : w3.cell? ⟨w.heap.size, 0, none⟩ = some (.bool false) := X3.cell 0
    have k1 : w3.cell? ⟨w.heap.size, 1, none⟩ = some (.slice none 0 0) := X3.cell 1
    have k2 : w3.cell? ⟨w.heap.size, 2, none⟩ = some (.slice none 0 0) := X3.cell 2
    have k3 : w3.cell? ⟨w.heap.size, 3, none⟩ = some (.slice none 0 0) := X3.cell 3
    have k4 : w3.cell? ⟨w.heap.size, 4, none⟩ = some (.slice none 0 0) := X3.cell 4
    have k5 : w3.cell? ⟨w.heap.size, 5, none⟩ = some (.slice none 0 0) := X3.cell 5
    have k6 : w3.cell? ⟨w.heap.size, 6, none⟩ = some (.bool false) := X3.cell 6
    have k7 : w3.cell? ⟨w.heap.size, 7, none⟩ = some (.slice none 0 0) := X3.cell 7
    have k8 : w3.cell? ⟨w.heap.size, 8, none⟩ = some (.slice none 0 0) := X3.cell 8
    have k9 : w3.cell? ⟨w.heap.size, 9, none⟩ = some (.slice Ak nk ck) := X3.cell 9
    have k10 : w3.cell? ⟨w.heap.size, 10, none⟩ = some (.int .i64 0) := X3.cell 10
    have xl := X3.lt
    have H3 := Lib.hid (And.intro (bto0 H2.out.1 hb3) X3)
    clear hb3 X3
    go_wp2_with fail
    refine (RL.out _ H3.out.1).mono ?_
    rintro e w4 ⟨rfl, hb4⟩
    have X4 := H3.out.2.below hb4 H3.out.2.lt
    clear k0 k1 k2 k3 k4 k5 k6 k7 k8 k9 k10 xl
    have k0 : w4.cell? ⟨w.heap.size, 0, none⟩ = some (.bool false) := X4.cell 0
    have k1 : w4.cell? ⟨w.heap.size, 1, none⟩ = some (.slice none 0 0) := X4.cell 1
    have k2 : w4.cell? ⟨w.heap.size, 2, none⟩ = some (.slice none 0 0) := X4.cell 2
    have k3 : w4.cell? ⟨w.heap.size, 3, none⟩ = some (.slice none 0 0) := X4.cell 3
    have k4 : w4.cell? ⟨w.heap.size, 4, none⟩ = some (.slice none 0 0) := X4.cell 4
    have k5 : w4.cell? ⟨w.heap.size, 5, none⟩ = some (.slice none 0 0) := X4.cell 5
    have k6 : w4.cell? ⟨w.heap.size, 6, none⟩ = some (.bool false) := X4.cell 6
    have k7 : w4.cell? ⟨w.heap.size, 7, none⟩ = some (.slice none 0 0) := X4.cell 7
    have k8 : w4.cell? ⟨w.heap.size, 8, none⟩ = some (.slice none 0 0) := X4.cell 8
    have k9 : w4.cell? ⟨w.heap.size, 9, none⟩ = some (.slice Ak nk ck) := X4.cell 9
    have k10 : w4.cell? ⟨w.heap.size, 10, none⟩ = some (.int .i64 0) := X4.cell 10
    have xl := X4.lt
    have H4 := Lib.hid (And.intro (bto0 H3.out.1 hb4) X4)
    clear hb4 X4
    go_wp2_with fail
    refine (L3.out _ H4.out.1).mono ?_
    rintro e w6 ⟨rfl, hb6⟩
    have H6 := Lib.hid (bto0 H4.out.1 hb6)
    clear hb6 k0 k1 k2 k3 k4 k5 k6 k7 k8 k9 k10 xl
    go_wp2
    go_ret
    exact ⟨rfl, H6.out⟩
  · go_wp2_with fail
    refine (F.out _).mono ?_
    rintro e w3 ⟨rfl, hb3⟩
    have X3 := H2.out.2.below hb3 H2.out.2.lt
    clear k0 k1 k2 k3 k4 k5 k6 k7 k8 k9 k10 xl
    have k0 : w3.cell? ⟨w.heap.size, 0, none⟩ = some (.bool false) := X3.cell 0
    have k1 : w3.cell? ⟨w.heap.size, 1, none⟩ = some (.slice none 0 0) := X3.cell 1
    have k2 : w3.cell? ⟨w.heap.size, 2, none⟩ = some (.slice none 0 0) := X3.cell 2
    have k3 : w3.cell? ⟨w.heap.size, 3, none⟩ = some (.slice none 0 0) := X3.cell 3
    have k4 : w3.cell? ⟨w.heap.size, 4, none⟩ = some (.slice none 0 0) := X3.cell 4
    have k5 : w3.cell? ⟨w.heap.size, 5, none⟩ = some (.slice none 0 0) := X3.cell 5
    have k6 : w3.cell? ⟨w.heap.size, 6, none⟩ = some (.bool false) := X3.cell 6
    have k7 : w3.cell? ⟨w.heap.size, 7, none⟩ = some (.slice none 0 0) := X3.cell 7
    have k8 : w3.cell? ⟨w.heap.size, 8, none⟩ = some (.slice none 0 0) := X3.cell 8
    have k9 : w3.cell? ⟨w.heap.size, 9, none⟩ = some (.slice Ak nk ck) := X3.cell 9
    have k10 : w3.cell? ⟨w.heap.size, 10, none⟩ = some (.int .i64 0) := X3.cell 10
    have xl := X3.lt
    have H3 := Lib.hid (And.intro (bto0 H2.out.1 hb3) X3)
    clear hb3 X3
    go_wp2_with fail
    refine (RL.out _ H3.out.1).mono ?_
    rintro e w4 ⟨rfl, hb4⟩
    have X4 := H3.out.2.below hb4 H3.out.2.lt
    clear k0 k1 k2 k3 k4 k5 k6 k7 k8 k9 k10 xl
    have k0 : w4.cell? ⟨w.heap.size, 0, none⟩ = some (.bool false) := X4.cell 0
    have k1 : w4.cell? ⟨w.heap.size, 1, none⟩ = some (.slice none 0 0) := X4.cell 1
    have k2 : w4.cell? ⟨w.heap.size, 2, none⟩ = some (.slice none 0 0) := X4.cell 2
    have k3 : w4.cell? ⟨w.heap.size, 3, none⟩ = some (.slice none 0 0) := X4.cell 3
    have k4 : w4.cell? ⟨w.heap.size, 4, none⟩ = some (.slice none 0 0) := X4.cell 4
    have k5 : w4.cell? ⟨w.heap.size, 5, none⟩ = some (.slice none 0 0) := X4.cell 5
    have k6 : w4.cell? ⟨w.heap.size, 6, none⟩ = some (.bool false) := X4.cell 6
    have k7 : w4.cell? ⟨w.heap.size, 7, none⟩ = some (.slice none 0 0) := X4.cell 7
    have k8 : w4.cell? ⟨w.heap.size, 8, none⟩ = some (.slice none 0 0) := X4.cell 8
    have k9 : w4.cell? ⟨w.heap.size, 9, none⟩ = some (.slice Ak nk ck) := X4.cell 9
    have k10 : w4.cell? ⟨w.heap.size, 10, none⟩ = some (.int .i64 0) := X4.cell 10
    have xl := X4.lt
    have H4 := Lib.hid (And.intro (bto0 H3.out.1 hb4) X4)
    clear hb4 X4
    obtain rfl : Y = false := HA.out (by simp)
    go_wp2_with fail
    refine (L2.out _ H4.out.1).mono ?_
    rintro e w5 ⟨rfl, hb5⟩
    have X5 := H4.out.2.below hb5 H4.out.2.lt
    clear k0 k1 k2 k3 k4 k5 k6 k7 k8 k9 k10 xl
    have k0 : w5.cell? ⟨w.heap.size, 0, none⟩ = some (.bool false) := X5.cell 0
    have k1 : w5.cell? ⟨w.heap.size, 1, none⟩ = some (.slice none 0 0) := X5.cell 1
    have k2 : w5.cell? ⟨w.heap.size, 2, none⟩ = some (.slice none 0 0) := X5.cell 2
    have k3 : w5.cell? ⟨w.heap.size, 3, none⟩ = some (.slice none 0 0) := X5.cell 3
    have k4 : w5.cell? ⟨w.heap.size, 4, none⟩ = some (.slice none 0 0) := X5.cell 4
    have k5 : w5.cell? ⟨w.heap.size, 5, none⟩ = some (.slice none 0 0) := X5.cell 5
    have k6 : w5.cell? ⟨w.heap.size, 6, none⟩ = some (.bool false) := X5.cell 6
    have k7 : w5.cell? ⟨w.heap.size, 7, none⟩ = some (.slice none 0 0) := X5.cell 7
    have k8 : w5.cell? ⟨w.heap.size, 8, none⟩ = some (.slice none 0 0) := X5.cell 8
    have k9 : w5.cell? ⟨w.heap.size, 9, none⟩ = some (.slice Ak nk ck) := X5.cell 9
    have k10 : w5.cell? ⟨w.heap.size, 10, none⟩ = some (.int .i64 0) := X5.cell 10
    have xl := X5.lt
    have H5 := Lib.hid (And.intro (bto0 H4.out.1 hb5) X5)
    clear hb5 X5
    go_wp2_with fail
    refine (L3.out _ H5.out.1).mono ?_
    rintro e w6 ⟨rfl, hb6⟩
    have H6 := Lib.hid (bto0 H5.out.1 hb6)
    clear hb6 k0 k1 k2 k3 k4 k5 k6 k7 k8 k9 k10 xl
    go_wp2
    go_ret
    exact ⟨rfl, H6.out⟩
end Go.Proofs.YthpggfcindnlcaaGreatDoor
