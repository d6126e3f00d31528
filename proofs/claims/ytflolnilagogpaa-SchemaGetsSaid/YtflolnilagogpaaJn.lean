/-
  SchemaGets: the walk.
-/
import Derived.Test.YtflolnilagogpaaJm
import Derived.Test.YtflolnilagogpaaIm
import Derived.Test.YtflolnilagogpaaJf
import Derived.Test.YtflolnilagogpaaSl
set_option linter.unusedSimpArgs false
set_option linter.unusedVariables false
namespace Go.Proofs.Ytflolnilagogpaa
open Go.RowKit

set_option maxRecDepth 100000 in
set_option maxHeartbeats 8000000 in
theorem schemaGets_any (A : Option Addr) (n c : Nat) (bs : List UInt8) (w : World) (hr : Reads w w.heap.size 1 A n (bL bs)) (hnc : n ≤ c) (hc : c ≤ maxLen) :
    Calls Try.prog 4 #[.slice A n c] w (RetB w (.bool true)) := by
  have FX := Lib.hid fun W => fixed12_any W
  have hlen := hr.bytes_len
  have hnm : n ≤ maxLen := Nat.le_trans hnc hc
  have hnm' : n ≤ 9223372036854775807 := by unfold maxLen at hnm; omega
  by_cases h6 : 6000 < n
  · have e1 : decide ((6000 : Int) < (n : Int)) = true := by simp; omega
    clear hr hnc hc hnm hlen h6
    go_enter Try.func4, Try.ntmps4
    go_wp2_with fail
    refine (FX.out _).mono ?_
    rintro e w1 ⟨rfl, hb1⟩
    go_wp2
    go_ret
    exact ⟨rfl, hb1⟩
  have e1 : decide ((6000 : Int) < (n : Int)) = false := by simp; omega
  have GA := Lib.hid (get_any A n c bs w hr hnc)
  have RGT := Lib.hid fun W => rgetB_any bs W (by rw [hlen]; exact hnm)
  have HR := Lib.hid hr
  clear hr hnc hc hnm hlen h6
  go_enter Try.func4, Try.ntmps4
  go_wp2_with fail
  refine GA.out.mono ?_
  rintro e w1 ⟨A1, n1, c1, l, A2, n2, c2, r, e0, rfl, hk1, hb1, hor⟩
  have hba1 := ball (Below.refl w1.heap.size w1) (.cells #[.slice A1 n1 c1, .slice A2 n2 c2] 25)
  have b1 := ball hb1 (.cells #[.slice A1 n1 c1, .slice A2 n2 c2] 25)
  have cv := conv_reads (P := Try.prog) (HR.out.below b1) 28 5 9 Try.underlying28 Try.underlying5 Try.underlying9 c
  have X1 := Blk.new w1 25 #[.slice A1 n1 c1, .slice A2 n2 c2]
  have H1 := Lib.hid (And.intro (hk1.below hba1) (And.intro b1 X1))
  clear hk1 hb1 hba1 b1 X1 GA
  go_wp2_with fail
  refine (RGT.out _).mono ?_
  rintro e w2 ⟨B1, m1, d1, l', B2, m2, d2, r', ok, rfl, hk2, hb2, hor2⟩
  have hba2 := ball (Below.refl w2.heap.size w2) (.cells #[.slice B1 m1 d1, .slice B2 m2 d2] 25)
  have hkx := (H1.out.1.below hb2).below hba2
  have hky := hk2.below hba2
  have X2 := (H1.out.2.2.below hb2 H1.out.2.2.lt).alloc (.cells #[.slice B1 m1 d1, .slice B2 m2 d2] 25)
  have Y2 := Blk.new w2 25 #[.slice B1 m1 d1, .slice B2 m2 d2]
  have b2 := ball (bto0 H1.out.2.1 hb2) (.cells #[.slice B1 m1 d1, .slice B2 m2 d2] 25)
  have x0 : (w2.alloc (.cells #[.slice B1 m1 d1, .slice B2 m2 d2] 25)).cell? ⟨w1.heap.size, 0, none⟩ = some (.slice A1 n1 c1) := X2.cell 0
  have x1 : (w2.alloc (.cells #[.slice B1 m1 d1, .slice B2 m2 d2] 25)).cell? ⟨w1.heap.size, 1, none⟩ = some (.slice A2 n2 c2) := X2.cell 1
  have H2 := Lib.hid (And.intro hkx (And.intro hky (And.intro X2 (And.intro Y2 b2))))
  have hz1 := X2.lt
  clear hk2 hba2 hkx hky X2 Y2 b2 cv
  rcases hor with ⟨rfl, hg, hmay⟩ | ⟨rfl, rfl, rfl, hno⟩
  · rcases hor2 with ⟨rfl, hg2, hmay2⟩ | ⟨_, _, _, hno⟩
    rotate_left
    · exact absurd ⟨_, hg, hmay⟩ hno
    have heq : pbk l r = pbk l' r' := by
      rw [hg] at hg2
      injection hg2 with h
      injection h with h _
    have hbk : bookB (pbk l r) = bs := bookB_of hg
    have SA := Lib.hid (same_any12 A1 n1 c1 l A2 n2 c2 r B1 m1 d1 l' B2 m2 d2 r' _ H2.out.1 H2.out.2.1)
    have HE := Lib.hid (And.intro heq (And.intro hbk hmay))
    clear hg hg2 hmay hmay2 heq hbk hb2
    go_wp2_with fail
    refine SA.out.mono ?_
    rintro e w3 ⟨b, rfl, hbi, hb3⟩
    obtain rfl : b = true := hbi.2 HE.out.1
    have X3 := H2.out.2.2.1.below hb3 H2.out.2.2.1.lt
    have b3 := bto0 H2.out.2.2.2.2 hb3
    have hk3 := H2.out.1.below hb3
    have H3 := Lib.hid (And.intro X3 (And.intro b3 hk3))
    have hS : Hid (∀ W, Below w3.heap.size w3 W → W.cell? ⟨w1.heap.size, 0, none⟩ = some (.slice A1 n1 c1) ∧ W.cell? ⟨w1.heap.size, 1, none⟩ = some (.slice A2 n2 c2) ∧ (convert 28 9 (.slice A n c)).run Try.prog W = .ok (.string (str bs)) W ∧ Below w3.heap.size w3 W) := Lib.hid fun W hW => by
      have P := H3.out.1.below hW H3.out.1.lt
      exact ⟨P.cell 0, P.cell 1, conv_reads (P := Try.prog) (HR.out.below (bto0 H3.out.2.1 hW)) 28 5 9 Try.underlying28 Try.underlying5 Try.underlying9 c, hW⟩
    have MA : Hid (∀ W, Below w3.heap.size w3 W → Calls Try.prog 12 #[.agg #[.slice A1 n1 c1, .slice A2 n2 c2]] W (RetB W (.bool true))) := Lib.hid fun W hW => (rmay_any A1 n1 c1 l A2 n2 c2 r W (H3.out.2.2.below hW)).mono fun e w' ⟨b, he, hi, hb⟩ => ⟨by have hbv : b = true := hi.2 HE.out.2.2; rw [he, hbv], hb⟩
    have PA : Hid (∀ W, Below w3.heap.size w3 W → Calls Try.prog 14 #[.agg #[.slice A1 n1 c1, .slice A2 n2 c2]] W (RetB W (.string (str bs)))) := Lib.hid fun W hW => by
      have h := rput_any A1 n1 c1 l A2 n2 c2 r W (H3.out.2.2.below hW) HE.out.2.2
      rwa [HE.out.2.1] at h
    have ss : ((str bs).toList == (str bs).toList) = true := beq_self_eq_true _
    clear x0 x1 X3 b3 hk3 hb3 hbi SA
    go_wp2_with fail
    go_region_held3 (fun W => W.cell? ⟨w1.heap.size, 0, none⟩ = some (.slice A1 n1 c1) ∧ W.cell? ⟨w1.heap.size, 1, none⟩ = some (.slice A2 n2 c2) ∧ (convert 28 9 (.slice A n c)).run Try.prog W = .ok (.string (str bs)) W ∧ Below w3.heap.size w3 W)
      (first | exact hS.out _ (by (with_reducible repeat (first | exact Below.refl _ _ | exact hb12 | exact hb11 | exact hb10 | refine bto0 ?_ hb12 | refine bto0 ?_ hb11 | refine bto0 ?_ hb10 | refine bdr ?_ _ | refine Below.drew ?_ | refine ball ?_ _))) | assumption)
      (first
        | (go_at_call 7; (with_reducible refine (FX.out _).mono ?_); rintro e w10 ⟨rfl, hb10⟩)
        | (go_at_call 12; (with_reducible refine (MA.out _ (by (with_reducible repeat (first | exact Below.refl _ _ | exact hb12 | exact hb11 | exact hb10 | refine bto0 ?_ hb12 | refine bto0 ?_ hb11 | refine bto0 ?_ hb10 | refine bdr ?_ _ | refine Below.drew ?_ | refine ball ?_ _)))).mono ?_); rintro e w11 ⟨rfl, hb11⟩)
        | (go_at_call 14; (with_reducible refine (PA.out _ (by (with_reducible repeat (first | exact Below.refl _ _ | exact hb12 | exact hb11 | exact hb10 | refine bto0 ?_ hb12 | refine bto0 ?_ hb11 | refine bto0 ?_ hb10 | refine bdr ?_ _ | refine Below.drew ?_ | refine ball ?_ _)))).mono ?_); rintro e w12 ⟨rfl, hb12⟩))
    have bX : Below w3.heap.size w3 w12 := (by (with_reducible repeat (first | exact Below.refl _ _ | exact hb12 | exact hb11 | exact hb10 | refine bto0 ?_ hb12 | refine bto0 ?_ hb11 | refine bto0 ?_ hb10 | refine bdr ?_ _ | refine Below.drew ?_ | refine ball ?_ _)))
    go_wp2
    go_ret
    exact ⟨rfl, bto0 H3.out.2.1 bX⟩
  · rcases hor2 with ⟨rfl, hg2, hmay2⟩ | ⟨rfl, rfl, rfl, _⟩
    · exact absurd ⟨_, hg2, hmay2⟩ hno
    have SA := Lib.hid (same_any12 A1 n1 c1 [] A2 n2 c2 [] B1 m1 d1 [] B2 m2 d2 [] _ H2.out.1 H2.out.2.1)
    clear hb2 hno
    go_wp2_with fail
    refine SA.out.mono ?_
    rintro e w3 ⟨b, rfl, hbi, hb3⟩
    obtain rfl : b = true := hbi.2 (by first | rfl | trivial)
    have X3 := H2.out.2.2.1.below hb3 H2.out.2.2.1.lt
    have b3 := bto0 H2.out.2.2.2.2 hb3
    have hk3 := H2.out.1.below hb3
    have H3 := Lib.hid (And.intro X3 (And.intro b3 hk3))
    clear x0 x1 X3 b3 hk3 hb3 hbi SA
    go_wp2_with fail
    refine (FX.out _).mono ?_
    rintro e w4 ⟨rfl, hb4⟩
    have X4 := H3.out.1.below hb4 H3.out.1.lt
    have q0 : w4.cell? ⟨w1.heap.size, 0, none⟩ = some (.slice A1 n1 c1) := X4.cell 0
    have q1 : w4.cell? ⟨w1.heap.size, 1, none⟩ = some (.slice A2 n2 c2) := X4.cell 1
    have SB := Lib.hid (same_any12 A1 n1 c1 [] A2 n2 c2 [] none 0 0 [] none 0 0 [] _ (H3.out.2.2.below hb4) (bk_nil w4))
    have H4 := Lib.hid (bto0 H3.out.2.1 hb4)
    clear hb4 X4
    go_wp2_with fail
    refine SB.out.mono ?_
    rintro e w5 ⟨b, rfl, hbi, hb5⟩
    obtain rfl : b = true := hbi.2 (by first | rfl | trivial)
    have HB5 := Lib.hid (bto0 H4.out hb5)
    clear hb5 hbi q0 q1
    go_wp2
    go_ret
    exact ⟨rfl, HB5.out⟩
theorem schemaGets_all (A : Option Addr) (n c : Nat) (l : List Int) (w : World) (hr : Reads w w.heap.size 1 A n (l.map (Value.int .u8))) (hw : ∀ x ∈ l, (Lit.int .u8 x).wf = true) (hnc : n ≤ c) (hc : c ≤ maxLen) :
    Calls Try.prog 4 #[.slice A n c] w (RetB w (.bool true)) := by
  have hL : ∃ L : List UInt8, l.map (Value.int .u8) = bL L := by
    clear hr
    induction l with
    | nil => exact ⟨[], rfl⟩
    | cons x l ih =>
      obtain ⟨L, h1⟩ := ih fun y hy => hw y (by simp [hy])
      have hx := Go.bounds_u8 (hw x (by simp))
      refine ⟨UInt8.ofNat x.toNat :: L, ?_⟩
      rw [List.map_cons, h1]
      simp only [bL, List.map_cons]
      congr 1
      congr 1
      simp
      omega
  obtain ⟨L, hL⟩ := hL
  rw [hL] at hr
  exact schemaGets_any A n c L w hr hnc hc
end Go.Proofs.Ytflolnilagogpaa
