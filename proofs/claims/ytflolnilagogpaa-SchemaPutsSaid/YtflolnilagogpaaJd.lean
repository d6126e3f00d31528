/-
  SchemaPuts: the walk.
-/
import Derived.Test.YtflolnilagogpaaIm
import Derived.Test.YtflolnilagogpaaJc
set_option linter.unusedSimpArgs false
set_option linter.unusedVariables false
namespace Go.Proofs.Ytflolnilagogpaa
open Go.RowKit

set_option maxRecDepth 100000 in
set_option maxHeartbeats 8000000 in
theorem schemaPuts_any (A : Option Addr) (n c : Nat) (l : List Tb) (B : Option Addr) (m d : Nat) (r : List Ix) (s : ByteArray) (w : World) (hk : BkIn w A n c l B m d r) (hn : n ≤ 2199023255552) (hs : s.size ≤ maxLen) :
    Calls Try.prog 3 #[.agg #[.slice A n c, .slice B m d], .string s] w (RetB w (.bool true)) := by
  obtain ⟨nb, hnb⟩ : ∃ b, nameB s.data.toList = b := ⟨_, rfl⟩
  obtain ⟨v, hv, hvm⟩ : ∃ v : Bool, (v = true ↔ MayB (pbk l r)) ∧ (v = true ∨ v = false) := by
    by_cases h : MayB (pbk l r)
    · exact ⟨true, by simp [h], by simp⟩
    · exact ⟨false, by simp [h], by simp⟩
  have FX := Lib.hid fun W => fixed12_any W
  have GA := Lib.hid fun W (hW : Below w.heap.size w W) => gr_any A n c l B m d r W (hk.below hW) hn
  have NA : Hid (∀ W, Calls Try.prog 9 #[.string s] W fun e w' => e = .returned (.bool nb) ∧ W = w') := Lib.hid fun W => by have h := name2_any s hs W; rwa [hnb] at h
  have NB : Hid (∀ W, Calls Try.prog 10 #[.string s] W fun e w' => e = .returned (.bool nb) ∧ W = w') := Lib.hid fun W => by have h := rname_any s hs W; rwa [hnb] at h
  have MA : Hid (∀ W, Below w.heap.size w W → Calls Try.prog 11 #[.agg #[.slice A n c, .slice B m d]] W (RetB W (.bool v))) := Lib.hid fun W hW => (may_any A n c l B m d r W (hk.below hW)).mono fun e w' ⟨b, he, hi, hb⟩ => ⟨by have hbv : b = v := (by rw [Bool.eq_iff_iff, hi, hv]); rw [he, hbv], hb⟩
  have MB : Hid (∀ W, Below w.heap.size w W → Calls Try.prog 12 #[.agg #[.slice A n c, .slice B m d]] W (RetB W (.bool v))) := Lib.hid fun W hW => (rmay_any A n c l B m d r W (hk.below hW)).mono fun e w' ⟨b, he, hi, hb⟩ => ⟨by have hbv : b = v := (by rw [Bool.eq_iff_iff, hi, hv]); rw [he, hbv], hb⟩
  have HK := Lib.hid (And.intro hk hv)
  have HB0 : Hid (Below w.heap.size w (w.alloc (.cells #[.slice A n c, .slice B m d] 25)) ∧ Blk (w.alloc (.cells #[.slice A n c, .slice B m d] 25)) w.heap.size 25 #[.slice A n c, .slice B m d]) := Lib.hid ⟨ball (Below.refl _ _) _, Blk.newAt (by simp)⟩
  have nn : (nb != nb) = false := by cases nb <;> rfl
  have nn2 : (nb == nb) = true := by cases nb <;> rfl
  clear hk hn hv hnb hs
  go_enter Try.func3, Try.ntmps3
  by_cases h3 : (3000 : Int) < (s.size : Int)
  all_goals
    go_wp2_with fail
    refine (GA.out _ HB0.out.1).mono ?_
    rintro e w1 ⟨b, rfl, hb1, _⟩
    have P := HB0.out.2.below hb1 HB0.out.2.lt
    have P_0 : (w1).cell? ⟨w.heap.size, 0, none⟩ = some (.slice A n c) := P.cell 0
    have P_1 : (w1).cell? ⟨w.heap.size, 1, none⟩ = some (.slice B m d) := P.cell 1
    have HB1 : Hid (Below w.heap.size w w1 ∧ Blk w1 w.heap.size 25 #[.slice A n c, .slice B m d]) := Lib.hid ⟨bto0 HB0.out.1 hb1, P⟩
    clear P hb1
    cases b
    case true =>
      go_wp2_with fail
      refine (FX.out _).mono ?_
      rintro e wf ⟨rfl, hbf⟩
      go_wp2
      go_ret
      exact ⟨rfl, bto0 HB1.out.1 hbf⟩
  · go_wp2_with fail
    refine (FX.out _).mono ?_
    rintro e wf ⟨rfl, hbf⟩
    go_wp2
    go_ret
    exact ⟨rfl, bto0 HB1.out.1 hbf⟩
  obtain rfl | rfl := hvm
  · have hmay := HK.out.2.1 rfl
    go_wp2_with fail
    refine (put_any A n c l B m d r w1 (HK.out.1.below HB1.out.1) hmay).mono ?_
    rintro e w2 ⟨A0, n0, c0, rfl, own0, hb2⟩
    have hnc : n0 ≤ c0 := by
      obtain ⟨A', c', e, h⟩ := own0.form
      cases e
      exact h
    have P := HB1.out.2.below hb2 HB1.out.2.lt
    have P_0 : (w2).cell? ⟨w.heap.size, 0, none⟩ = some (.slice A n c) := P.cell 0
    have P_1 : (w2).cell? ⟨w.heap.size, 1, none⟩ = some (.slice B m d) := P.cell 1
    have HB2 : Hid (Below w.heap.size w w2 ∧ Blk w2 w.heap.size 25 #[.slice A n c, .slice B m d]) := Lib.hid ⟨bto0 HB1.out.1 hb2, P⟩
    have RD := Lib.hid own0.reads.1
    have GT : Hid (∀ W, Below w2.heap.size w2 W → Calls Try.prog 13 #[.slice A0 n0 c0] W (fun e w' => ∃ (A1 : Option Addr) (n1 c1 : Nat) (l1 : List Tb) (A2 : Option Addr) (n2 c2 : Nat) (r1 : List Ix), e = .returned (.tuple #[.agg #[.slice A1 n1 c1, .slice A2 n2 c2], .int .i64 0]) ∧ BkIn w' A1 n1 c1 l1 A2 n2 c2 r1 ∧ Below W.heap.size W w' ∧ pbk l1 r1 = pbk l r)) := Lib.hid fun W hW => (get_any A0 n0 c0 (bookB (pbk l r)) W ((RD.out.below hW).more hW.size) hnc).mono fun e w' ⟨A1, n1, c1, l1, A2, n2, c2, r1, e0, he, hk1, hb, hor⟩ => by
      have hg := gBook_put hmay []
      rw [List.append_nil] at hg
      rcases hor with ⟨h0, hq, _⟩ | ⟨_, _, _, hno⟩
      · rw [hg] at hq
        injection hq with hq
        injection hq with hq _
        exact ⟨A1, n1, c1, l1, A2, n2, c2, r1, by rw [he, h0], hk1, hb, hq.symm⟩
      · exact absurd ⟨_, hg, hmay⟩ hno
    clear P hb2 own0
    have hS : Hid (∀ W, Below w2.heap.size w2 W → W.cell? ⟨w.heap.size, 0, none⟩ = some (.slice A n c) ∧ W.cell? ⟨w.heap.size, 1, none⟩ = some (.slice B m d) ∧ Below w2.heap.size w2 W) := Lib.hid fun W hW => by
      have P := HB2.out.2.below hW HB2.out.2.lt
      exact ⟨P.cell 0, P.cell 1, hW⟩
    have NA2 : Hid (∀ W, Below w2.heap.size w2 W → Calls Try.prog 9 #[.string s] W (RetB W (.bool nb))) := Lib.hid fun W hW => (NA.out W).mono fun e w' ⟨he, hw⟩ => ⟨he, hw ▸ Below.refl _ _⟩
    have NB2 : Hid (∀ W, Below w2.heap.size w2 W → Calls Try.prog 10 #[.string s] W (RetB W (.bool nb))) := Lib.hid fun W hW => (NB.out W).mono fun e w' ⟨he, hw⟩ => ⟨he, hw ▸ Below.refl _ _⟩
    have MA2 := Lib.hid fun W (hW : Below w2.heap.size w2 W) => MA.out W (bto0 HB2.out.1 hW)
    have MB2 := Lib.hid fun W (hW : Below w2.heap.size w2 W) => MB.out W (bto0 HB2.out.1 hW)
    go_wp2_with fail
    go_region_held3 (fun W => W.cell? ⟨w.heap.size, 0, none⟩ = some (.slice A n c) ∧ W.cell? ⟨w.heap.size, 1, none⟩ = some (.slice B m d) ∧ Below w2.heap.size w2 W)
      (first | exact hS.out _ (by with_reducible repeat (first | exact Below.refl _ _ | exact hb6 | exact hb5 | exact hb4 | exact hb3 | refine bto0 ?_ hb6 | refine bto0 ?_ hb5 | refine bto0 ?_ hb4 | refine bto0 ?_ hb3 | refine Below.drew ?_ | refine bdr ?_ _ | refine ball ?_ _)) | assumption)
      (first
        | (go_at_call 9; (with_reducible refine (NA2.out _ (by with_reducible repeat (first | exact Below.refl _ _ | exact hb6 | exact hb5 | exact hb4 | exact hb3 | refine bto0 ?_ hb6 | refine bto0 ?_ hb5 | refine bto0 ?_ hb4 | refine bto0 ?_ hb3 | refine Below.drew ?_ | refine bdr ?_ _ | refine ball ?_ _))).mono ?_); rintro e w3 ⟨rfl, hb3⟩)
        | (go_at_call 10; (with_reducible refine (NB2.out _ (by with_reducible repeat (first | exact Below.refl _ _ | exact hb6 | exact hb5 | exact hb4 | exact hb3 | refine bto0 ?_ hb6 | refine bto0 ?_ hb5 | refine bto0 ?_ hb4 | refine bto0 ?_ hb3 | refine Below.drew ?_ | refine bdr ?_ _ | refine ball ?_ _))).mono ?_); rintro e w4 ⟨rfl, hb4⟩)
        | (go_at_call 11; (with_reducible refine (MA2.out _ (by with_reducible repeat (first | exact Below.refl _ _ | exact hb6 | exact hb5 | exact hb4 | exact hb3 | refine bto0 ?_ hb6 | refine bto0 ?_ hb5 | refine bto0 ?_ hb4 | refine bto0 ?_ hb3 | refine Below.drew ?_ | refine bdr ?_ _ | refine ball ?_ _))).mono ?_); rintro e w5 ⟨rfl, hb5⟩)
        | (go_at_call 12; (with_reducible refine (MB2.out _ (by with_reducible repeat (first | exact Below.refl _ _ | exact hb6 | exact hb5 | exact hb4 | exact hb3 | refine bto0 ?_ hb6 | refine bto0 ?_ hb5 | refine bto0 ?_ hb4 | refine bto0 ?_ hb3 | refine Below.drew ?_ | refine bdr ?_ _ | refine ball ?_ _))).mono ?_); rintro e w6 ⟨rfl, hb6⟩))
    have bX : Below w2.heap.size w2 w6 := (by with_reducible repeat (first | exact Below.refl _ _ | exact hb6 | exact hb5 | exact hb4 | exact hb3 | refine bto0 ?_ hb6 | refine bto0 ?_ hb5 | refine bto0 ?_ hb4 | refine bto0 ?_ hb3 | refine Below.drew ?_ | refine bdr ?_ _ | refine ball ?_ _))
    have P6 := HB2.out.2.below bX HB2.out.2.lt
    have P6_0 : (w6).cell? ⟨w.heap.size, 0, none⟩ = some (.slice A n c) := P6.cell 0
    have P6_1 : (w6).cell? ⟨w.heap.size, 1, none⟩ = some (.slice B m d) := P6.cell 1
    have HB6 : Hid (Below w2.heap.size w2 w6 ∧ Blk w6 w.heap.size 25 #[.slice A n c, .slice B m d]) := Lib.hid ⟨bX, P6⟩
    clear P6 bX
    go_wp2_with fail
    refine (MB2.out _ HB6.out.1).mono ?_
    rintro e w7 ⟨rfl, hb7⟩
    have P7 := HB6.out.2.below hb7 HB6.out.2.lt
    have P7_0 : (w7).cell? ⟨w.heap.size, 0, none⟩ = some (.slice A n c) := P7.cell 0
    have P7_1 : (w7).cell? ⟨w.heap.size, 1, none⟩ = some (.slice B m d) := P7.cell 1
    have HB7 : Hid (Below w2.heap.size w2 w7 ∧ Blk w7 w.heap.size 25 #[.slice A n c, .slice B m d]) := Lib.hid ⟨bto0 HB6.out.1 hb7, P7⟩
    clear P7 hb7
    go_wp2_with fail
    refine (GT.out _ HB7.out.1).mono ?_
    rintro e w8 ⟨A1, n1, c1, l1, A2, n2, c2, r1, rfl, hk8, hb8, hpb⟩
    have cY : Blk (w8.alloc (.cells #[.slice A1 n1 c1, .slice A2 n2 c2] 25)) w8.heap.size 25 #[.slice A1 n1 c1, .slice A2 n2 c2] := Blk.newAt rfl
    have P8 := HB7.out.2.below hb8 HB7.out.2.lt
    have sY : w8.heap.size < (w8.alloc (.cells #[.slice A1 n1 c1, .slice A2 n2 c2] 25)).heap.size := by simp
    have b29 : Below w2.heap.size w2 (w8.alloc (.cells #[.slice A1 n1 c1, .slice A2 n2 c2] 25)) := ball (bto0 HB7.out.1 hb8) _
    have hk9 := hk8.below (Below.alloc (Below.refl _ _) (Nat.le_refl _) (.cells #[.slice A1 n1 c1, .slice A2 n2 c2] 25))
    have hS9 : Hid (∀ W, Below (w8.alloc (.cells #[.slice A1 n1 c1, .slice A2 n2 c2] 25)).heap.size (w8.alloc (.cells #[.slice A1 n1 c1, .slice A2 n2 c2] 25)) W → W.cell? ⟨w.heap.size, 0, none⟩ = some (.slice A n c) ∧ W.cell? ⟨w.heap.size, 1, none⟩ = some (.slice B m d) ∧ W.cell? ⟨w8.heap.size, 0, none⟩ = some (.slice A1 n1 c1) ∧ W.cell? ⟨w8.heap.size, 1, none⟩ = some (.slice A2 n2 c2) ∧ (convert 28 9 (.slice A0 n0 c0)).run Try.prog W = .ok (.string (str (bookB (pbk l r)))) W ∧ Below (w8.alloc (.cells #[.slice A1 n1 c1, .slice A2 n2 c2] 25)).heap.size (w8.alloc (.cells #[.slice A1 n1 c1, .slice A2 n2 c2] 25)) W) := Lib.hid fun W hW => by
      have P := P8.below (ball (Below.refl w8.heap.size w8) (.cells #[.slice A1 n1 c1, .slice A2 n2 c2] 25)) P8.lt
      have P' := P.below hW P.lt
      have Q := cY.below hW sY
      exact ⟨P'.cell 0, P'.cell 1, Q.cell 0, Q.cell 1, conv_reads (P := Try.prog) (RD.out.below (bto0 b29 hW)) 28 5 9 Try.underlying28 Try.underlying5 Try.underlying9 c0, hW⟩
    have PA : Hid (∀ W, Below (w8.alloc (.cells #[.slice A1 n1 c1, .slice A2 n2 c2] 25)).heap.size (w8.alloc (.cells #[.slice A1 n1 c1, .slice A2 n2 c2] 25)) W → Calls Try.prog 14 #[.agg #[.slice A n c, .slice B m d]] W (RetB W (.string (str (bookB (pbk l r)))))) := Lib.hid fun W hW => rput_any A n c l B m d r W (HK.out.1.below (bto0 HB2.out.1 (bto0 b29 hW))) hmay
    have SA : Hid (∀ W, Below (w8.alloc (.cells #[.slice A1 n1 c1, .slice A2 n2 c2] 25)).heap.size (w8.alloc (.cells #[.slice A1 n1 c1, .slice A2 n2 c2] 25)) W → Calls Try.prog 15 #[.agg #[.slice A1 n1 c1, .slice A2 n2 c2], .agg #[.slice A n c, .slice B m d]] W (RetB W (.bool true))) := Lib.hid fun W hW => (same_any12 A1 n1 c1 l1 A2 n2 c2 r1 A n c l B m d r W (hk9.below hW) (HK.out.1.below (bto0 HB2.out.1 (bto0 b29 hW)))).mono fun e w' ⟨b, he, hi, hb⟩ => ⟨by rw [he, hi.2 hpb], hb⟩
    have H29 := Lib.hid b29
    obtain ⟨sa, hsa⟩ : ∃ s, str (bookB (pbk l r)) = s := ⟨_, rfl⟩
    rw [hsa] at PA hS9
    have ss : (sa.toList == sa.toList) = true := beq_self_eq_true _
    clear hsa cY P8 sY b29 hk9 hk8 hb8 hpb hS MA MB MA2 MB2 GT hb3 hb4 hb5 hb6
    go_wp2_with fail
    go_region_held3 (fun W => W.cell? ⟨w.heap.size, 0, none⟩ = some (.slice A n c) ∧ W.cell? ⟨w.heap.size, 1, none⟩ = some (.slice B m d) ∧ W.cell? ⟨w8.heap.size, 0, none⟩ = some (.slice A1 n1 c1) ∧ W.cell? ⟨w8.heap.size, 1, none⟩ = some (.slice A2 n2 c2) ∧ (convert 28 9 (.slice A0 n0 c0)).run Try.prog W = .ok (.string sa) W ∧ Below (w8.alloc (.cells #[.slice A1 n1 c1, .slice A2 n2 c2] 25)).heap.size (w8.alloc (.cells #[.slice A1 n1 c1, .slice A2 n2 c2] 25)) W)
      (first | exact hS9.out _ (by with_reducible repeat (first | exact Below.refl _ _ | exact hb12 | exact hb11 | exact hb10 | refine bto0 ?_ hb12 | refine bto0 ?_ hb11 | refine bto0 ?_ hb10 | refine Below.drew ?_ | refine bdr ?_ _ | refine ball ?_ _)) | assumption)
      (first
        | (go_at_call 7; (with_reducible refine (FX.out _).mono ?_); rintro e w10 ⟨rfl, hb10⟩)
        | (go_at_call 14; (with_reducible refine (PA.out _ (by with_reducible repeat (first | exact Below.refl _ _ | exact hb12 | exact hb11 | exact hb10 | refine bto0 ?_ hb12 | refine bto0 ?_ hb11 | refine bto0 ?_ hb10 | refine Below.drew ?_ | refine bdr ?_ _ | refine ball ?_ _))).mono ?_); rintro e w11 ⟨rfl, hb11⟩)
        | (go_at_call 15; (with_reducible refine (SA.out _ (by with_reducible repeat (first | exact Below.refl _ _ | exact hb12 | exact hb11 | exact hb10 | refine bto0 ?_ hb12 | refine bto0 ?_ hb11 | refine bto0 ?_ hb10 | refine Below.drew ?_ | refine bdr ?_ _ | refine ball ?_ _))).mono ?_); rintro e w12 ⟨rfl, hb12⟩))
    have bX : Below (w8.alloc (.cells #[.slice A1 n1 c1, .slice A2 n2 c2] 25)).heap.size (w8.alloc (.cells #[.slice A1 n1 c1, .slice A2 n2 c2] 25)) w12 := (by with_reducible repeat (first | exact Below.refl _ _ | exact hb12 | exact hb11 | exact hb10 | refine bto0 ?_ hb12 | refine bto0 ?_ hb11 | refine bto0 ?_ hb10 | refine Below.drew ?_ | refine bdr ?_ _ | refine ball ?_ _))
    go_wp2
    go_ret
    exact ⟨rfl, bto0 HB2.out.1 (bto0 H29.out bX)⟩
  · have hmay : ¬ MayB (pbk l r) := fun h => Bool.noConfusion (HK.out.2.2 h)
    go_wp2_with fail
    refine (put_no A n c l B m d r w1 (HK.out.1.below HB1.out.1) hmay).mono ?_
    rintro e w2 ⟨rfl, hb2⟩
    have P := HB1.out.2.below hb2 HB1.out.2.lt
    have P_0 : (w2).cell? ⟨w.heap.size, 0, none⟩ = some (.slice A n c) := P.cell 0
    have P_1 : (w2).cell? ⟨w.heap.size, 1, none⟩ = some (.slice B m d) := P.cell 1
    have HB2 : Hid (Below w.heap.size w w2 ∧ Blk w2 w.heap.size 25 #[.slice A n c, .slice B m d]) := Lib.hid ⟨bto0 HB1.out.1 hb2, P⟩
    clear P hb2
    have hS : Hid (∀ W, Below w2.heap.size w2 W → W.cell? ⟨w.heap.size, 0, none⟩ = some (.slice A n c) ∧ W.cell? ⟨w.heap.size, 1, none⟩ = some (.slice B m d) ∧ Below w2.heap.size w2 W) := Lib.hid fun W hW => by
      have P := HB2.out.2.below hW HB2.out.2.lt
      exact ⟨P.cell 0, P.cell 1, hW⟩
    have NA2 : Hid (∀ W, Below w2.heap.size w2 W → Calls Try.prog 9 #[.string s] W (RetB W (.bool nb))) := Lib.hid fun W hW => (NA.out W).mono fun e w' ⟨he, hw⟩ => ⟨he, hw ▸ Below.refl _ _⟩
    have NB2 : Hid (∀ W, Below w2.heap.size w2 W → Calls Try.prog 10 #[.string s] W (RetB W (.bool nb))) := Lib.hid fun W hW => (NB.out W).mono fun e w' ⟨he, hw⟩ => ⟨he, hw ▸ Below.refl _ _⟩
    have MA2 := Lib.hid fun W (hW : Below w2.heap.size w2 W) => MA.out W (bto0 HB2.out.1 hW)
    have MB2 := Lib.hid fun W (hW : Below w2.heap.size w2 W) => MB.out W (bto0 HB2.out.1 hW)
    go_wp2_with fail
    go_region_held3 (fun W => W.cell? ⟨w.heap.size, 0, none⟩ = some (.slice A n c) ∧ W.cell? ⟨w.heap.size, 1, none⟩ = some (.slice B m d) ∧ Below w2.heap.size w2 W)
      (first | exact hS.out _ (by with_reducible repeat (first | exact Below.refl _ _ | exact hb6 | exact hb5 | exact hb4 | exact hb3 | refine bto0 ?_ hb6 | refine bto0 ?_ hb5 | refine bto0 ?_ hb4 | refine bto0 ?_ hb3 | refine Below.drew ?_ | refine bdr ?_ _ | refine ball ?_ _)) | assumption)
      (first
        | (go_at_call 9; (with_reducible refine (NA2.out _ (by with_reducible repeat (first | exact Below.refl _ _ | exact hb6 | exact hb5 | exact hb4 | exact hb3 | refine bto0 ?_ hb6 | refine bto0 ?_ hb5 | refine bto0 ?_ hb4 | refine bto0 ?_ hb3 | refine Below.drew ?_ | refine bdr ?_ _ | refine ball ?_ _))).mono ?_); rintro e w3 ⟨rfl, hb3⟩)
        | (go_at_call 10; (with_reducible refine (NB2.out _ (by with_reducible repeat (first | exact Below.refl _ _ | exact hb6 | exact hb5 | exact hb4 | exact hb3 | refine bto0 ?_ hb6 | refine bto0 ?_ hb5 | refine bto0 ?_ hb4 | refine bto0 ?_ hb3 | refine Below.drew ?_ | refine bdr ?_ _ | refine ball ?_ _))).mono ?_); rintro e w4 ⟨rfl, hb4⟩)
        | (go_at_call 11; (with_reducible refine (MA2.out _ (by with_reducible repeat (first | exact Below.refl _ _ | exact hb6 | exact hb5 | exact hb4 | exact hb3 | refine bto0 ?_ hb6 | refine bto0 ?_ hb5 | refine bto0 ?_ hb4 | refine bto0 ?_ hb3 | refine Below.drew ?_ | refine bdr ?_ _ | refine ball ?_ _))).mono ?_); rintro e w5 ⟨rfl, hb5⟩)
        | (go_at_call 12; (with_reducible refine (MB2.out _ (by with_reducible repeat (first | exact Below.refl _ _ | exact hb6 | exact hb5 | exact hb4 | exact hb3 | refine bto0 ?_ hb6 | refine bto0 ?_ hb5 | refine bto0 ?_ hb4 | refine bto0 ?_ hb3 | refine Below.drew ?_ | refine bdr ?_ _ | refine ball ?_ _))).mono ?_); rintro e w6 ⟨rfl, hb6⟩))
    have bX : Below w2.heap.size w2 w6 := (by with_reducible repeat (first | exact Below.refl _ _ | exact hb6 | exact hb5 | exact hb4 | exact hb3 | refine bto0 ?_ hb6 | refine bto0 ?_ hb5 | refine bto0 ?_ hb4 | refine bto0 ?_ hb3 | refine Below.drew ?_ | refine bdr ?_ _ | refine ball ?_ _))
    have P6 := HB2.out.2.below bX HB2.out.2.lt
    have P6_0 : (w6).cell? ⟨w.heap.size, 0, none⟩ = some (.slice A n c) := P6.cell 0
    have P6_1 : (w6).cell? ⟨w.heap.size, 1, none⟩ = some (.slice B m d) := P6.cell 1
    have HB6 : Hid (Below w2.heap.size w2 w6 ∧ Blk w6 w.heap.size 25 #[.slice A n c, .slice B m d]) := Lib.hid ⟨bX, P6⟩
    clear P6 bX
    go_wp2_with fail
    refine (MB2.out _ HB6.out.1).mono ?_
    rintro e w7 ⟨rfl, hb7⟩
    have P7 := HB6.out.2.below hb7 HB6.out.2.lt
    have P7_0 : (w7).cell? ⟨w.heap.size, 0, none⟩ = some (.slice A n c) := P7.cell 0
    have P7_1 : (w7).cell? ⟨w.heap.size, 1, none⟩ = some (.slice B m d) := P7.cell 1
    have HB7 : Hid (Below w2.heap.size w2 w7 ∧ Blk w7 w.heap.size 25 #[.slice A n c, .slice B m d]) := Lib.hid ⟨bto0 HB6.out.1 hb7, P7⟩
    clear P7 hb7
    go_wp2_with fail
    refine (FX.out _).mono ?_
    rintro e w8 ⟨rfl, hb8⟩
    go_wp2
    go_ret
    exact ⟨rfl, bto0 (bto0 HB2.out.1 HB7.out.1) hb8⟩
end Go.Proofs.Ytflolnilagogpaa
