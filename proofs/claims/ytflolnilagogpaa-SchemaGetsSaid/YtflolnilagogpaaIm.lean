/-
  SchemaSame: the walk.
-/
import Derived.Test.YtflolnilagogpaaIh
import Derived.Test.YtflolnilagogpaaFd
import Derived.Test.YtflolnilagogpaaIk
import Derived.Test.YtflolnilagogpaaIl
set_option linter.unusedSimpArgs false
set_option linter.unusedVariables false
namespace Go.Proofs.Ytflolnilagogpaa
open Go.RowKit

theorem gr_any (A : Option Addr) (n c : Nat) (l : List Tb) (B : Option Addr) (m d : Nat) (r : List Ix) (w : World) (hk : BkIn w A n c l B m d r) (hn : n ≤ 2199023255552) :
    Calls Try.prog 6 #[.agg #[.slice A n c, .slice B m d]] w (RetGr w l) :=
  great12_any A n c l B m d r w hk.hr (fun t ht => (hk.hl t ht).1) hk.hx hn (Nat.le_trans hk.hm.1 hk.hm.2) (fun x hx => (hk.hix x hx).1)
set_option maxRecDepth 100000 in
set_option maxHeartbeats 8000000 in
theorem schemaSame_any (A : Option Addr) (n c : Nat) (l : List Tb) (B : Option Addr) (m d : Nat) (r : List Ix) (A' : Option Addr) (n' c' : Nat) (l' : List Tb) (B' : Option Addr) (m' d' : Nat) (r' : List Ix) (w : World) (hk : BkIn w A n c l B m d r) (hk' : BkIn w A' n' c' l' B' m' d' r') (hn : n ≤ 2199023255552) (hn' : n' ≤ 2199023255552) :
    Calls Try.prog 5 #[.agg #[.slice A n c, .slice B m d], .agg #[.slice A' n' c', .slice B' m' d']] w (RetB w (.bool true)) := by
  have FX := Lib.hid fun W => fixed12_any W
  have GA := Lib.hid fun W (hW : Below w.heap.size w W) => gr_any A n c l B m d r W (hk.below hW) hn
  have GB := Lib.hid fun W (hW : Below w.heap.size w W) => gr_any A' n' c' l' B' m' d' r' W (hk'.below hW) hn'
  have MA := Lib.hid fun W (hW : Below w.heap.size w W) => rmay_any A n c l B m d r W (hk.below hW)
  have MB := Lib.hid fun W (hW : Below w.heap.size w W) => rmay_any A' n' c' l' B' m' d' r' W (hk'.below hW)
  have HK := Lib.hid (And.intro hk hk')
  have HB0 : Hid (Below w.heap.size w ((w.alloc (.cells #[.slice A n c, .slice B m d] 25)).alloc (.cells #[.slice A' n' c', .slice B' m' d'] 25)) ∧ Blk ((w.alloc (.cells #[.slice A n c, .slice B m d] 25)).alloc (.cells #[.slice A' n' c', .slice B' m' d'] 25)) w.heap.size 25 #[.slice A n c, .slice B m d] ∧ Blk ((w.alloc (.cells #[.slice A n c, .slice B m d] 25)).alloc (.cells #[.slice A' n' c', .slice B' m' d'] 25)) (w.heap.size + 1) 25 #[.slice A' n' c', .slice B' m' d']) := Lib.hid ⟨ball (ball (Below.refl _ _) _) _, (Blk.new _ _ _).alloc _, Blk.newAt (by simp)⟩
  clear hk hk' hn hn'
  go_enter Try.func5, Try.ntmps5
  go_wp2_with fail
  refine (GA.out _ HB0.out.1).mono ?_
  rintro e w1 ⟨b, rfl, hb1, _⟩
  have P := HB0.out.2.1.below hb1 HB0.out.2.1.lt
  have Q := HB0.out.2.2.below hb1 HB0.out.2.2.lt
  have P_0 : (w1).cell? ⟨w.heap.size, 0, none⟩ = some (.slice A n c) := P.cell 0
  have P_1 : (w1).cell? ⟨w.heap.size, 1, none⟩ = some (.slice B m d) := P.cell 1
  have Q_0 : (w1).cell? ⟨w.heap.size + 1, 0, none⟩ = some (.slice A' n' c') := Q.cell 0
  have Q_1 : (w1).cell? ⟨w.heap.size + 1, 1, none⟩ = some (.slice B' m' d') := Q.cell 1
  have HB1 : Hid (Below w.heap.size w w1 ∧ Blk w1 w.heap.size 25 #[.slice A n c, .slice B m d] ∧ Blk w1 (w.heap.size + 1) 25 #[.slice A' n' c', .slice B' m' d']) := Lib.hid ⟨bto0 HB0.out.1 hb1, P, Q⟩
  clear P Q hb1
  cases b with
  | true =>
    go_wp2_with fail
    refine (FX.out _).mono ?_
    rintro e wf ⟨rfl, hbf⟩
    go_wp2
    go_ret
    exact ⟨rfl, bto0 HB1.out.1 hbf⟩
  | false =>
    skip
    go_wp2_with fail
    refine (GB.out _ HB1.out.1).mono ?_
    rintro e w2 ⟨b, rfl, hb2, _⟩
    have P := HB1.out.2.1.below hb2 HB1.out.2.1.lt
    have Q := HB1.out.2.2.below hb2 HB1.out.2.2.lt
    have P_0 : (w2).cell? ⟨w.heap.size, 0, none⟩ = some (.slice A n c) := P.cell 0
    have P_1 : (w2).cell? ⟨w.heap.size, 1, none⟩ = some (.slice B m d) := P.cell 1
    have Q_0 : (w2).cell? ⟨w.heap.size + 1, 0, none⟩ = some (.slice A' n' c') := Q.cell 0
    have Q_1 : (w2).cell? ⟨w.heap.size + 1, 1, none⟩ = some (.slice B' m' d') := Q.cell 1
    have HB2 : Hid (Below w.heap.size w w2 ∧ Blk w2 w.heap.size 25 #[.slice A n c, .slice B m d] ∧ Blk w2 (w.heap.size + 1) 25 #[.slice A' n' c', .slice B' m' d']) := Lib.hid ⟨bto0 HB1.out.1 hb2, P, Q⟩
    clear P Q hb2
    cases b with
    | true =>
      go_wp2_with fail
      refine (FX.out _).mono ?_
      rintro e wf ⟨rfl, hbf⟩
      go_wp2
      go_ret
      exact ⟨rfl, bto0 HB2.out.1 hbf⟩
    | false =>
      skip
      go_wp2_with fail
      refine (MA.out _ HB2.out.1).mono ?_
      rintro e w3 ⟨b, rfl, hm3, hb3⟩
      have P := HB2.out.2.1.below hb3 HB2.out.2.1.lt
      have Q := HB2.out.2.2.below hb3 HB2.out.2.2.lt
      have P_0 : (w3).cell? ⟨w.heap.size, 0, none⟩ = some (.slice A n c) := P.cell 0
      have P_1 : (w3).cell? ⟨w.heap.size, 1, none⟩ = some (.slice B m d) := P.cell 1
      have Q_0 : (w3).cell? ⟨w.heap.size + 1, 0, none⟩ = some (.slice A' n' c') := Q.cell 0
      have Q_1 : (w3).cell? ⟨w.heap.size + 1, 1, none⟩ = some (.slice B' m' d') := Q.cell 1
      have HB3 : Hid (Below w.heap.size w w3 ∧ Blk w3 w.heap.size 25 #[.slice A n c, .slice B m d] ∧ Blk w3 (w.heap.size + 1) 25 #[.slice A' n' c', .slice B' m' d']) := Lib.hid ⟨bto0 HB2.out.1 hb3, P, Q⟩
      clear P Q hb3
      have HM3 := Lib.hid hm3
      clear hm3
      cases b with
      | false =>
        go_wp2_with fail
        refine (FX.out _).mono ?_
        rintro e wf ⟨rfl, hbf⟩
        go_wp2
        go_ret
        exact ⟨rfl, bto0 HB3.out.1 hbf⟩
      | true =>
        skip
        go_wp2_with fail
        refine (MB.out _ HB3.out.1).mono ?_
        rintro e w4 ⟨b, rfl, hm4, hb4⟩
        have P := HB3.out.2.1.below hb4 HB3.out.2.1.lt
        have Q := HB3.out.2.2.below hb4 HB3.out.2.2.lt
        have P_0 : (w4).cell? ⟨w.heap.size, 0, none⟩ = some (.slice A n c) := P.cell 0
        have P_1 : (w4).cell? ⟨w.heap.size, 1, none⟩ = some (.slice B m d) := P.cell 1
        have Q_0 : (w4).cell? ⟨w.heap.size + 1, 0, none⟩ = some (.slice A' n' c') := Q.cell 0
        have Q_1 : (w4).cell? ⟨w.heap.size + 1, 1, none⟩ = some (.slice B' m' d') := Q.cell 1
        have HB4 : Hid (Below w.heap.size w w4 ∧ Blk w4 w.heap.size 25 #[.slice A n c, .slice B m d] ∧ Blk w4 (w.heap.size + 1) 25 #[.slice A' n' c', .slice B' m' d']) := Lib.hid ⟨bto0 HB3.out.1 hb4, P, Q⟩
        clear P Q hb4
        have HM4 := Lib.hid hm4
        clear hm4
        cases b with
        | false =>
          go_wp2_with fail
          refine (FX.out _).mono ?_
          rintro e wf ⟨rfl, hbf⟩
          go_wp2
          go_ret
          exact ⟨rfl, bto0 HB4.out.1 hbf⟩
        | true =>
          have ma := HM3.out.1 (by first | rfl | trivial)
          have mb := HM4.out.1 (by first | rfl | trivial)
          have PA : Hid (∀ W, Below w4.heap.size w4 W → Calls Try.prog 14 #[.agg #[.slice A n c, .slice B m d]] W (RetB W (.string (str (bookB (pbk l r)))))) := Lib.hid fun W hW => rput_any A n c l B m d r W (HK.out.1.below (bto0 HB4.out.1 hW)) ma
          have PB' : Hid (∀ W, Below w4.heap.size w4 W → Calls Try.prog 14 #[.agg #[.slice A' n' c', .slice B' m' d']] W (RetB W (.string (str (bookB (pbk l' r')))))) := Lib.hid fun W hW => rput_any A' n' c' l' B' m' d' r' W (HK.out.2.below (bto0 HB4.out.1 hW)) mb
          have SA : Hid (∀ W, Below w4.heap.size w4 W → Calls Try.prog 15 #[.agg #[.slice A n c, .slice B m d], .agg #[.slice A n c, .slice B m d]] W (RetB W (.bool true))) := Lib.hid fun W hW => (same_any12 A n c l B m d r A n c l B m d r W (HK.out.1.below (bto0 HB4.out.1 hW)) (HK.out.1.below (bto0 HB4.out.1 hW))).mono fun e w' ⟨b, he, hi, hb⟩ => ⟨by rw [he, hi.2 rfl], hb⟩
          obtain ⟨v, hv1, hv2⟩ : ∃ v : Bool, (v = true ↔ pbk l r = pbk l' r') ∧ ((str (bookB (pbk l r))).toList == (str (bookB (pbk l' r'))).toList) = v := by
            rw [str_toList, str_toList]
            refine ⟨_, ?_, rfl⟩
            rw [beq_iff_eq]
            exact bookB_inj ma mb
          have SB : Hid (∀ W, Below w4.heap.size w4 W → Calls Try.prog 15 #[.agg #[.slice A n c, .slice B m d], .agg #[.slice A' n' c', .slice B' m' d']] W (RetB W (.bool v))) := Lib.hid fun W hW => (same_any12 A n c l B m d r A' n' c' l' B' m' d' r' W (HK.out.1.below (bto0 HB4.out.1 hW)) (HK.out.2.below (bto0 HB4.out.1 hW))).mono fun e w' ⟨b, he, hi, hb⟩ => ⟨by have hbv : b = v := (by rw [Bool.eq_iff_iff, hi, hv1]); rw [he, hbv], hb⟩
          obtain ⟨sa, hsa⟩ : ∃ s, str (bookB (pbk l r)) = s := ⟨_, rfl⟩
          obtain ⟨sb, hsb⟩ : ∃ s, str (bookB (pbk l' r')) = s := ⟨_, rfl⟩
          rw [hsa] at PA hv2
          rw [hsb] at PB' hv2
          have hS : Hid (∀ W, Below w4.heap.size w4 W → W.cell? ⟨w.heap.size, 0, none⟩ = some (.slice A n c) ∧ W.cell? ⟨w.heap.size, 1, none⟩ = some (.slice B m d) ∧ W.cell? ⟨w.heap.size + 1, 0, none⟩ = some (.slice A' n' c') ∧ W.cell? ⟨w.heap.size + 1, 1, none⟩ = some (.slice B' m' d') ∧ Below w4.heap.size w4 W) := Lib.hid fun W hW => by
            have P := HB4.out.2.1.below hW HB4.out.2.1.lt
            have Q := HB4.out.2.2.below hW HB4.out.2.2.lt
            exact ⟨P.cell 0, P.cell 1, Q.cell 0, Q.cell 1, hW⟩
          clear ma mb hsa hsb hv1 MA MB GA GB
          have vv : (v == v) = true := by cases v <;> rfl
          cases v
          all_goals
            go_wp2_with fail
            go_region_held3 (fun W => W.cell? ⟨w.heap.size, 0, none⟩ = some (.slice A n c) ∧ W.cell? ⟨w.heap.size, 1, none⟩ = some (.slice B m d) ∧ W.cell? ⟨w.heap.size + 1, 0, none⟩ = some (.slice A' n' c') ∧ W.cell? ⟨w.heap.size + 1, 1, none⟩ = some (.slice B' m' d') ∧ Below w4.heap.size w4 W)
              (first | exact hS.out _ (by with_reducible repeat (first | exact Below.refl _ _ | exact hb9 | exact hb8 | exact hb7 | exact hb6 | exact hb5 | refine bto0 ?_ hb9 | refine bto0 ?_ hb8 | refine bto0 ?_ hb7 | refine bto0 ?_ hb6 | refine bto0 ?_ hb5 | refine Below.drew ?_ | refine bdr ?_ _ | refine ball ?_ _)) | assumption)
              (first
                | (go_at_call 7; (with_reducible refine (FX.out _).mono ?_); rintro e w5 ⟨rfl, hb5⟩)
                | (go_at_call 15; (with_reducible refine (SB.out _ (by with_reducible repeat (first | exact Below.refl _ _ | exact hb8 | exact hb7 | exact hb6 | exact hb5 | refine bto0 ?_ hb8 | refine bto0 ?_ hb7 | refine bto0 ?_ hb6 | refine bto0 ?_ hb5 | refine Below.drew ?_ | refine bdr ?_ _ | refine ball ?_ _))).mono ?_); rintro e w6 ⟨rfl, hb6⟩)
                | (go_at_call 14; (with_reducible refine (PA.out _ (by with_reducible repeat (first | exact Below.refl _ _ | exact hb8 | exact hb7 | exact hb6 | exact hb5 | refine bto0 ?_ hb8 | refine bto0 ?_ hb7 | refine bto0 ?_ hb6 | refine bto0 ?_ hb5 | refine Below.drew ?_ | refine bdr ?_ _ | refine ball ?_ _))).mono ?_); rintro e w7 ⟨rfl, hb7⟩)
                | (go_at_call 14; (with_reducible refine (PB'.out _ (by with_reducible repeat (first | exact Below.refl _ _ | exact hb8 | exact hb7 | exact hb6 | exact hb5 | refine bto0 ?_ hb8 | refine bto0 ?_ hb7 | refine bto0 ?_ hb6 | refine bto0 ?_ hb5 | refine Below.drew ?_ | refine bdr ?_ _ | refine ball ?_ _))).mono ?_); rintro e w8 ⟨rfl, hb8⟩)
                | (go_at_call 15; (with_reducible refine (SA.out _ (by with_reducible repeat (first | exact Below.refl _ _ | exact hb8 | exact hb7 | exact hb6 | exact hb5 | refine bto0 ?_ hb8 | refine bto0 ?_ hb7 | refine bto0 ?_ hb6 | refine bto0 ?_ hb5 | refine Below.drew ?_ | refine bdr ?_ _ | refine ball ?_ _))).mono ?_); rintro e w9 ⟨rfl, hb9⟩))
            have bX : Below w4.heap.size w4 w9 := (by with_reducible repeat (first | exact Below.refl _ _ | exact hb9 | exact hb8 | exact hb7 | exact hb6 | exact hb5 | refine bto0 ?_ hb9 | refine bto0 ?_ hb8 | refine bto0 ?_ hb7 | refine bto0 ?_ hb6 | refine bto0 ?_ hb5 | refine Below.drew ?_ | refine bdr ?_ _ | refine ball ?_ _))
            go_wp2
            go_ret
            exact ⟨rfl, bto0 HB4.out.1 bX⟩
end Go.Proofs.Ytflolnilagogpaa
