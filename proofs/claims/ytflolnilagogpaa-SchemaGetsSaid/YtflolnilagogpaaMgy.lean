/-
  Several texts in one: Im Jf Jn.
-/
import Derived.Test.YtflolnilagogpaaMgi
import Derived.Test.YtflolnilagogpaaMgx
import Derived.Test.YtflolnilagogpaaMgn
import Derived.Test.YtflolnilagogpaaMgw
import Derived.Test.YtflolnilagogpaaMgo
/-
  SchemaSame: the walk.
-/
namespace Go.Proofs.Ytflolnilagogpaa
section
set_option linter.unusedSimpArgs false
set_option linter.unusedVariables false
open Go.RowKit

theorem gr_any (A : Option Addr) (n c : Nat) (l : List Tb) (B : Option Addr) (m d : Nat) (r : List Ix) (w : World) (hk : BkIn w A n c l B m d r) (hn : n ≤ 2199023255552) :
    Calls Try.prog 6 #[.agg #[.slice A n c, .slice B m d]] w (RetGr w l) :=
  great12_any A n c l B m d r w hk.hr (fun t ht => (hk.hl t ht).1) hk.hx hn (Nat.le_trans hk.hm.1 hk.hm.2) (fun x hx => (hk.hix x hx).1)
set_option maxRecDepth 100000 in
set_option maxHeartbeats 8000000 in
theorem schemaSame_any (A : Option Addr) (n c : Nat) (l : List Tb) (B : Option Addr) (m d : Nat) (r : List Ix) (A' : Option Addr) (n' c' : Nat) (l' : List Tb) (B' : Option Addr) (m' d' : Nat) (r' : List Ix) (w : World) (hk : BkIn w A n c l B m d r) (hk' : BkIn w A' n' c' l' B' m' d' r') (hn : n ≤ 2199023255552) (hn' : n' ≤ 2199023255552) :
    Calls Try.prog 5 #[.agg #[.slice A n c, .slice B m d], .agg #[.slice A' n' c', .slice B' m' d']] w (RetB w (.bool true)) := by
  have FX := Lib.hid fun W => fixed12_any W
  have GA := Lib.hid fun W (hW : Below w.heap.size w W) => gr_any A n c l B m d r W (hk.below hW) hn
  have GB := Lib.hid fun W (hW : Below w.heap.size w W) => gr_any A' n' c' l' B' m' d' r' W (hk'.below hW) hn'
  have MA := Lib.hid fun W (hW : Below w.heap.size w W) => rmay_any A n c l B m d r W (hk.below hW)
  have MB := Lib.hid fun W (hW : Below w.heap.size w W) => rmay_any A' n' c' l' B' m' d' r' W (hk'.below hW)
  have HK := Lib.hid (And.intro hk hk')
  have HB0 : Hid (Below w.heap.size w ((w.alloc (.cells #[.slice A n c, .slice B m d] 25)).alloc (.cells #[.slice A' n' c', .slice B' m' d'] 25)) ∧ Blk ((w.alloc (.cells #[.slice A n c, .slice B m d] 25)).alloc (.cells #[.slice A' n' c', .slice B' m' d'] 25)) w.heap.size 25 #[.slice A n c, .slice B m d] ∧ Blk ((w.alloc (.cells #[.slice A n c, .slice B m d] 25)).alloc (.cells #[.slice A' n' c', .slice B' m' d'] 25)) (w.heap.size + 1) 25 #[.slice A' n' c', .slice B' m' d']) := Lib.hid ⟨ball (ball (Below.refl _ _) _) _, (Blk.new _ _ _).alloc _, Blk.newAt (by simp)⟩
  clear hk hk' hn hn'
  go_enter Try.func5, Try.ntmps5
  go_wp2_with fail
  refine (GA.out _ HB0.out.1).mono ?_
  rintro e w1 ⟨b, rfl, hb1, _⟩
  have P := HB0.out.2.1.below hb1 HB0.out.2.1.lt
  have Q := HB0.out.2.2.below hb1 HB0.out.2.2.lt
  have P_0 : (w1).cell? ⟨w.heap.size, 0, none⟩ = some (.slice A n c) := P.cell 0
  have P_1 : (w1).cell? ⟨w.heap.size, 1, none⟩ = some (.slice B m d) := P.cell 1
  have Q_0 : (w1).cell? ⟨w.heap.size + 1, 0, none⟩ = some (.slice A' n' c') := Q.cell 0
  have Q_1 : (w1).cell? ⟨w.heap.size + 1, 1, none⟩ = some (.slice B' m' d') := Q.cell 1
  have HB1 : Hid (Below w.heap.size w w1 ∧ Blk w1 w.heap.size 25 #[.slice A n c, .slice B m d] ∧ Blk w1 (w.heap.size + 1) 25 #[.slice A' n' c', .slice B' m' d']) := Lib.hid ⟨bto0 HB0.out.1 hb1, P, Q⟩
  clear P Q hb1
  cases b with
  | true =>
    go_wp2_with fail
    refine (FX.out _).mono ?_
    rintro e wf ⟨rfl, hbf⟩
    go_wp2
    go_ret
    exact ⟨rfl, bto0 HB1.out.1 hbf⟩
  | false =>
    skip
    go_wp2_with fail
    refine (GB.out _ HB1.out.1).mono ?_
    rintro e w2 ⟨b, rfl, hb2, _⟩
    have P := HB1.out.2.1.below hb2 HB1.out.2.1.lt
    have Q := HB1.out.2.2.below hb2 HB1.out.2.2.lt
    have P_0 : (w2).cell? ⟨w.heap.size, 0, none⟩ = some (.slice A n c) := P.cell 0
    have P_1 : (w2).cell? ⟨w.heap.size, 1, none⟩ = some (.slice B m d) := P.cell 1
    have Q_0 : (w2).cell? ⟨w.heap.size + 1, 0, none⟩ = some (.slice A' n' c') := Q.cell 0
    have Q_1 : (w2).cell? ⟨w.heap.size + 1, 1, none⟩ = some (.slice B' m' d') := Q.cell 1
    have HB2 : Hid (Below w.heap.size w w2 ∧ Blk w2 w.heap.size 25 #[.slice A n c, .slice B m d] ∧ Blk w2 (w.heap.size + 1) 25 #[.slice A' n' c', .slice B' m' d']) := Lib.hid ⟨bto0 HB1.out.1 hb2, P, Q⟩
    clear P Q hb2
    cases b with
    | true =>
      go_wp2_with fail
      refine (FX.out _).mono ?_
      rintro e wf ⟨rfl, hbf⟩
      go_wp2
      go_ret
      exact ⟨rfl, bto0 HB2.out.1 hbf⟩
    | false =>
      skip
      go_wp2_with fail
      refine (MA.out _ HB2.out.1).mono ?_
      rintro e w3 ⟨b, rfl, hm3, hb3⟩
      have P := HB2.out.2.1.below hb3 HB2.out.2.1.lt
      have Q := HB2.out.2.2.below hb3 HB2.out.2.2.lt
      have P_0 : (w3).cell? ⟨w.heap.size, 0, none⟩ = some (.slice A n c) := P.cell 0
      have P_1 : (w3).cell? ⟨w.heap.size, 1, none⟩ = some (.slice B m d) := P.cell 1
      have Q_0 : (w3).cell? ⟨w.heap.size + 1, 0, none⟩ = some (.slice A' n' c') := Q.cell 0
      have Q_1 : (w3).cell? ⟨w.heap.size + 1, 1, none⟩ = some (.slice B' m' d') := Q.cell 1
      have HB3 : Hid (Below w.heap.size w w3 ∧ Blk w3 w.heap.size 25 #[.slice A n c, .slice B m d] ∧ Blk w3 (w.heap.size + 1) 25 #[.slice A' n' c', .slice B' m' d']) := Lib.hid ⟨bto0 HB2.out.1 hb3, P, Q⟩
      clear P Q hb3
      have HM3 := Lib.hid hm3
      clear hm3
      cases b with
      | false =>
        go_wp2_with fail
        refine (FX.out _).mono ?_
        rintro e wf ⟨rfl, hbf⟩
        go_wp2
        go_ret
        exact ⟨rfl, bto0 HB3.out.1 hbf⟩
      | true =>
        skip
        go_wp2_with fail
        refine (MB.out _ HB3.out.1).mono ?_
        rintro e w4 ⟨b, rfl, hm4, hb4⟩
        have P := HB3.out.2.1.below hb4 HB3.out.2.1.lt
        have Q := HB3.out.2.2.below hb4 HB3.out.2.2.lt
        have P_0 : (w4).cell? ⟨w.heap.size, 0, none⟩ = some (.slice A n c) := P.cell 0
        have P_1 : (w4).cell? ⟨w.heap.size, 1, none⟩ = some (.slice B m d) := P.cell 1
        have Q_0 : (w4).cell? ⟨w.heap.size + 1, 0, none⟩ = some (.slice A' n' c') := Q.cell 0
        have Q_1 : (w4).cell? ⟨w.heap.size + 1, 1, none⟩ = some (.slice B' m' d') := Q.cell 1
        have HB4 : Hid (Below w.heap.size w w4 ∧ Blk w4 w.heap.size 25 #[.slice A n c, .slice B m d] ∧ Blk w4 (w.heap.size + 1) 25 #[.slice A' n' c', .slice B' m' d']) := Lib.hid ⟨bto0 HB3.out.1 hb4, P, Q⟩
        clear P Q hb4
        have HM4 := Lib.hid hm4
        clear hm4
        cases b with
        | false =>
          go_wp2_with fail
          refine (FX.out _).mono ?_
          rintro e wf ⟨rfl, hbf⟩
          go_wp2
          go_ret
          exact ⟨rfl, bto0 HB4.out.1 hbf⟩
        | true =>
          have ma := HM3.out.1 (by first | rfl | trivial)
          have mb := HM4.out.1 (by first | rfl | trivial)
          have PA : Hid (∀ W, Below w4.heap.size w4 W → Calls Try.prog 14 #[.agg #[.slice A n c, .slice B m d]] W (RetB W (.string (str (bookB (pbk l r)))))) := Lib.hid fun W hW => rput_any A n c l B m d r W (HK.out.1.below (bto0 HB4.out.1 hW)) ma
          have PB' : Hid (∀ W, Below w4.heap.size w4 W → Calls Try.prog 14 #[.agg #[.slice A' n' c', .slice B' m' d']] W (RetB W (.string (str (bookB (pbk l' r')))))) := Lib.hid fun W hW => rput_any A' n' c' l' B' m' d' r' W (HK.out.2.below (bto0 HB4.out.1 hW)) mb
          have SA : Hid (∀ W, Below w4.heap.size w4 W → Calls Try.prog 15 #[.agg #[.slice A n c, .slice B m d], .agg #[.slice A n c, .slice B m d]] W (RetB W (.bool true))) := Lib.hid fun W hW => (same_any12 A n c l B m d r A n c l B m d r W (HK.out.1.below (bto0 HB4.out.1 hW)) (HK.out.1.below (bto0 HB4.out.1 hW))).mono fun e w' ⟨b, he, hi, hb⟩ => ⟨by rw [he, hi.2 rfl], hb⟩
          obtain ⟨v, hv1, hv2⟩ : ∃ v : Bool, (v = true ↔ pbk l r = pbk l' r') ∧ ((str (bookB (pbk l r))).toList == (str (bookB (pbk l' r'))).toList) = v := by
            rw [str_toList, str_toList]
            refine ⟨_, ?_, rfl⟩
            rw [beq_iff_eq]
            exact bookB_inj ma mb
          have SB : Hid (∀ W, Below w4.heap.size w4 W → Calls Try.prog 15 #[.agg #[.slice A n c, .slice B m d], .agg #[.slice A' n' c', .slice B' m' d']] W (RetB W (.bool v))) := Lib.hid fun W hW => (same_any12 A n c l B m d r A' n' c' l' B' m' d' r' W (HK.out.1.below (bto0 HB4.out.1 hW)) (HK.out.2.below (bto0 HB4.out.1 hW))).mono fun e w' ⟨b, he, hi, hb⟩ => ⟨by have hbv : b = v := (by rw [Bool.eq_iff_iff, hi, hv1]); rw [he, hbv], hb⟩
          obtain ⟨sa, hsa⟩ : ∃ s, str (bookB (pbk l r)) = s := ⟨_, rfl⟩
          obtain ⟨sb, hsb⟩ : ∃ s, str (bookB (pbk l' r')) = s := ⟨_, rfl⟩
          rw [hsa] at PA hv2
          rw [hsb] at PB' hv2
          have hS : Hid (∀ W, Below w4.heap.size w4 W → W.cell? ⟨w.heap.size, 0, none⟩ = some (.slice A n c) ∧ W.cell? ⟨w.heap.size, 1, none⟩ = some (.slice B m d) ∧ W.cell? ⟨w.heap.size + 1, 0, none⟩ = some (.slice A' n' c') ∧ W.cell? ⟨w.heap.size + 1, 1, none⟩ = some (.slice B' m' d') ∧ Below w4.heap.size w4 W) := Lib.hid fun W hW => by
            have P := HB4.out.2.1.below hW HB4.out.2.1.lt
            have Q := HB4.out.2.2.below hW HB4.out.2.2.lt
            exact ⟨P.cell 0, P.cell 1, Q.cell 0, Q.cell 1, hW⟩
          clear ma mb hsa hsb hv1 MA MB GA GB
          have vv : (v == v) = true := by cases v <;> rfl
          cases v
          all_goals
            go_wp2_with fail
            go_region_held3 (fun W => W.cell? ⟨w.heap.size, 0, none⟩ = some (.slice A n c) ∧ W.cell? ⟨w.heap.size, 1, none⟩ = some (.slice B m d) ∧ W.cell? ⟨w.heap.size + 1, 0, none⟩ = some (.slice A' n' c') ∧ W.cell? ⟨w.heap.size + 1, 1, none⟩ = some (.slice B' m' d') ∧ Below w4.heap.size w4 W)
              (first | exact hS.out _ (by with_reducible repeat (first | exact Below.refl _ _ | exact hb9 | exact hb8 | exact hb7 | exact hb6 | exact hb5 | refine bto0 ?_ hb9 | refine bto0 ?_ hb8 | refine bto0 ?_ hb7 | refine bto0 ?_ hb6 | refine bto0 ?_ hb5 | refine Below.drew ?_ | refine bdr ?_ _ | refine ball ?_ _)) | assumption)
              (first
                | (go_at_call 7; (with_reducible refine (FX.out _).mono ?_); rintro e w5 ⟨rfl, hb5⟩)
                | (go_at_call 15; (with_reducible refine (SB.out _ (by with_reducible repeat (first | exact Below.refl _ _ | exact hb8 | exact hb7 | exact hb6 | exact hb5 | refine bto0 ?_ hb8 | refine bto0 ?_ hb7 | refine bto0 ?_ hb6 | refine bto0 ?_ hb5 | refine Below.drew ?_ | refine bdr ?_ _ | refine ball ?_ _))).mono ?_); rintro e w6 ⟨rfl, hb6⟩)
                | (go_at_call 14; (with_reducible refine (PA.out _ (by with_reducible repeat (first | exact Below.refl _ _ | exact hb8 | exact hb7 | exact hb6 | exact hb5 | refine bto0 ?_ hb8 | refine bto0 ?_ hb7 | refine bto0 ?_ hb6 | refine bto0 ?_ hb5 | refine Below.drew ?_ | refine bdr ?_ _ | refine ball ?_ _))).mono ?_); rintro e w7 ⟨rfl, hb7⟩)
                | (go_at_call 14; (with_reducible refine (PB'.out _ (by with_reducible repeat (first | exact Below.refl _ _ | exact hb8 | exact hb7 | exact hb6 | exact hb5 | refine bto0 ?_ hb8 | refine bto0 ?_ hb7 | refine bto0 ?_ hb6 | refine bto0 ?_ hb5 | refine Below.drew ?_ | refine bdr ?_ _ | refine ball ?_ _))).mono ?_); rintro e w8 ⟨rfl, hb8⟩)
                | (go_at_call 15; (with_reducible refine (SA.out _ (by with_reducible repeat (first | exact Below.refl _ _ | exact hb8 | exact hb7 | exact hb6 | exact hb5 | refine bto0 ?_ hb8 | refine bto0 ?_ hb7 | refine bto0 ?_ hb6 | refine bto0 ?_ hb5 | refine Below.drew ?_ | refine bdr ?_ _ | refine ball ?_ _))).mono ?_); rintro e w9 ⟨rfl, hb9⟩))
            have bX : Below w4.heap.size w4 w9 := (by with_reducible repeat (first | exact Below.refl _ _ | exact hb9 | exact hb8 | exact hb7 | exact hb6 | exact hb5 | refine bto0 ?_ hb9 | refine bto0 ?_ hb8 | refine bto0 ?_ hb7 | refine bto0 ?_ hb6 | refine bto0 ?_ hb5 | refine Below.drew ?_ | refine bdr ?_ _ | refine ball ?_ _))
            go_wp2
            go_ret
            exact ⟨rfl, bto0 HB4.out.1 bX⟩
end
end Go.Proofs.Ytflolnilagogpaa
/-
  The plain parser, turned round: what is read is written as it stood.
-/
namespace Go.Proofs.Ytflolnilagogpaa
section
set_option linter.unusedSimpArgs false
set_option linter.unusedVariables false
open Go.RowKit

theorem gOne_inv {l : List UInt8} {n : Nat} {r : List UInt8} (h : gOne l = some (n, r)) : oneB (n : Int) ++ r = l ∧ n < 256 := by
  cases l with
  | nil => cases h
  | cons b t =>
    have h1 := Prod.mk.inj (Option.some.inj h)
    obtain ⟨rfl, rfl⟩ := h1
    exact ⟨by simp [oneB], b.toNat_lt⟩
theorem gTake_inv {k : Nat} {l a r : List UInt8} (h : gTake k l = some (a, r)) : a ++ r = l ∧ a.length = k := by
  unfold gTake at h
  split at h
  · rename_i hk
    obtain ⟨rfl, rfl⟩ := Prod.mk.inj (Option.some.inj h)
    exact ⟨List.take_append_drop _ _, by rw [List.length_take]; omega⟩
  · cases h
theorem gFour_inv {l : List UInt8} {n : Nat} {r : List UInt8} (h : gFour l = some (n, r)) : fourB (n : Int) ++ r = l := by
  unfold gFour at h
  split at h
  · cases h
  · rename_i a r' ha
    obtain ⟨rfl, rfl⟩ := Prod.mk.inj (Option.some.inj h)
    obtain ⟨h1, h2⟩ := gTake_inv ha
    have h3 := be_beVal a
    rw [h2] at h3
    unfold fourB
    rw [Int.toNat_natCast, h3, h1]
theorem gInt_inv {g : List UInt8 → Got Nat} {l : List UInt8} {z : Int} {r : List UInt8} (h : gInt g l = some (z, r)) : ∃ n : Nat, z = n ∧ g l = some (n, r) := by
  unfold gInt at h
  split at h
  · cases h
  · rename_i n r' ha
    obtain ⟨rfl, rfl⟩ := Prod.mk.inj (Option.some.inj h)
    exact ⟨n, rfl, ha⟩
theorem gI1_inv {l : List UInt8} {z : Int} {r : List UInt8} (h : gInt gOne l = some (z, r)) : oneB z ++ r = l := by
  obtain ⟨n, rfl, h1⟩ := gInt_inv h
  exact (gOne_inv h1).1
theorem gI4_inv {l : List UInt8} {z : Int} {r : List UInt8} (h : gInt gFour l = some (z, r)) : fourB z ++ r = l := by
  obtain ⟨n, rfl, h1⟩ := gInt_inv h
  exact gFour_inv h1
theorem gText_inv {l s r : List UInt8} (h : gText l = some (s, r)) : txtB s ++ r = l := by
  unfold gText at h
  split at h
  · cases h
  · rename_i n r' ha
    obtain ⟨h1, h2⟩ := gTake_inv h
    obtain ⟨h3, h4⟩ := gOne_inv ha
    rw [← h3, ← h1]
    unfold txtB oneB
    rw [h2]
    simp
theorem gMany_inv {α : Type} {g : List UInt8 → Got α} {f : α → List UInt8} (hg : ∀ l a r, g l = some (a, r) → f a ++ r = l) : ∀ (n : Nat) (l : List UInt8) (t : List α) (r : List UInt8), gMany g n l = some (t, r) → t.flatMap f ++ r = l ∧ t.length = n := by
  intro n
  induction n with
  | zero =>
    intro l t r h
    obtain ⟨rfl, rfl⟩ := Prod.mk.inj (Option.some.inj h)
    exact ⟨rfl, rfl⟩
  | succ n ih =>
    intro l t r h
    unfold gMany at h
    split at h
    · cases h
    · rename_i a r' ha
      split at h
      · cases h
      · rename_i t' r'' hb
        obtain ⟨rfl, rfl⟩ := Prod.mk.inj (Option.some.inj h)
        obtain ⟨h1, h2⟩ := ih _ _ _ hb
        refine ⟨?_, by rw [List.length_cons, h2]⟩
        rw [List.flatMap_cons, List.append_assoc, h1]
        exact hg _ _ _ ha
theorem gCol_inv (l : List UInt8) (c : PC) (r : List UInt8) (h : gCol l = some (c, r)) : colB c ++ r = l := by
  unfold gCol at h
  split at h
  · cases h
  rename_i s r1 h1
  split at h
  · cases h
  rename_i k r2 h2
  split at h
  · cases h
  rename_i d r3 h3
  split at h
  · cases h
  rename_i u r4 h4
  obtain ⟨rfl, rfl⟩ := Prod.mk.inj (Option.some.inj h)
  rw [← gText_inv h1, ← gI1_inv h2, ← gI4_inv h3, ← gI4_inv h4]
  simp only [colB, List.append_assoc]
theorem gNums3_inv {l : List UInt8} {a b c : Int} {r : List UInt8} (h : gNums3 l = some ((a, b, c), r)) : fourB a ++ (fourB b ++ (fourB c ++ r)) = l := by
  unfold gNums3 at h
  split at h
  · cases h
  rename_i a' r1 h1
  split at h
  · cases h
  rename_i b' r2 h2
  split at h
  · cases h
  rename_i c' r3 h3
  obtain ⟨h4, rfl⟩ := Prod.mk.inj (Option.some.inj h)
  obtain ⟨rfl, h5⟩ := Prod.mk.inj h4
  obtain ⟨rfl, rfl⟩ := Prod.mk.inj h5
  rw [← gI4_inv h1, ← gI4_inv h2, ← gI4_inv h3]
theorem gTab_inv (l : List UInt8) (t : PT) (r : List UInt8) (h : gTab l = some (t, r)) : tabB t ++ r = l := by
  unfold gTab at h
  split at h
  · cases h
  rename_i s r1 h1
  split at h
  · cases h
  rename_i n r2 h2
  split at h
  · cases h
  rename_i cs r3 h3
  split at h
  · cases h
  rename_i a b c r4 h4
  obtain ⟨rfl, rfl⟩ := Prod.mk.inj (Option.some.inj h)
  obtain ⟨h5, h6⟩ := gMany_inv gCol_inv _ _ _ _ h3
  rw [← gText_inv h1, ← (gOne_inv h2).1, ← h5, ← gNums3_inv h4, ← h6]
  simp only [tabB, List.append_assoc]
theorem gIdx_inv (l : List UInt8) (x : PX) (r : List UInt8) (h : gIdx l = some (x, r)) : idxB x ++ r = l := by
  unfold gIdx at h
  split at h
  · cases h
  rename_i s r1 h1
  split at h
  · cases h
  rename_i tb r2 h2
  split at h
  · cases h
  rename_i n r3 h3
  split at h
  · cases h
  rename_i cs r4 h4
  split at h
  · cases h
  rename_i a b c r5 h5
  split at h
  · cases h
  rename_i ds r6 h6
  obtain ⟨rfl, rfl⟩ := Prod.mk.inj (Option.some.inj h)
  obtain ⟨h7, h8⟩ := gMany_inv (fun _ _ _ h => gI1_inv h) _ _ _ _ h4
  obtain ⟨h9, h10⟩ := gMany_inv (fun _ _ _ h => gI4_inv h) _ _ _ _ h6
  rw [← gText_inv h1, ← gI1_inv h2, ← (gOne_inv h3).1, ← h7, ← gNums3_inv h5, ← h9, ← h8]
  simp only [idxB, List.append_assoc]
/-- What is read as a book is written as it stood. -/
theorem gBook_inv {l : List UInt8} {b : PB} {r : List UInt8} (h : gBook l = some (b, r)) : bookB b ++ r = l := by
  unfold gBook at h
  split at h
  · cases h
  rename_i n r1 h1
  split at h
  · cases h
  rename_i ts r2 h2
  split at h
  · cases h
  rename_i m r3 h3
  split at h
  · cases h
  rename_i xs r4 h4
  obtain ⟨rfl, rfl⟩ := Prod.mk.inj (Option.some.inj h)
  obtain ⟨h5, h6⟩ := gMany_inv gTab_inv _ _ _ _ h2
  obtain ⟨h7, h8⟩ := gMany_inv gIdx_inv _ _ _ _ h4
  rw [← (gOne_inv h1).1, ← h5, ← (gOne_inv h3).1, ← h7, ← h6, ← h8]
  simp only [bookB, List.append_assoc]
theorem bookB_of {l : List UInt8} {b : PB} (h : gBook l = some (b, [])) : bookB b = l := by
  have := gBook_inv h
  rwa [List.append_nil] at this
end
end Go.Proofs.Ytflolnilagogpaa
/-
  SchemaGets: the walk.
-/
namespace Go.Proofs.Ytflolnilagogpaa
section
set_option linter.unusedSimpArgs false
set_option linter.unusedVariables false
open Go.RowKit

set_option maxRecDepth 100000 in
set_option maxHeartbeats 8000000 in
theorem schemaGets_any (A : Option Addr) (n c : Nat) (bs : List UInt8) (w : World) (hr : Reads w w.heap.size 1 A n (bL bs)) (hnc : n ≤ c) (hc : c ≤ maxLen) :
    Calls Try.prog 4 #[.slice A n c] w (RetB w (.bool true)) := by
  have FX := Lib.hid fun W => fixed12_any W
  have hlen := hr.bytes_len
  have hnm : n ≤ maxLen := Nat.le_trans hnc hc
  have hnm' : n ≤ 9223372036854775807 := by unfold maxLen at hnm; omega
  by_cases h6 : 6000 < n
  · have e1 : decide ((6000 : Int) < (n : Int)) = true := by simp; omega
    clear hr hnc hc hnm hlen h6
    go_enter Try.func4, Try.ntmps4
    go_wp2_with fail
    refine (FX.out _).mono ?_
    rintro e w1 ⟨rfl, hb1⟩
    go_wp2
    go_ret
    exact ⟨rfl, hb1⟩
  have e1 : decide ((6000 : Int) < (n : Int)) = false := by simp; omega
  have GA := Lib.hid (get_any A n c bs w hr hnc)
  have RGT := Lib.hid fun W => rgetB_any bs W (by rw [hlen]; exact hnm)
  have HR := Lib.hid hr
  clear hr hnc hc hnm hlen h6
  go_enter Try.func4, Try.ntmps4
  go_wp2_with fail
  refine GA.out.mono ?_
  rintro e w1 ⟨A1, n1, c1, l, A2, n2, c2, r, e0, rfl, hk1, hb1, hor⟩
  have hba1 := ball (Below.refl w1.heap.size w1) (.cells #[.slice A1 n1 c1, .slice A2 n2 c2] 25)
  have b1 := ball hb1 (.cells #[.slice A1 n1 c1, .slice A2 n2 c2] 25)
  have cv := conv_reads (P := Try.prog) (HR.out.below b1) 28 5 9 Try.underlying28 Try.underlying5 Try.underlying9 c
  have X1 := Blk.new w1 25 #[.slice A1 n1 c1, .slice A2 n2 c2]
  have H1 := Lib.hid (And.intro (hk1.below hba1) (And.intro b1 X1))
  clear hk1 hb1 hba1 b1 X1 GA
  go_wp2_with fail
  refine (RGT.out _).mono ?_
  rintro e w2 ⟨B1, m1, d1, l', B2, m2, d2, r', ok, rfl, hk2, hb2, hor2⟩
  have hba2 := ball (Below.refl w2.heap.size w2) (.cells #[.slice B1 m1 d1, .slice B2 m2 d2] 25)
  have hkx := (H1.out.1.below hb2).below hba2
  have hky := hk2.below hba2
  have X2 := (H1.out.2.2.below hb2 H1.out.2.2.lt).alloc (.cells #[.slice B1 m1 d1, .slice B2 m2 d2] 25)
  have Y2 := Blk.new w2 25 #[.slice B1 m1 d1, .slice B2 m2 d2]
  have b2 := ball (bto0 H1.out.2.1 hb2) (.cells #[.slice B1 m1 d1, .slice B2 m2 d2] 25)
  have x0 : (w2.alloc (.cells #[.slice B1 m1 d1, .slice B2 m2 d2] 25)).cell? ⟨w1.heap.size, 0, none⟩ = some (.slice A1 n1 c1) := X2.cell 0
  have x1 : (w2.alloc (.cells #[.slice B1 m1 d1, .slice B2 m2 d2] 25)).cell? ⟨w1.heap.size, 1, none⟩ = some (.slice A2 n2 c2) := X2.cell 1
  have H2 := Lib.hid (And.intro hkx (And.intro hky (And.intro X2 (And.intro Y2 b2))))
  have hz1 := X2.lt
  clear hk2 hba2 hkx hky X2 Y2 b2 cv
  rcases hor with ⟨rfl, hg, hmay⟩ | ⟨rfl, rfl, rfl, hno⟩
  · rcases hor2 with ⟨rfl, hg2, hmay2⟩ | ⟨_, _, _, hno⟩
    rotate_left
    · exact absurd ⟨_, hg, hmay⟩ hno
    have heq : pbk l r = pbk l' r' := by
      rw [hg] at hg2
      injection hg2 with h
      injection h with h _
    have hbk : bookB (pbk l r) = bs := bookB_of hg
    have SA := Lib.hid (same_any12 A1 n1 c1 l A2 n2 c2 r B1 m1 d1 l' B2 m2 d2 r' _ H2.out.1 H2.out.2.1)
    have HE := Lib.hid (And.intro heq (And.intro hbk hmay))
    clear hg hg2 hmay hmay2 heq hbk hb2
    go_wp2_with fail
    refine SA.out.mono ?_
    rintro e w3 ⟨b, rfl, hbi, hb3⟩
    obtain rfl : b = true := hbi.2 HE.out.1
    have X3 := H2.out.2.2.1.below hb3 H2.out.2.2.1.lt
    have b3 := bto0 H2.out.2.2.2.2 hb3
    have hk3 := H2.out.1.below hb3
    have H3 := Lib.hid (And.intro X3 (And.intro b3 hk3))
    have hS : Hid (∀ W, Below w3.heap.size w3 W → W.cell? ⟨w1.heap.size, 0, none⟩ = some (.slice A1 n1 c1) ∧ W.cell? ⟨w1.heap.size, 1, none⟩ = some (.slice A2 n2 c2) ∧ (convert 28 9 (.slice A n c)).run Try.prog W = .ok (.string (str bs)) W ∧ Below w3.heap.size w3 W) := Lib.hid fun W hW => by
      have P := H3.out.1.below hW H3.out.1.lt
      exact ⟨P.cell 0, P.cell 1, conv_reads (P := Try.prog) (HR.out.below (bto0 H3.out.2.1 hW)) 28 5 9 Try.underlying28 Try.underlying5 Try.underlying9 c, hW⟩
    have MA : Hid (∀ W, Below w3.heap.size w3 W → Calls Try.prog 12 #[.agg #[.slice A1 n1 c1, .slice A2 n2 c2]] W (RetB W (.bool true))) := Lib.hid fun W hW => (rmay_any A1 n1 c1 l A2 n2 c2 r W (H3.out.2.2.below hW)).mono fun e w' ⟨b, he, hi, hb⟩ => ⟨by have hbv : b = true := hi.2 HE.out.2.2; rw [he, hbv], hb⟩
    have PA : Hid (∀ W, Below w3.heap.size w3 W → Calls Try.prog 14 #[.agg #[.slice A1 n1 c1, .slice A2 n2 c2]] W (RetB W (.string (str bs)))) := Lib.hid fun W hW => by
      have h := rput_any A1 n1 c1 l A2 n2 c2 r W (H3.out.2.2.below hW) HE.out.2.2
      rwa [HE.out.2.1] at h
    have ss : ((str bs).toList == (str bs).toList) = true := beq_self_eq_true _
    clear x0 x1 X3 b3 hk3 hb3 hbi SA
    go_wp2_with fail
    go_region_held3 (fun W => W.cell? ⟨w1.heap.size, 0, none⟩ = some (.slice A1 n1 c1) ∧ W.cell? ⟨w1.heap.size, 1, none⟩ = some (.slice A2 n2 c2) ∧ (convert 28 9 (.slice A n c)).run Try.prog W = .ok (.string (str bs)) W ∧ Below w3.heap.size w3 W)
      (first | exact hS.out _ (by (with_reducible repeat (first | exact Below.refl _ _ | exact hb12 | exact hb11 | exact hb10 | refine bto0 ?_ hb12 | refine bto0 ?_ hb11 | refine bto0 ?_ hb10 | refine bdr ?_ _ | refine Below.drew ?_ | refine ball ?_ _))) | assumption)
      (first
        | (go_at_call 7; (with_reducible refine (FX.out _).mono ?_); rintro e w10 ⟨rfl, hb10⟩)
        | (go_at_call 12; (with_reducible refine (MA.out _ (by (with_reducible repeat (first | exact Below.refl _ _ | exact hb12 | exact hb11 | exact hb10 | refine bto0 ?_ hb12 | refine bto0 ?_ hb11 | refine bto0 ?_ hb10 | refine bdr ?_ _ | refine Below.drew ?_ | refine ball ?_ _)))).mono ?_); rintro e w11 ⟨rfl, hb11⟩)
        | (go_at_call 14; (with_reducible refine (PA.out _ (by (with_reducible repeat (first | exact Below.refl _ _ | exact hb12 | exact hb11 | exact hb10 | refine bto0 ?_ hb12 | refine bto0 ?_ hb11 | refine bto0 ?_ hb10 | refine bdr ?_ _ | refine Below.drew ?_ | refine ball ?_ _)))).mono ?_); rintro e w12 ⟨rfl, hb12⟩))
    have bX : Below w3.heap.size w3 w12 := (by (with_reducible repeat (first | exact Below.refl _ _ | exact hb12 | exact hb11 | exact hb10 | refine bto0 ?_ hb12 | refine bto0 ?_ hb11 | refine bto0 ?_ hb10 | refine bdr ?_ _ | refine Below.drew ?_ | refine ball ?_ _)))
    go_wp2
    go_ret
    exact ⟨rfl, bto0 H3.out.2.1 bX⟩
  · rcases hor2 with ⟨rfl, hg2, hmay2⟩ | ⟨rfl, rfl, rfl, _⟩
    · exact absurd ⟨_, hg2, hmay2⟩ hno
    have SA := Lib.hid (same_any12 A1 n1 c1 [] A2 n2 c2 [] B1 m1 d1 [] B2 m2 d2 [] _ H2.out.1 H2.out.2.1)
    clear hb2 hno
    go_wp2_with fail
    refine SA.out.mono ?_
    rintro e w3 ⟨b, rfl, hbi, hb3⟩
    obtain rfl : b = true := hbi.2 (by first | rfl | trivial)
    have X3 := H2.out.2.2.1.below hb3 H2.out.2.2.1.lt
    have b3 := bto0 H2.out.2.2.2.2 hb3
    have hk3 := H2.out.1.below hb3
    have H3 := Lib.hid (And.intro X3 (And.intro b3 hk3))
    clear x0 x1 X3 b3 hk3 hb3 hbi SA
    go_wp2_with fail
    refine (FX.out _).mono ?_
    rintro e w4 ⟨rfl, hb4⟩
    have X4 := H3.out.1.below hb4 H3.out.1.lt
    have q0 : w4.cell? ⟨w1.heap.size, 0, none⟩ = some (.slice A1 n1 c1) := X4.cell 0
    have q1 : w4.cell? ⟨w1.heap.size, 1, none⟩ = some (.slice A2 n2 c2) := X4.cell 1
    have SB := Lib.hid (same_any12 A1 n1 c1 [] A2 n2 c2 [] none 0 0 [] none 0 0 [] _ (H3.out.2.2.below hb4) (bk_nil w4))
    have H4 := Lib.hid (bto0 H3.out.2.1 hb4)
    clear hb4 X4
    go_wp2_with fail
    refine SB.out.mono ?_
    rintro e w5 ⟨b, rfl, hbi, hb5⟩
    obtain rfl : b = true := hbi.2 (by first | rfl | trivial)
    have HB5 := Lib.hid (bto0 H4.out hb5)
    clear hb5 hbi q0 q1
    go_wp2
    go_ret
    exact ⟨rfl, HB5.out⟩
theorem schemaGets_all (A : Option Addr) (n c : Nat) (l : List Int) (w : World) (hr : Reads w w.heap.size 1 A n (l.map (Value.int .u8))) (hw : ∀ x ∈ l, (Lit.int .u8 x).wf = true) (hnc : n ≤ c) (hc : c ≤ maxLen) :
    Calls Try.prog 4 #[.slice A n c] w (RetB w (.bool true)) := by
  have hL : ∃ L : List UInt8, l.map (Value.int .u8) = bL L := by
    clear hr
    induction l with
    | nil => exact ⟨[], rfl⟩
    | cons x l ih =>
      obtain ⟨L, h1⟩ := ih fun y hy => hw y (by simp [hy])
      have hx := Go.bounds_u8 (hw x (by simp))
      refine ⟨UInt8.ofNat x.toNat :: L, ?_⟩
      rw [List.map_cons, h1]
      simp only [bL, List.map_cons]
      congr 1
      congr 1
      simp
      omega
  obtain ⟨L, hL⟩ := hL
  rw [hL] at hr
  exact schemaGets_any A n c L w hr hnc hc
end
end Go.Proofs.Ytflolnilagogpaa
