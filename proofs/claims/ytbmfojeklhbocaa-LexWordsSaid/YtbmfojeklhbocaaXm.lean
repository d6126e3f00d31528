/-
  LexWords: the walk.
-/
import Derived.Test.YtbmfojeklhbocaaXl
import Derived.Test.YtbmfojeklhbocaaWx
import Derived.Deep.RegionHeld3
set_option linter.unusedSimpArgs false
set_option linter.unusedVariables false
namespace Go.Proofs.Ytbmfojeklhbocaa
open Go.RowKit

theorem Reads.bs {w : World} {B n k : Nat} {A : Option Addr} {l : List ByteArray} (hr : Reads w B 1 A n (vS l)) (hk : k < n) : ∃ ad x, A = some ad ∧ ad.block < B ∧ l[k]? = some x ∧ w.cell? (ad.add k) = some (.string x) := by
  obtain ⟨ad, u, e, hb, hu, hc⟩ := hr.at_ hk
  unfold vS at hu
  rw [List.getElem?_map] at hu
  obtain ⟨b, h1, rfl⟩ := Option.map_eq_some_iff.1 hu
  exact ⟨ad, b, e, hb, h1, hc⟩
theorem first_word {w : World} {base c : Nat} {A : Option Addr} (h : w.ownsRow base 9 1 (.slice A 24 c) 24 (vS wordsS)) : ∃ ad, A = some ad ∧ w.cell? ad = some (.string ⟨#[65, 78, 68]⟩) := by
  obtain ⟨ad, x, e, _, hx, cx⟩ := (Reads.of_own h).bs (k := 0) (by omega)
  have e0 : ad.add 0 = ad := by simp [Addr.add]
  rw [e0] at cx
  simp [wordsS] at hx
  subst hx
  exact ⟨ad, e, cx⟩
set_option maxRecDepth 100000 in
set_option maxHeartbeats 8000000 in
theorem lexWords_any (s : ByteArray) (w : World) : Calls Try.prog 4 #[.string s] w (RetB w (.bool true)) := by
  have FX := Lib.hid fun W => fixed15_any W
  have W1 := Lib.hid fun W => words_any W
  have W2 := Lib.hid fun W => words_any W
  have W3 := Lib.hid fun W => words_any W
  have RW := Lib.hid fun W => rwords_any W
  have WD := Lib.hid fun W => word_any s W
  have RD := Lib.hid fun W => rword_any s W
  go_enter Try.func4, Try.ntmps4
  go_wp2_with fail
  refine (W1.out _).mono ?_
  rintro e w1 ⟨A, c, rfl, hc, own1, hb1⟩
  clear W1
  go_wp2_with fail
  refine (RW.out _).mono ?_
  rintro e w2 ⟨rfl, hw2⟩
  have own2 : w2.ownsRow w.heap.size 9 1 (.slice A 24 c) 24 (vS wordsS) := by rw [hw2]; exact own1.alloc _
  have bm : Blk w2 w1.heap.size 9 (vS wordsS).toArray := by rw [hw2]; exact Blk.new _ _ _
  have hb2 : Below w.heap.size w w2 := by rw [hw2]; exact ball hb1 _
  have hne : (Value.slice A 24 c).ownBlock ≠ some w1.heap.size := fun e => by have := (own1.lt _ e).2; omega
  clear hw2 own1 hb1
  go_wp2_with fail
  go_loopw [15] (fun iv wr => ∃ k : Nat, k ≤ 24 ∧ iv = .int .i64 k ∧ Below w2.heap.size w2 wr) (fun iv _ => 24 - (intOf iv).toNat)
  case atStart => exact ⟨0, by omega, rfl, Below.refl _ _⟩
  case round =>
    obtain ⟨k, hk, rfl, hb⟩ := hrel
    have q0 : (0 : Int) ≤ (k : Int) := by omega
    have own3 := own_below own2 hb
    have bm3 := bm.below hb bm.lt
    have HB := Lib.hid (And.intro hb (bto0 hb2 hb))
    by_cases hlt : k < 24
    · have q1 : (k : Int) < 24 := by omega
      obtain ⟨ad, x, rfl, hab, hx, cx⟩ := (Reads.of_own own3).bs hlt
      have cm : wr.cell? ⟨w1.heap.size, k, none⟩ = some (.string x) := (bm3.cell k).trans (by simpa using vS_at hx)
      have WX := Lib.hid fun W => word_any x W
      rw [(word_mem x).1 (List.mem_of_getElem? hx)] at WX
      have HS : Hid (∀ W : World, Below wr.heap.size wr W → W.cell? (ad.add k) = some (.string x) ∧ W.cell? ⟨w1.heap.size, k, none⟩ = some (.string x) ∧ Below wr.heap.size wr W) := Lib.hid fun W hW => ⟨(hW.cell (cell_block cx)).trans cx, (hW.cell (cell_block cm)).trans cm, hW⟩
      clear hx own3 bm3 hb FX W2 W3 WD RD
      go_wp2
      go_region_held3 (fun W => W.cell? (ad.add k) = some (.string x) ∧ W.cell? ⟨w1.heap.size, k, none⟩ = some (.string x) ∧ Below wr.heap.size wr W)
        (first | exact HS.out _ (by (with_reducible repeat (first | exact Below.refl _ _ | exact hb5 | refine bto0 ?_ hb5 | refine bdr ?_ _ | refine Below.drew ?_ | refine ball ?_ _))) | assumption)
        (first | (go_at_call 14; (with_reducible refine (WX.out _).mono ?_); rintro e w5 ⟨rfl, hb5⟩))
      go_wp2
      go_roundw
      case rel => exact ⟨k + 1, by omega, by go_num, bto0 HB.out.1 (by (with_reducible repeat (first | exact Below.refl _ _ | exact hb5 | refine bto0 ?_ hb5 | refine bdr ?_ _ | refine Below.drew ?_ | refine ball ?_ _)))⟩
      case measure => simp [intOf]; omega
    · obtain rfl : k = 24 := by omega
      obtain ⟨w4, hcl, hcb, hcg, hco, hcs⟩ := clearS own3
      have bm4 : Blk w4 w1.heap.size 9 (vS wordsS).toArray := (hco _ hne bm3.lt).trans bm3
      have hb4 := hcb _ w (Nat.le_refl _) HB.out.2
      obtain ⟨A3, hA3⟩ : ∃ A3, A = A3 := ⟨_, rfl⟩
      have cm : w4.cell? ⟨w1.heap.size, 0, none⟩ = some (.string ⟨#[65, 78, 68]⟩) := bm4.cell 0
      have HS : Hid (∀ W : World, Below w4.heap.size w4 W → W.cell? ⟨w1.heap.size, 0, none⟩ = some (.string ⟨#[65, 78, 68]⟩) ∧ Below w4.heap.size w4 W) := Lib.hid fun W hW => ⟨(hW.cell (cell_block cm)).trans cm, hW⟩
      have HB4 := Lib.hid hb4
      clear own3 bm3 bm4 hb4 hb hb2 hcb hcg hco hcs own2 bm hne HB hA3
      go_wp2
      refine wp_region_held_drew (S := (fun W => W.cell? ⟨w1.heap.size, 0, none⟩ = some (.string ⟨#[65, 78, 68]⟩) ∧ Below w4.heap.size w4 W)) (by kernel_rfl) (by exact HS.out _ (Below.drew (Below.refl _ _))) (fun hHeld => ?_)
      try dsimp only at hHeld
      refine wpAnyH_ready (rs := [0]) (by kernel_rfl) (by simp) (AllReadyH.cons rfl (fun K hK => ?_) AllReadyH.nil)
      go_simp
      (with_reducible refine (FX.out _).mono ?_); rintro e w5 ⟨rfl, hb5⟩
      go_wp2_with fail
      refine hK.out _ _ ?_ (fun hHeld => ?_)
      · ((try dsimp only); (try dsimp only at hHeld); (first | exact HS.out _ (by (with_reducible repeat (first | exact Below.refl _ _ | exact hb9 | exact hb8 | exact hb7 | exact hb6 | exact hb5 | refine bto0 ?_ hb9 | refine bto0 ?_ hb8 | refine bto0 ?_ hb7 | refine bto0 ?_ hb6 | refine bto0 ?_ hb5 | refine bdr ?_ _ | refine Below.drew ?_ | refine ball ?_ _))) | assumption))
      clear hK K
      try dsimp only at hHeld
      try simp only [Act.put, List.getElem_toArray, List.getElem_cons_succ, List.getElem_cons_zero, List.setIfInBounds_toArray, List.set_cons_zero, List.set_cons_succ]
      refine wpAnyH_take (i := 1) (v := ?_) rfl (by kernel_rfl) (by kernel_rfl) (by kernel_rfl) (fun _ _ _ h => h) (Or.inl ⟨rfl, ?_⟩) hHeld ?_
      rotate_left
      focus (intro wx hSw; (try dsimp only at hSw); (try go_split_ands); go_simp; (try with_reducible rfl))
      try simp only [Act.put, List.getElem_toArray, List.getElem_cons_succ, List.getElem_cons_zero, List.setIfInBounds_toArray, List.set_cons_zero, List.set_cons_succ]
      refine wpAnyH_take (i := 2) (v := ?_) rfl (by kernel_rfl) (by kernel_rfl) (by kernel_rfl) (fun _ _ _ h => h) (Or.inl ⟨rfl, ?_⟩) hHeld ?_
      rotate_left
      focus (intro wx hSw; (try dsimp only at hSw); (try go_split_ands); go_simp; (try with_reducible rfl))
      try simp only [Act.put, List.getElem_toArray, List.getElem_cons_succ, List.getElem_cons_zero, List.setIfInBounds_toArray, List.set_cons_zero, List.set_cons_succ]
      refine wpAnyH_take (i := 4) (v := ?_) rfl (by kernel_rfl) (by kernel_rfl) (by kernel_rfl) (fun _ _ _ h => h) (Or.inl ⟨rfl, ?_⟩) hHeld ?_
      rotate_left
      focus (intro wx hSw; (try dsimp only at hSw); (try go_split_ands); go_simp; (try with_reducible rfl))
      try simp only [Act.put, List.getElem_toArray, List.getElem_cons_succ, List.getElem_cons_zero, List.setIfInBounds_toArray, List.set_cons_zero, List.set_cons_succ]
      refine wpAnyH_ready (rs := [3]) (by kernel_rfl) (by simp) (AllReadyH.cons rfl (fun K hK => ?_) AllReadyH.nil)
      go_simp
      (with_reducible refine (WD.out _).mono ?_); rintro e w6 ⟨rfl, hb6⟩
      go_wp2_with fail
      refine hK.out _ _ ?_ (fun hHeld => ?_)
      · ((try dsimp only); (try dsimp only at hHeld); (first | exact HS.out _ (by (with_reducible repeat (first | exact Below.refl _ _ | exact hb9 | exact hb8 | exact hb7 | exact hb6 | exact hb5 | refine bto0 ?_ hb9 | refine bto0 ?_ hb8 | refine bto0 ?_ hb7 | refine bto0 ?_ hb6 | refine bto0 ?_ hb5 | refine bdr ?_ _ | refine Below.drew ?_ | refine ball ?_ _))) | assumption))
      clear hK K
      try dsimp only at hHeld
      try simp only [Act.put, List.getElem_toArray, List.getElem_cons_succ, List.getElem_cons_zero, List.setIfInBounds_toArray, List.set_cons_zero, List.set_cons_succ]
      refine wpAnyH_ready (rs := [5]) (by kernel_rfl) (by simp) (AllReadyH.cons rfl (fun K hK => ?_) AllReadyH.nil)
      go_simp
      (with_reducible refine (RD.out _).mono ?_); rintro e w7 ⟨rfl, hb7⟩
      go_wp2_with fail
      refine hK.out _ _ ?_ (fun hHeld => ?_)
      · ((try dsimp only); (try dsimp only at hHeld); (first | exact HS.out _ (by (with_reducible repeat (first | exact Below.refl _ _ | exact hb9 | exact hb8 | exact hb7 | exact hb6 | exact hb5 | refine bto0 ?_ hb9 | refine bto0 ?_ hb8 | refine bto0 ?_ hb7 | refine bto0 ?_ hb6 | refine bto0 ?_ hb5 | refine bdr ?_ _ | refine Below.drew ?_ | refine ball ?_ _))) | assumption))
      clear hK K
      try dsimp only at hHeld
      try simp only [Act.put, List.getElem_toArray, List.getElem_cons_succ, List.getElem_cons_zero, List.setIfInBounds_toArray, List.set_cons_zero, List.set_cons_succ]
      refine wpAnyH_take (i := 6) (v := ?_) rfl (by kernel_rfl) (by kernel_rfl) (by kernel_rfl) (fun _ _ _ h => h) (Or.inl ⟨rfl, ?_⟩) hHeld ?_
      rotate_left
      focus (intro wx hSw; (try dsimp only at hSw); (try go_split_ands); go_simp; (try with_reducible rfl))
      try simp only [Act.put, List.getElem_toArray, List.getElem_cons_succ, List.getElem_cons_zero, List.setIfInBounds_toArray, List.set_cons_zero, List.set_cons_succ]
      refine wpAnyH_take (i := 7) (v := ?_) rfl (by kernel_rfl) (by kernel_rfl) (by kernel_rfl) (fun _ _ _ h => h) (Or.inl ⟨rfl, ?_⟩) hHeld ?_
      rotate_left
      focus (intro wx hSw; (try dsimp only at hSw); (try go_split_ands); go_simp; (try with_reducible rfl))
      try simp only [Act.put, List.getElem_toArray, List.getElem_cons_succ, List.getElem_cons_zero, List.setIfInBounds_toArray, List.set_cons_zero, List.set_cons_succ]
      refine wpAnyH_take (i := 8) (v := ?_) rfl (by kernel_rfl) (by kernel_rfl) (by kernel_rfl) (fun _ _ _ h => h) (Or.inl ⟨rfl, ?_⟩) hHeld ?_
      rotate_left
      focus (intro wx hSw; (try dsimp only at hSw); (try go_split_ands); go_simp; (try with_reducible rfl))
      try simp only [Act.put, List.getElem_toArray, List.getElem_cons_succ, List.getElem_cons_zero, List.setIfInBounds_toArray, List.set_cons_zero, List.set_cons_succ]
      refine wpAnyH_take (i := 11) (v := ?_) rfl (by kernel_rfl) (by kernel_rfl) (by kernel_rfl) (fun _ _ _ h => h) (Or.inl ⟨rfl, ?_⟩) hHeld ?_
      rotate_left
      focus (intro wx hSw; (try dsimp only at hSw); (try go_split_ands); go_simp; (try with_reducible rfl))
      try simp only [Act.put, List.getElem_toArray, List.getElem_cons_succ, List.getElem_cons_zero, List.setIfInBounds_toArray, List.set_cons_zero, List.set_cons_succ]
      refine wpAnyH_take (i := 12) (v := ?_) rfl (by kernel_rfl) (by kernel_rfl) (by kernel_rfl) (fun _ _ _ h => h) (Or.inl ⟨rfl, ?_⟩) hHeld ?_
      rotate_left
      focus (intro wx hSw; (try dsimp only at hSw); (try go_split_ands); go_simp; (try with_reducible rfl))
      try simp only [Act.put, List.getElem_toArray, List.getElem_cons_succ, List.getElem_cons_zero, List.setIfInBounds_toArray, List.set_cons_zero, List.set_cons_succ]
      refine wpAnyH_ready (rs := [9]) (by kernel_rfl) (by simp) (AllReadyH.cons rfl (fun K hK => ?_) AllReadyH.nil)
      go_simp
      (with_reducible refine (W2.out _).mono ?_); rintro e w8 ⟨A8, c8, rfl, hc8, own8, hb8⟩; clear own8
      go_wp2_with fail
      refine hK.out _ _ ?_ (fun hHeld => ?_)
      · ((try dsimp only); (try dsimp only at hHeld); (first | exact HS.out _ (by (with_reducible repeat (first | exact Below.refl _ _ | exact hb9 | exact hb8 | exact hb7 | exact hb6 | exact hb5 | refine bto0 ?_ hb9 | refine bto0 ?_ hb8 | refine bto0 ?_ hb7 | refine bto0 ?_ hb6 | refine bto0 ?_ hb5 | refine bdr ?_ _ | refine Below.drew ?_ | refine ball ?_ _))) | assumption))
      clear hK K
      try dsimp only at hHeld
      try simp only [Act.put, List.getElem_toArray, List.getElem_cons_succ, List.getElem_cons_zero, List.setIfInBounds_toArray, List.set_cons_zero, List.set_cons_succ]
      refine wpAnyH_take (i := 10) (v := ?_) rfl (by kernel_rfl) (by kernel_rfl) (by kernel_rfl) (fun _ _ _ h => h) (Or.inl ⟨rfl, ?_⟩) hHeld ?_
      rotate_left
      focus (intro wx hSw; (try dsimp only at hSw); (try go_split_ands); go_simp; (try with_reducible rfl))
      try simp only [Act.put, List.getElem_toArray, List.getElem_cons_succ, List.getElem_cons_zero, List.setIfInBounds_toArray, List.set_cons_zero, List.set_cons_succ]
      refine wpAnyH_take (i := 13) (v := ?_) rfl (by kernel_rfl) (by kernel_rfl) (by kernel_rfl) (fun _ _ _ h => h) (Or.inl ⟨rfl, ?_⟩) hHeld ?_
      rotate_left
      focus (intro wx hSw; (try dsimp only at hSw); (try go_split_ands); go_simp; (try with_reducible rfl))
      try simp only [Act.put, List.getElem_toArray, List.getElem_cons_succ, List.getElem_cons_zero, List.setIfInBounds_toArray, List.set_cons_zero, List.set_cons_succ]
      refine wpAnyH_take (i := 14) (v := ?_) rfl (by kernel_rfl) (by kernel_rfl) (by kernel_rfl) (fun _ _ _ h => h) (Or.inl ⟨rfl, ?_⟩) hHeld ?_
      rotate_left
      focus (intro wx hSw; (try dsimp only at hSw); (try go_split_ands); go_simp; (try with_reducible rfl))
      try simp only [Act.put, List.getElem_toArray, List.getElem_cons_succ, List.getElem_cons_zero, List.setIfInBounds_toArray, List.set_cons_zero, List.set_cons_succ]
      refine wpAnyH_take (i := 15) (v := ?_) rfl (by kernel_rfl) (by kernel_rfl) (by kernel_rfl) (fun _ _ _ h => h) (Or.inl ⟨rfl, ?_⟩) hHeld ?_
      rotate_left
      focus (intro wx hSw; (try dsimp only at hSw); (try go_split_ands); go_simp; (try with_reducible rfl))
      try simp only [Act.put, List.getElem_toArray, List.getElem_cons_succ, List.getElem_cons_zero, List.setIfInBounds_toArray, List.set_cons_zero, List.set_cons_succ]
      refine wpAnyH_take (i := 19) (v := ?_) rfl (by kernel_rfl) (by kernel_rfl) (by kernel_rfl) (fun _ _ _ h => h) (Or.inl ⟨rfl, ?_⟩) hHeld ?_
      rotate_left
      focus (intro wx hSw; (try dsimp only at hSw); (try go_split_ands); go_simp; (try with_reducible rfl))
      try simp only [Act.put, List.getElem_toArray, List.getElem_cons_succ, List.getElem_cons_zero, List.setIfInBounds_toArray, List.set_cons_zero, List.set_cons_succ]
      refine wpAnyH_take (i := 20) (v := ?_) rfl (by kernel_rfl) (by kernel_rfl) (by kernel_rfl) (fun _ _ _ h => h) (Or.inl ⟨rfl, ?_⟩) hHeld ?_
      rotate_left
      focus (intro wx hSw; (try dsimp only at hSw); (try go_split_ands); go_simp; (try with_reducible rfl))
      try simp only [Act.put, List.getElem_toArray, List.getElem_cons_succ, List.getElem_cons_zero, List.setIfInBounds_toArray, List.set_cons_zero, List.set_cons_succ]
      refine wpAnyH_take (i := 21) (v := ?_) rfl (by kernel_rfl) (by kernel_rfl) (by kernel_rfl) (fun _ _ _ h => h) (Or.inl ⟨rfl, ?_⟩) hHeld ?_
      rotate_left
      focus (intro wx hSw; (try dsimp only at hSw); (try go_split_ands); go_simp; (try with_reducible rfl))
      try simp only [Act.put, List.getElem_toArray, List.getElem_cons_succ, List.getElem_cons_zero, List.setIfInBounds_toArray, List.set_cons_zero, List.set_cons_succ]
      refine wpAnyH_ready (rs := [16]) (by kernel_rfl) (by simp) (AllReadyH.cons rfl (fun K hK => ?_) AllReadyH.nil)
      go_simp
      (with_reducible refine (W3.out _).mono ?_); rintro e w9 ⟨A9, c9, rfl, hc9, own9, hb9⟩; obtain ⟨ad9, rfl, cx9⟩ := first_word own9; clear own9
      go_wp2_with fail
      refine hK.out _ _ ?_ (fun hHeld => ?_)
      · ((try dsimp only); (try dsimp only at hHeld); (first | exact HS.out _ (by (with_reducible repeat (first | exact Below.refl _ _ | exact hb9 | exact hb8 | exact hb7 | exact hb6 | exact hb5 | refine bto0 ?_ hb9 | refine bto0 ?_ hb8 | refine bto0 ?_ hb7 | refine bto0 ?_ hb6 | refine bto0 ?_ hb5 | refine bdr ?_ _ | refine Below.drew ?_ | refine ball ?_ _))) | assumption))
      clear hK K
      try dsimp only at hHeld
      try simp only [Act.put, List.getElem_toArray, List.getElem_cons_succ, List.getElem_cons_zero, List.setIfInBounds_toArray, List.set_cons_zero, List.set_cons_succ]
      refine wpAnyH_take (i := 17) (v := ?_) rfl (by kernel_rfl) (by kernel_rfl) (by kernel_rfl) (fun _ _ _ h => h) (Or.inl ⟨rfl, ?_⟩) hHeld ?_
      rotate_left
      focus (intro wx hSw; (try dsimp only at hSw); (try go_split_ands); go_simp; (try with_reducible rfl))
      try simp only [Act.put, List.getElem_toArray, List.getElem_cons_succ, List.getElem_cons_zero, List.setIfInBounds_toArray, List.set_cons_zero, List.set_cons_succ]
      refine wpAnyH_ready (rs := [18]) (by kernel_rfl) (by simp) (AllReadyH.cons rfl (fun K hK => ?_) AllReadyH.nil)
      go_simp
      refine hK.out _ _ ?_ (fun hHeld => ?_)
      · ((try dsimp only); (try dsimp only at hHeld); (first | exact HS.out _ (by (with_reducible repeat (first | exact Below.refl _ _ | exact hb9 | exact hb8 | exact hb7 | exact hb6 | exact hb5 | refine bto0 ?_ hb9 | refine bto0 ?_ hb8 | refine bto0 ?_ hb7 | refine bto0 ?_ hb6 | refine bto0 ?_ hb5 | refine bdr ?_ _ | refine Below.drew ?_ | refine ball ?_ _))) | assumption))
      clear hK K
      try dsimp only at hHeld
      try simp only [Act.put, List.getElem_toArray, List.getElem_cons_succ, List.getElem_cons_zero, List.setIfInBounds_toArray, List.set_cons_zero, List.set_cons_succ]
      refine wpAnyH_take (i := 22) (v := ?_) rfl (by kernel_rfl) (by kernel_rfl) (by kernel_rfl) (fun _ _ _ h => h) (Or.inl ⟨rfl, ?_⟩) hHeld ?_
      rotate_left
      focus (intro wx hSw; (try dsimp only at hSw); (try go_split_ands); go_simp; (try with_reducible rfl))
      try simp only [Act.put, List.getElem_toArray, List.getElem_cons_succ, List.getElem_cons_zero, List.setIfInBounds_toArray, List.set_cons_zero, List.set_cons_succ]
      refine wpAnyH_take (i := 23) (v := ?_) rfl (by kernel_rfl) (by kernel_rfl) (by kernel_rfl) (fun _ _ _ h => h) (Or.inl ⟨rfl, ?_⟩) hHeld ?_
      rotate_left
      focus (intro wx hSw; (try dsimp only at hSw); (try go_split_ands); go_simp; (try with_reducible rfl))
      try simp only [Act.put, List.getElem_toArray, List.getElem_cons_succ, List.getElem_cons_zero, List.setIfInBounds_toArray, List.set_cons_zero, List.set_cons_succ]
      refine wpAnyH_take (i := 24) (v := ?_) rfl (by kernel_rfl) (by kernel_rfl) (by kernel_rfl) (fun _ _ _ h => h) (Or.inl ⟨rfl, ?_⟩) hHeld ?_
      rotate_left
      focus (intro wx hSw; (try dsimp only at hSw); (try go_split_ands); go_simp; (try with_reducible rfl))
      try simp only [Act.put, List.getElem_toArray, List.getElem_cons_succ, List.getElem_cons_zero, List.setIfInBounds_toArray, List.set_cons_zero, List.set_cons_succ]
      refine wpAnyH_done (by kernel_rfl) ?_ _
      go_wp2
      go_ret
      exact ⟨rfl, bto0 HB4.out (by (with_reducible repeat (first | exact Below.refl _ _ | exact hb9 | exact hb8 | exact hb7 | exact hb6 | exact hb5 | refine bto0 ?_ hb9 | refine bto0 ?_ hb8 | refine bto0 ?_ hb7 | refine bto0 ?_ hb6 | refine bto0 ?_ hb5 | refine bdr ?_ _ | refine Below.drew ?_ | refine ball ?_ _)))⟩
end Go.Proofs.Ytbmfojeklhbocaa
