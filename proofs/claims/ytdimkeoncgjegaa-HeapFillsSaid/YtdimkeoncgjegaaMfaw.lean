/-
  Several texts in one: IB.
-/
import Derived.Test.YtdimkeoncgjegaaMfav
import Derived.Deep.RegionHeld3
/-
  Heap: the reference's H: write, the walk.
-/
namespace Go.Proofs.Ytdimkeoncgjegaa
section
set_option linter.unusedSimpArgs false
set_option linter.unusedVariables false
open Go.RowKit Go.Maps

theorem rlt {w : World} {B sz n : Nat} {A : Option Addr} {xs : List Value} (h : Reads w B sz A n xs) (hn : 1 ≤ n) : ∀ ad, A = some ad → ad.block < B := by
  rintro ad rfl
  obtain ⟨ad', e, hlt, _⟩ := h.2 (by omega)
  cases e
  exact hlt
def RetHw (w : World) (h : Hh) (ps : List (List UInt8)) (T : List Bool) (rs : List (List UInt8)) (e : Ending) (w' : World) : Prop :=
  ∃ h' : Hh, e = .returned (.agg h'.arr) ∧ h'.n = h.n ∧ h'.first = h.first ∧ h'.at_ = h.at_ ∧ h'.next = h.next ∧ h'.D = h.D ∧ h'.r = h.r ∧ h'.f = h.f ∧ h'.began = h.began ∧ h'.k = h.k ∧ h'.C = h.C ∧ h'.e = h.e ∧ HhIn w' h' (ps.set h.at_ (layL h.next rs)) (T.set h.at_ true) rs ∧ Below w.heap.size w w' ∧ (∀ ad, h'.A = some ad → w.heap.size ≤ ad.block) ∧ (∀ ad, h'.B = some ad → w.heap.size ≤ ad.block)
set_option maxRecDepth 100000 in
set_option maxHeartbeats 16000000 in
theorem hwrite_any {w : World} {h : Hh} {ps : List (List UInt8)} {T : List Bool} {rs : List (List UInt8)} (hi : HhIn w h ps T rs) (hp : h.at_ < h.n) (hn : h.n ≤ 10000) (hft : Fits rs) (hx : h.next < 4294967296) :
    Calls Try.prog 31 #[.agg h.arr] w (RetHw w h ps T rs) := by
  obtain ⟨hA, n, hc, hB, hd, fi, at_, nx, hC, k, he, hD, r, hf, bg⟩ := h
  unfold Hh.arr
  dsimp only at hp hn hx ⊢
  have hn1 : 1 ≤ n := by omega
  have HB0 : Hid (Blk ((w.alloc (.cells #[.slice hA n hc, .slice hB n hd, .int .u32 fi, .int .u32 at_, .int .u32 nx, .slice hC k he, .slice hD r hf, .bool bg] 43)).alloc (.cells #[.slice none 0 0, .slice none 0 0, .int .u32 0, .int .u32 0, .int .u32 0, .slice none 0 0, .slice none 0 0, .bool false] 43)) w.heap.size 43 #[.slice hA n hc, .slice hB n hd, .int .u32 fi, .int .u32 at_, .int .u32 nx, .slice hC k he, .slice hD r hf, .bool bg] ∧ Blk ((w.alloc (.cells #[.slice hA n hc, .slice hB n hd, .int .u32 fi, .int .u32 at_, .int .u32 nx, .slice hC k he, .slice hD r hf, .bool bg] 43)).alloc (.cells #[.slice none 0 0, .slice none 0 0, .int .u32 0, .int .u32 0, .int .u32 0, .slice none 0 0, .slice none 0 0, .bool false] 43)) (w.heap.size + 1) 43 #[.slice none 0 0, .slice none 0 0, .int .u32 0, .int .u32 0, .int .u32 0, .slice none 0 0, .slice none 0 0, .bool false] ∧ Below w.heap.size w ((w.alloc (.cells #[.slice hA n hc, .slice hB n hd, .int .u32 fi, .int .u32 at_, .int .u32 nx, .slice hC k he, .slice hD r hf, .bool bg] 43)).alloc (.cells #[.slice none 0 0, .slice none 0 0, .int .u32 0, .int .u32 0, .int .u32 0, .slice none 0 0, .slice none 0 0, .bool false] 43))) := Lib.hid ⟨(Blk.newAt rfl).alloc _, Blk.newAt (by simp), ball (ball (Below.refl _ _) _) _⟩
  have HI := Lib.hid hi
  have HF := Lib.hid hft
  clear hi hft
  go_enter Try.func31, Try.ntmps31
  go_wp2_with fail
  obtain ⟨W0, hW0⟩ : ∃ W0, ((w.alloc (.cells #[.slice hA n hc, .slice hB n hd, .int .u32 fi, .int .u32 at_, .int .u32 nx, .slice hC k he, .slice hD r hf, .bool bg] 43)).alloc (.cells #[.slice none 0 0, .slice none 0 0, .int .u32 0, .int .u32 0, .int .u32 0, .slice none 0 0, .slice none 0 0, .bool false] 43)) = W0 := ⟨_, rfl⟩
  have hW0s : W0.heap.size = w.heap.size + 1 + 1 := by rw [← hW0]; simp
  have HWs := Lib.hid hW0s
  have hWlt : w.heap.size + 1 < W0.heap.size := by omega
  clear hW0s
  rw [hW0] at HB0
  rw [hW0]
  clear hW0
  have HS : Hid (∀ w', Below W0.heap.size W0 w' → w'.cell? ⟨w.heap.size, 0, none⟩ = some (.slice hA n hc) ∧ w'.cell? ⟨w.heap.size, 1, none⟩ = some (.slice hB n hd) ∧ w'.cell? ⟨w.heap.size, 3, none⟩ = some (.int .u32 at_) ∧ w'.cell? ⟨w.heap.size, 4, none⟩ = some (.int .u32 nx) ∧ w'.cell? ⟨w.heap.size, 5, none⟩ = some (.slice hC k he)) := Lib.hid fun w' hW => by
    have P := HB0.out.1.below hW HB0.out.1.lt
    exact ⟨P.cell 0, P.cell 1, P.cell 3, P.cell 4, P.cell 5⟩
  have LY : Hid (∀ W, Below W0.heap.size W0 W → Calls Try.prog 54 #[.agg #[.int .u32 nx, .slice hC k he]] W (RetB W (.string (str (layL nx rs))))) := Lib.hid fun W hW => lay_any nx hx ((HI.out.r3.below (bto0 HB0.out.2.2 hW)).more (bto0 HB0.out.2.2 hW).size) HF.out
  have WR : Hid (∀ W, Below W0.heap.size W0 W → Calls Try.prog 53 #[.agg #[.slice hA n hc, .slice hB n hd], .int .u32 at_, .string (str (layL nx rs))] W (RetWr W n (ps.set at_ (layL nx rs)) (T.set at_ true))) := Lib.hid fun W hW => rwrite_ok hA hc hB hd ps T ((HI.out.r1.below (bto0 HB0.out.2.2 hW)).more (bto0 HB0.out.2.2 hW).size) ((HI.out.r2.below (bto0 HB0.out.2.2 hW)).more (bto0 HB0.out.2.2 hW).size) (by show n ≤ 1000000; omega) at_ hp _ (layL_len HF.out)
  refine wp_region_held_drew (S := (fun w' => w'.cell? ⟨w.heap.size, 0, none⟩ = some (.slice hA n hc) ∧ w'.cell? ⟨w.heap.size, 1, none⟩ = some (.slice hB n hd) ∧ w'.cell? ⟨w.heap.size, 3, none⟩ = some (.int .u32 at_) ∧ w'.cell? ⟨w.heap.size, 4, none⟩ = some (.int .u32 nx) ∧ w'.cell? ⟨w.heap.size, 5, none⟩ = some (.slice hC k he))) (by kernel_rfl) (HS.out _ (Below.refl _ _).drew) (fun hHeld => ?_)
  try dsimp only at hHeld
  refine wpAnyH_take (i := 0) (v := ?_) rfl (by kernel_rfl) (by kernel_rfl) (by kernel_rfl) (fun _ _ _ h => h) (Or.inl ⟨rfl, ?_⟩) hHeld ?_
  rotate_left
  focus (intro wx hSw; (try dsimp only at hSw); (try go_split_ands); go_simp; (try with_reducible rfl))
  try simp only [Act.put, List.getElem_toArray, List.getElem_cons_succ, List.getElem_cons_zero, List.setIfInBounds_toArray, List.set_cons_zero, List.set_cons_succ]
  refine wpAnyH_take (i := 1) (v := ?_) rfl (by kernel_rfl) (by kernel_rfl) (by kernel_rfl) (fun _ _ _ h => h) (Or.inl ⟨rfl, ?_⟩) hHeld ?_
  rotate_left
  focus (intro wx hSw; (try dsimp only at hSw); (try go_split_ands); go_simp; (try with_reducible rfl))
  try simp only [Act.put, List.getElem_toArray, List.getElem_cons_succ, List.getElem_cons_zero, List.setIfInBounds_toArray, List.set_cons_zero, List.set_cons_succ]
  refine wpAnyH_take (i := 2) (v := ?_) rfl (by kernel_rfl) (by kernel_rfl) (by kernel_rfl) (fun _ _ _ h => h) (Or.inl ⟨rfl, ?_⟩) hHeld ?_
  rotate_left
  focus (intro wx hSw; (try dsimp only at hSw); (try go_split_ands); go_simp; (try with_reducible rfl))
  try simp only [Act.put, List.getElem_toArray, List.getElem_cons_succ, List.getElem_cons_zero, List.setIfInBounds_toArray, List.set_cons_zero, List.set_cons_succ]
  refine wpAnyH_take (i := 3) (v := ?_) rfl (by kernel_rfl) (by kernel_rfl) (by kernel_rfl) (fun _ _ _ h => h) (Or.inl ⟨rfl, ?_⟩) hHeld ?_
  rotate_left
  focus (intro wx hSw; (try dsimp only at hSw); (try go_split_ands); go_simp; (try with_reducible rfl))
  try simp only [Act.put, List.getElem_toArray, List.getElem_cons_succ, List.getElem_cons_zero, List.setIfInBounds_toArray, List.set_cons_zero, List.set_cons_succ]
  refine wpAnyH_take (i := 4) (v := ?_) rfl (by kernel_rfl) (by kernel_rfl) (by kernel_rfl) (fun _ _ _ h => h) (Or.inl ⟨rfl, ?_⟩) hHeld ?_
  rotate_left
  focus (intro wx hSw; (try dsimp only at hSw); (try go_split_ands); go_simp; (try with_reducible rfl))
  try simp only [Act.put, List.getElem_toArray, List.getElem_cons_succ, List.getElem_cons_zero, List.setIfInBounds_toArray, List.set_cons_zero, List.set_cons_succ]
  refine wpAnyH_take (i := 5) (v := ?_) rfl (by kernel_rfl) (by kernel_rfl) (by kernel_rfl) (fun _ _ _ h => h) (Or.inl ⟨rfl, ?_⟩) hHeld ?_
  rotate_left
  focus (intro wx hSw; (try dsimp only at hSw); (try go_split_ands); go_simp; (try with_reducible rfl))
  try simp only [Act.put, List.getElem_toArray, List.getElem_cons_succ, List.getElem_cons_zero, List.setIfInBounds_toArray, List.set_cons_zero, List.set_cons_succ]
  refine wpAnyH_ready (rs := [6, 11]) (by kernel_rfl) (by simp) (AllReadyH.cons rfl (fun K hK => ?_) (AllReadyH.cons rfl (fun K hK => ?_) AllReadyH.nil))
  · go_simp
    (go_at_call 54; (with_reducible refine (LY.out _ (by with_reducible repeat (first | exact Below.refl _ _ | refine bdr ?_ _ | refine Below.drew ?_ | refine ball ?_ _ | refine Below.setCell ?_ (by first | exact Nat.le_refl _ | (simp; omega)) _))).mono ?_); rintro e w6 ⟨rfl, hb6⟩)
    have z6 : W0.heap.size ≤ w6.heap.size := (show Below W0.heap.size W0 w6 from (by with_reducible repeat (first | exact Below.refl _ _ | exact hb6 | refine bto0 ?_ hb6 | refine bdr ?_ _ | refine Below.drew ?_ | refine ball ?_ _ | refine Below.setCell ?_ (by first | exact Nat.le_refl _ | (simp; omega)) _))).size
    go_wp2_with fail
    refine hK.out _ _ ?_ (fun hHeld => ?_)
    · ((try dsimp only); (try dsimp only at hHeld); exact HS.out _ (by with_reducible repeat (first | exact Below.refl _ _ | exact hb6 | refine bto0 ?_ hb6 | refine bdr ?_ _ | refine Below.drew ?_ | refine ball ?_ _ | refine Below.setCell ?_ (by first | exact Nat.le_refl _ | (simp; omega)) _)))
    clear hK K
    try dsimp only at hHeld
    try simp only [Act.put, List.getElem_toArray, List.getElem_cons_succ, List.getElem_cons_zero, List.setIfInBounds_toArray, List.set_cons_zero, List.set_cons_succ]
    refine wpAnyH_ready (rs := [7, 11]) (by kernel_rfl) (by simp) (AllReadyH.cons rfl (fun K hK => ?_) (AllReadyH.cons rfl (fun K hK => ?_) AllReadyH.nil))
    · go_simp
      (go_at_call 53; (with_reducible refine (WR.out _ (by with_reducible repeat (first | exact Below.refl _ _ | exact hb6 | refine bto0 ?_ hb6 | refine bdr ?_ _ | refine Below.drew ?_ | refine ball ?_ _ | refine Below.setCell ?_ (by first | exact Nat.le_refl _ | (simp; omega)) _))).mono ?_); rintro e w7 ⟨A7, c7, B7, d7, rfl, hr7, hs7, hc7, hd7, hl7, hm7, hb7⟩)
      go_wp2_with fail
      refine hK.out _ _ ?_ (fun hHeld => ?_)
      · ((try dsimp only); (try dsimp only at hHeld); exact HS.out _ (by with_reducible repeat (first | exact Below.refl _ _ | exact hb6 | exact hb7 | refine bto0 ?_ hb6 | refine bto0 ?_ hb7 | refine bdr ?_ _ | refine Below.drew ?_ | refine ball ?_ _ | refine Below.setCell ?_ (by first | exact Nat.le_refl _ | (simp; omega)) _)))
      clear hK K
      try dsimp only at hHeld
      try simp only [Act.put, List.getElem_toArray, List.getElem_cons_succ, List.getElem_cons_zero, List.setIfInBounds_toArray, List.set_cons_zero, List.set_cons_succ]
      refine wpAnyH_take (i := 8) (v := ?_) rfl (by kernel_rfl) (by kernel_rfl) (by kernel_rfl) (fun _ _ _ h => h) (Or.inl ⟨rfl, ?_⟩) hHeld ?_
      rotate_left
      focus (intro wx hSw; (try dsimp only at hSw); (try go_split_ands); go_simp; (try with_reducible rfl))
      try simp only [Act.put, List.getElem_toArray, List.getElem_cons_succ, List.getElem_cons_zero, List.setIfInBounds_toArray, List.set_cons_zero, List.set_cons_succ]
      refine wpAnyH_take (i := 9) (v := ?_) rfl (by kernel_rfl) (by kernel_rfl) (by kernel_rfl) (fun _ _ _ h => h) (Or.inl ⟨rfl, ?_⟩) hHeld ?_
      rotate_left
      focus (intro wx hSw; (try dsimp only at hSw); (try go_split_ands); go_simp; (try with_reducible rfl))
      try simp only [Act.put, List.getElem_toArray, List.getElem_cons_succ, List.getElem_cons_zero, List.setIfInBounds_toArray, List.set_cons_zero, List.set_cons_succ]
      refine wpAnyH_take (i := 10) (v := ?_) rfl (by kernel_rfl) (by kernel_rfl) (by kernel_rfl) (fun _ _ _ h => h) (Or.inl ⟨rfl, ?_⟩) hHeld ?_
      rotate_left
      focus (intro wx hSw; (try dsimp only at hSw); (try go_split_ands); go_simp; (try with_reducible rfl))
      try simp only [Act.put, List.getElem_toArray, List.getElem_cons_succ, List.getElem_cons_zero, List.setIfInBounds_toArray, List.set_cons_zero, List.set_cons_succ]
      refine wpAnyH_ready (rs := [11]) (by kernel_rfl) (by simp) (AllReadyH.cons rfl (fun K hK => ?_) AllReadyH.nil)
      go_simp
      have BK : Blk (w7.alloc (.cells #[.slice none 0 0, .slice none 0 0] 32)) w7.heap.size 32 #[.slice none 0 0, .slice none 0 0] := Blk.new _ _ _
      refine hK.out _ _ ?_ (fun hHeld => ?_)
      · ((try dsimp only); (try dsimp only at hHeld); exact HS.out _ (by with_reducible repeat (first | exact Below.refl _ _ | exact hb6 | exact hb7 | refine bto0 ?_ hb6 | refine bto0 ?_ hb7 | refine bdr ?_ _ | refine Below.drew ?_ | refine ball ?_ _ | refine Below.setCell ?_ (by first | exact Nat.le_refl _ | (simp; omega)) _)))
      clear hK K
      try dsimp only at hHeld
      try simp only [Act.put, List.getElem_toArray, List.getElem_cons_succ, List.getElem_cons_zero, List.setIfInBounds_toArray, List.set_cons_zero, List.set_cons_succ]
      refine wpAnyH_take (i := 12) (v := ?_) rfl (by kernel_rfl) (by kernel_rfl) (by kernel_rfl) (fun _ _ _ h => h) (Or.inl ⟨rfl, ?_⟩) hHeld ?_
      rotate_left
      focus (intro wx hSw; (try dsimp only at hSw); (try go_split_ands); go_simp; (try with_reducible rfl))
      try simp only [Act.put, List.getElem_toArray, List.getElem_cons_succ, List.getElem_cons_zero, List.setIfInBounds_toArray, List.set_cons_zero, List.set_cons_succ]
      refine wpAnyH_ready (rs := [13]) (by kernel_rfl) (by simp) (AllReadyH.cons rfl (fun K hK => ?_) AllReadyH.nil)
      go_simp
      refine hK.out _ _ ?_ (fun hHeld => ?_)
      · ((try dsimp only); (try dsimp only at hHeld); exact HS.out _ (by with_reducible repeat (first | exact Below.refl _ _ | exact hb6 | exact hb7 | refine bto0 ?_ hb6 | refine bto0 ?_ hb7 | refine bdr ?_ _ | refine Below.drew ?_ | refine ball ?_ _ | refine Below.setCell ?_ (by first | exact Nat.le_refl _ | (simp; omega)) _)))
      clear hK K
      try dsimp only at hHeld
      try simp only [Act.put, List.getElem_toArray, List.getElem_cons_succ, List.getElem_cons_zero, List.setIfInBounds_toArray, List.set_cons_zero, List.set_cons_succ]
      refine wpAnyH_done (by kernel_rfl) ?_ _
      clear hHeld
      have z0 := HB0.out.2.1.lt
      have z7 := hb7.size
      try simp at z7
      have bw7 : Below W0.heap.size W0 w7 := (by with_reducible repeat (first | exact Below.refl _ _ | exact hb6 | exact hb7 | refine bto0 ?_ hb6 | refine bto0 ?_ hb7 | refine bdr ?_ _ | refine Below.drew ?_ | refine ball ?_ _ | refine Below.setCell ?_ (by first | exact Nat.le_refl _ | (simp; omega)) _))
      have T1 := HB0.out.1.below bw7 HB0.out.1.lt
      have T2 := HB0.out.2.1.below bw7 HB0.out.2.1.lt
      have R3 := (HI.out.r3.below (bto0 HB0.out.2.2 bw7)).more (bto0 HB0.out.2.2 bw7).size
      have z8 := bw7.size
      have b4 := Blk.new w7 32 #[.slice A7 n c7, .slice B7 n d7]
      have T1 := T1.alloc (.cells #[.slice A7 n c7, .slice B7 n d7] 32)
      have T2 := T2.alloc (.cells #[.slice A7 n c7, .slice B7 n d7] 32)
      have r7 := (hr7.alloc (Nat.le_refl _) (.cells #[.slice A7 n c7, .slice B7 n d7] 32)).more (by simp : w7.heap.size ≤ (w7.alloc (.cells #[.slice A7 n c7, .slice B7 n d7] 32)).heap.size)
      have s7 := (hs7.alloc (Nat.le_refl _) (.cells #[.slice A7 n c7, .slice B7 n d7] 32)).more (by simp : w7.heap.size ≤ (w7.alloc (.cells #[.slice A7 n c7, .slice B7 n d7] 32)).heap.size)
      have BB : Below W0.heap.size W0 (w7.alloc (.cells #[.slice A7 n c7, .slice B7 n d7] 32)) := ball bw7 _
      have R3 := HI.out.r3.below (bto0 HB0.out.2.2 BB)
      obtain ⟨WL, hWL⟩ : ∃ WL, (w7.alloc (.cells #[.slice A7 n c7, .slice B7 n d7] 32)) = WL := ⟨_, rfl⟩
      rw [hWL] at b4 T1 T2 r7 s7 BB R3
      rw [hWL]
      clear hWL
      have c40 : WL.cell? ⟨w7.heap.size, 0, none⟩ = some (.slice A7 n c7) := b4.cell 0
      have c41 : WL.cell? ⟨w7.heap.size, 1, none⟩ = some (.slice B7 n d7) := b4.cell 1
      have p0 : WL.cell? ⟨w.heap.size, 0, none⟩ = some (.slice hA n hc) := T1.cell 0
      have f0 := T1.frozen 0
      have p1 : WL.cell? ⟨w.heap.size, 1, none⟩ = some (.slice hB n hd) := T1.cell 1
      have f1 := T1.frozen 1
      have z1 := T1.lt
      have z2 := T2.lt
      have M1 := (T1.set_ 0 (.slice A7 n c7)).set_ 1 (.slice B7 n d7)
      have M2 := (T2.far (p := ⟨w.heap.size, 0, none⟩) (by simp) (.slice A7 n c7)).far (p := ⟨w.heap.size, 1, none⟩) (by simp) (.slice B7 n d7)
      have BM := (BB.mono (by omega : w.heap.size ≤ W0.heap.size))
      have BM := ((HB0.out.2.2.trans BM).setCell (p := ⟨w.heap.size, 0, none⟩) (Nat.le_refl _) (.slice A7 n c7)).setCell (p := ⟨w.heap.size, 1, none⟩) (Nat.le_refl _) (.slice B7 n d7)
      have lo7 : ∀ ad, A7 = some ad → w.heap.size + 1 < ad.block := fun ad e => by have := hl7 ad e; (first | omega | (simp at this; omega))
      have lo8 : ∀ ad, B7 = some ad → w.heap.size + 1 < ad.block := fun ad e => by have := hm7 ad e; (first | omega | (simp at this; omega))
      have r7 := reads_far (p := ⟨w.heap.size, 1, none⟩) (reads_far (p := ⟨w.heap.size, 0, none⟩) r7 (fun ad e => by have := lo7 ad e; (first | omega | (simp; omega))) (.slice A7 n c7)) (fun ad e => by have := lo7 ad e; (first | omega | (simp; omega))) (.slice B7 n d7)
      have s7 := reads_far (p := ⟨w.heap.size, 1, none⟩) (reads_far (p := ⟨w.heap.size, 0, none⟩) s7 (fun ad e => by have := lo8 ad e; (first | omega | (simp; omega))) (.slice A7 n c7)) (fun ad e => by have := lo8 ad e; (first | omega | (simp; omega))) (.slice B7 n d7)
      obtain ⟨WM, hWM⟩ : ∃ WM, ((WL.setCell ⟨w.heap.size, 0, none⟩ (.slice A7 n c7)).setCell ⟨w.heap.size, 1, none⟩ (.slice B7 n d7)) = WM := ⟨_, rfl⟩
      rw [hWM] at M1 M2 BM r7 s7
      have e0 : WM.cell? ⟨w.heap.size, 0, none⟩ = some (.slice A7 n c7) := M1.cell 0
      have e1 : WM.cell? ⟨w.heap.size, 1, none⟩ = some (.slice B7 n d7) := M1.cell 1
      have e2 : WM.cell? ⟨w.heap.size, 2, none⟩ = some (.int .u32 fi) := M1.cell 2
      have e3 : WM.cell? ⟨w.heap.size, 3, none⟩ = some (.int .u32 at_) := M1.cell 3
      have e4 : WM.cell? ⟨w.heap.size, 4, none⟩ = some (.int .u32 nx) := M1.cell 4
      have e5 : WM.cell? ⟨w.heap.size, 5, none⟩ = some (.slice hC k he) := M1.cell 5
      have e6 : WM.cell? ⟨w.heap.size, 6, none⟩ = some (.slice hD r hf) := M1.cell 6
      have e7 : WM.cell? ⟨w.heap.size, 7, none⟩ = some (.bool bg) := M1.cell 7
      have k0 : WM.cell? ⟨w.heap.size + 1, 0, none⟩ = some (.slice none 0 0) := M2.cell 0
      have g0 := M2.frozen 0
      have k1 : WM.cell? ⟨w.heap.size + 1, 1, none⟩ = some (.slice none 0 0) := M2.cell 1
      have g1 := M2.frozen 1
      have k2 : WM.cell? ⟨w.heap.size + 1, 2, none⟩ = some (.int .u32 0) := M2.cell 2
      have g2 := M2.frozen 2
      have k3 : WM.cell? ⟨w.heap.size + 1, 3, none⟩ = some (.int .u32 0) := M2.cell 3
      have g3 := M2.frozen 3
      have k4 : WM.cell? ⟨w.heap.size + 1, 4, none⟩ = some (.int .u32 0) := M2.cell 4
      have g4 := M2.frozen 4
      have k5 : WM.cell? ⟨w.heap.size + 1, 5, none⟩ = some (.slice none 0 0) := M2.cell 5
      have g5 := M2.frozen 5
      have k6 : WM.cell? ⟨w.heap.size + 1, 6, none⟩ = some (.slice none 0 0) := M2.cell 6
      have g6 := M2.frozen 6
      have k7 : WM.cell? ⟨w.heap.size + 1, 7, none⟩ = some (.bool false) := M2.cell 7
      have g7 := M2.frozen 7
      have z3 := M2.lt
      have HZ := Lib.hid (And.intro M2 (And.intro BM (And.intro r7 s7)))
      clear T1 T2 M1 M2 BM r7 s7 BB b4 R3 bw7 hr7 hs7 BK 
      go_wp2
      refine hwrite_end (h := ⟨A7, n, c7, B7, d7, fi, at_, nx, hC, k, he, hD, r, hf, bg⟩) (((((((((HZ.out.1).set_ 0 (.slice A7 n c7)).set_ 1 (.slice B7 n d7)).set_ 2 (.int .u32 fi)).set_ 3 (.int .u32 at_)).set_ 4 (.int .u32 nx)).set_ 5 (.slice hC k he)).set_ 6 (.slice hD r hf)).set_ 7 (.bool bg)) (by simp) ⟨⟨A7, n, c7, B7, d7, fi, at_, nx, hC, k, he, hD, r, hf, bg⟩, rfl, rfl, rfl, rfl, rfl, rfl, rfl, rfl, rfl, rfl, rfl, rfl, ⟨(reads_far (p := ⟨w.heap.size + 1, 7, none⟩) (reads_far (p := ⟨w.heap.size + 1, 6, none⟩) (reads_far (p := ⟨w.heap.size + 1, 5, none⟩) (reads_far (p := ⟨w.heap.size + 1, 4, none⟩) (reads_far (p := ⟨w.heap.size + 1, 3, none⟩) (reads_far (p := ⟨w.heap.size + 1, 2, none⟩) (reads_far (p := ⟨w.heap.size + 1, 1, none⟩) (reads_far (p := ⟨w.heap.size + 1, 0, none⟩) HZ.out.2.2.1 (fun ad e => by have := lo7 ad e; (first | omega | (simp; omega))) (.slice A7 n c7)) (fun ad e => by have := lo7 ad e; (first | omega | (simp; omega))) (.slice B7 n d7)) (fun ad e => by have := lo7 ad e; (first | omega | (simp; omega))) (.int .u32 fi)) (fun ad e => by have := lo7 ad e; (first | omega | (simp; omega))) (.int .u32 at_)) (fun ad e => by have := lo7 ad e; (first | omega | (simp; omega))) (.int .u32 nx)) (fun ad e => by have := lo7 ad e; (first | omega | (simp; omega))) (.slice hC k he)) (fun ad e => by have := lo7 ad e; (first | omega | (simp; omega))) (.slice hD r hf)) (fun ad e => by have := lo7 ad e; (first | omega | (simp; omega))) (.bool bg)), (reads_far (p := ⟨w.heap.size + 1, 7, none⟩) (reads_far (p := ⟨w.heap.size + 1, 6, none⟩) (reads_far (p := ⟨w.heap.size + 1, 5, none⟩) (reads_far (p := ⟨w.heap.size + 1, 4, none⟩) (reads_far (p := ⟨w.heap.size + 1, 3, none⟩) (reads_far (p := ⟨w.heap.size + 1, 2, none⟩) (reads_far (p := ⟨w.heap.size + 1, 1, none⟩) (reads_far (p := ⟨w.heap.size + 1, 0, none⟩) HZ.out.2.2.2 (fun ad e => by have := lo8 ad e; (first | omega | (simp; omega))) (.slice A7 n c7)) (fun ad e => by have := lo8 ad e; (first | omega | (simp; omega))) (.slice B7 n d7)) (fun ad e => by have := lo8 ad e; (first | omega | (simp; omega))) (.int .u32 fi)) (fun ad e => by have := lo8 ad e; (first | omega | (simp; omega))) (.int .u32 at_)) (fun ad e => by have := lo8 ad e; (first | omega | (simp; omega))) (.int .u32 nx)) (fun ad e => by have := lo8 ad e; (first | omega | (simp; omega))) (.slice hC k he)) (fun ad e => by have := lo8 ad e; (first | omega | (simp; omega))) (.slice hD r hf)) (fun ad e => by have := lo8 ad e; (first | omega | (simp; omega))) (.bool bg)), hc7, hd7, ?_, HI.out.c3⟩, ((((((((HZ.out.2.1.setCell (p := ⟨w.heap.size + 1, 0, none⟩) (by simp) (.slice A7 n c7)).setCell (p := ⟨w.heap.size + 1, 1, none⟩) (by simp) (.slice B7 n d7)).setCell (p := ⟨w.heap.size + 1, 2, none⟩) (by simp) (.int .u32 fi)).setCell (p := ⟨w.heap.size + 1, 3, none⟩) (by simp) (.int .u32 at_)).setCell (p := ⟨w.heap.size + 1, 4, none⟩) (by simp) (.int .u32 nx)).setCell (p := ⟨w.heap.size + 1, 5, none⟩) (by simp) (.slice hC k he)).setCell (p := ⟨w.heap.size + 1, 6, none⟩) (by simp) (.slice hD r hf)).setCell (p := ⟨w.heap.size + 1, 7, none⟩) (by simp) (.bool bg)), fun ad e => by have := lo7 ad e; omega, fun ad e => by have := lo8 ad e; omega⟩
      exact (HI.out.r3.below ((((((((HZ.out.2.1.setCell (p := ⟨w.heap.size + 1, 0, none⟩) (by simp) (.slice A7 n c7)).setCell (p := ⟨w.heap.size + 1, 1, none⟩) (by simp) (.slice B7 n d7)).setCell (p := ⟨w.heap.size + 1, 2, none⟩) (by simp) (.int .u32 fi)).setCell (p := ⟨w.heap.size + 1, 3, none⟩) (by simp) (.int .u32 at_)).setCell (p := ⟨w.heap.size + 1, 4, none⟩) (by simp) (.int .u32 nx)).setCell (p := ⟨w.heap.size + 1, 5, none⟩) (by simp) (.slice hC k he)).setCell (p := ⟨w.heap.size + 1, 6, none⟩) (by simp) (.slice hD r hf)).setCell (p := ⟨w.heap.size + 1, 7, none⟩) (by simp) (.bool bg))).more ((((((((HZ.out.2.1.setCell (p := ⟨w.heap.size + 1, 0, none⟩) (by simp) (.slice A7 n c7)).setCell (p := ⟨w.heap.size + 1, 1, none⟩) (by simp) (.slice B7 n d7)).setCell (p := ⟨w.heap.size + 1, 2, none⟩) (by simp) (.int .u32 fi)).setCell (p := ⟨w.heap.size + 1, 3, none⟩) (by simp) (.int .u32 at_)).setCell (p := ⟨w.heap.size + 1, 4, none⟩) (by simp) (.int .u32 nx)).setCell (p := ⟨w.heap.size + 1, 5, none⟩) (by simp) (.slice hC k he)).setCell (p := ⟨w.heap.size + 1, 6, none⟩) (by simp) (.slice hD r hf)).setCell (p := ⟨w.heap.size + 1, 7, none⟩) (by simp) (.bool bg)).size
    · go_simp
      have BK : Blk (w6.alloc (.cells #[.slice none 0 0, .slice none 0 0] 32)) w6.heap.size 32 #[.slice none 0 0, .slice none 0 0] := Blk.new _ _ _
      refine hK.out _ _ ?_ (fun hHeld => ?_)
      · ((try dsimp only); (try dsimp only at hHeld); exact HS.out _ (by with_reducible repeat (first | exact Below.refl _ _ | exact hb6 | refine bto0 ?_ hb6 | refine bdr ?_ _ | refine Below.drew ?_ | refine ball ?_ _ | refine Below.setCell ?_ (by first | exact Nat.le_refl _ | (simp; omega)) _)))
      clear hK K
      try dsimp only at hHeld
      try simp only [Act.put, List.getElem_toArray, List.getElem_cons_succ, List.getElem_cons_zero, List.setIfInBounds_toArray, List.set_cons_zero, List.set_cons_succ]
      refine wpAnyH_ready (rs := [7]) (by kernel_rfl) (by simp) (AllReadyH.cons rfl (fun K hK => ?_) AllReadyH.nil)
      go_simp
      (go_at_call 53; (with_reducible refine (WR.out _ (by with_reducible repeat (first | exact Below.refl _ _ | exact hb6 | refine bto0 ?_ hb6 | refine bdr ?_ _ | refine Below.drew ?_ | refine ball ?_ _ | refine Below.setCell ?_ (by first | exact Nat.le_refl _ | (simp; omega)) _))).mono ?_); rintro e w7 ⟨A7, c7, B7, d7, rfl, hr7, hs7, hc7, hd7, hl7, hm7, hb7⟩)
      have BK7 := BK.below hb7 BK.lt
      have y40 : w7.cell? ⟨w6.heap.size, 0, none⟩ = some (.slice none 0 0) := BK7.cell 0
      have y41 : w7.cell? ⟨w6.heap.size, 1, none⟩ = some (.slice none 0 0) := BK7.cell 1
      have v40 := BK7.frozen 0
      have v41 := BK7.frozen 1
      go_wp2_with fail
      refine hK.out _ _ ?_ (fun hHeld => ?_)
      · ((try dsimp only); (try dsimp only at hHeld); exact HS.out _ (by with_reducible repeat (first | exact Below.refl _ _ | exact hb6 | exact hb7 | refine bto0 ?_ hb6 | refine bto0 ?_ hb7 | refine bdr ?_ _ | refine Below.drew ?_ | refine ball ?_ _ | refine Below.setCell ?_ (by first | exact Nat.le_refl _ | (simp; omega)) _)))
      clear hK K
      try dsimp only at hHeld
      try simp only [Act.put, List.getElem_toArray, List.getElem_cons_succ, List.getElem_cons_zero, List.setIfInBounds_toArray, List.set_cons_zero, List.set_cons_succ]
      refine wpAnyH_take (i := 8) (v := ?_) rfl (by kernel_rfl) (by kernel_rfl) (by kernel_rfl) (fun _ _ _ h => h) (Or.inl ⟨rfl, ?_⟩) hHeld ?_
      rotate_left
      focus (intro wx hSw; (try dsimp only at hSw); (try go_split_ands); go_simp; (try with_reducible rfl))
      try simp only [Act.put, List.getElem_toArray, List.getElem_cons_succ, List.getElem_cons_zero, List.setIfInBounds_toArray, List.set_cons_zero, List.set_cons_succ]
      refine wpAnyH_take (i := 9) (v := ?_) rfl (by kernel_rfl) (by kernel_rfl) (by kernel_rfl) (fun _ _ _ h => h) (Or.inl ⟨rfl, ?_⟩) hHeld ?_
      rotate_left
      focus (intro wx hSw; (try dsimp only at hSw); (try go_split_ands); go_simp; (try with_reducible rfl))
      try simp only [Act.put, List.getElem_toArray, List.getElem_cons_succ, List.getElem_cons_zero, List.setIfInBounds_toArray, List.set_cons_zero, List.set_cons_succ]
      refine wpAnyH_take (i := 10) (v := ?_) rfl (by kernel_rfl) (by kernel_rfl) (by kernel_rfl) (fun _ _ _ h => h) (Or.inl ⟨rfl, ?_⟩) hHeld ?_
      rotate_left
      focus (intro wx hSw; (try dsimp only at hSw); (try go_split_ands); go_simp; (try with_reducible rfl))
      try simp only [Act.put, List.getElem_toArray, List.getElem_cons_succ, List.getElem_cons_zero, List.setIfInBounds_toArray, List.set_cons_zero, List.set_cons_succ]
      refine wpAnyH_take (i := 12) (v := ?_) rfl (by kernel_rfl) (by kernel_rfl) (by kernel_rfl) (fun _ _ _ h => h) (Or.inl ⟨rfl, ?_⟩) hHeld ?_
      rotate_left
      focus (intro wx hSw; (try dsimp only at hSw); (try go_split_ands); go_simp; (try with_reducible rfl))
      try simp only [Act.put, List.getElem_toArray, List.getElem_cons_succ, List.getElem_cons_zero, List.setIfInBounds_toArray, List.set_cons_zero, List.set_cons_succ]
      refine wpAnyH_ready (rs := [13]) (by kernel_rfl) (by simp) (AllReadyH.cons rfl (fun K hK => ?_) AllReadyH.nil)
      go_simp
      refine hK.out _ _ ?_ (fun hHeld => ?_)
      · ((try dsimp only); (try dsimp only at hHeld); exact HS.out _ (by with_reducible repeat (first | exact Below.refl _ _ | exact hb6 | exact hb7 | refine bto0 ?_ hb6 | refine bto0 ?_ hb7 | refine bdr ?_ _ | refine Below.drew ?_ | refine ball ?_ _ | refine Below.setCell ?_ (by first | exact Nat.le_refl _ | (simp; omega)) _)))
      clear hK K
      try dsimp only at hHeld
      try simp only [Act.put, List.getElem_toArray, List.getElem_cons_succ, List.getElem_cons_zero, List.setIfInBounds_toArray, List.set_cons_zero, List.set_cons_succ]
      refine wpAnyH_done (by kernel_rfl) ?_ _
      clear hHeld
      have z0 := HB0.out.2.1.lt
      have z7 := hb7.size
      try simp at z7
      have bw7 : Below W0.heap.size W0 w7 := (by with_reducible repeat (first | exact Below.refl _ _ | exact hb6 | exact hb7 | refine bto0 ?_ hb6 | refine bto0 ?_ hb7 | refine bdr ?_ _ | refine Below.drew ?_ | refine ball ?_ _ | refine Below.setCell ?_ (by first | exact Nat.le_refl _ | (simp; omega)) _))
      have T1 := HB0.out.1.below bw7 HB0.out.1.lt
      have T2 := HB0.out.2.1.below bw7 HB0.out.2.1.lt
      have R3 := (HI.out.r3.below (bto0 HB0.out.2.2 bw7)).more (bto0 HB0.out.2.2 bw7).size
      have z8 := bw7.size
      have b4 := (BK7.set_ 0 (.slice A7 n c7)).set_ 1 (.slice B7 n d7)
      have T1 := (T1.far (p := ⟨w6.heap.size, 0, none⟩) (by first | omega | (simp; done) | (simp; omega)) (.slice A7 n c7)).far (p := ⟨w6.heap.size, 1, none⟩) (by first | omega | (simp; done) | (simp; omega)) (.slice B7 n d7)
      have T2 := (T2.far (p := ⟨w6.heap.size, 0, none⟩) (by first | omega | (simp; done) | (simp; omega)) (.slice A7 n c7)).far (p := ⟨w6.heap.size, 1, none⟩) (by first | omega | (simp; done) | (simp; omega)) (.slice B7 n d7)
      have r7 := (reads_far (p := ⟨w6.heap.size, 1, none⟩) (reads_far (p := ⟨w6.heap.size, 0, none⟩) hr7 (fun ad e => by have := hl7 ad e; (first | omega | (simp at this; omega) | (simp at this ⊢; omega))) (.slice A7 n c7)) (fun ad e => by have := hl7 ad e; (first | omega | (simp at this; omega) | (simp at this ⊢; omega))) (.slice B7 n d7))
      have s7 := (reads_far (p := ⟨w6.heap.size, 1, none⟩) (reads_far (p := ⟨w6.heap.size, 0, none⟩) hs7 (fun ad e => by have := hm7 ad e; (first | omega | (simp at this; omega) | (simp at this ⊢; omega))) (.slice A7 n c7)) (fun ad e => by have := hm7 ad e; (first | omega | (simp at this; omega) | (simp at this ⊢; omega))) (.slice B7 n d7))
      have BB : Below W0.heap.size W0 ((w7.setCell ⟨w6.heap.size, 0, none⟩ (.slice A7 n c7)).setCell ⟨w6.heap.size, 1, none⟩ (.slice B7 n d7)) := (bw7.setCell (by first | omega | (simp; done) | (simp; omega)) _).setCell (by first | omega | (simp; done) | (simp; omega)) _
      have R3 := HI.out.r3.below (bto0 HB0.out.2.2 BB)
      obtain ⟨WL, hWL⟩ : ∃ WL, ((w7.setCell ⟨w6.heap.size, 0, none⟩ (.slice A7 n c7)).setCell ⟨w6.heap.size, 1, none⟩ (.slice B7 n d7)) = WL := ⟨_, rfl⟩
      rw [hWL] at b4 T1 T2 r7 s7 BB R3
      rw [hWL]
      clear hWL
      have c40 : WL.cell? ⟨w6.heap.size, 0, none⟩ = some (.slice A7 n c7) := b4.cell 0
      have c41 : WL.cell? ⟨w6.heap.size, 1, none⟩ = some (.slice B7 n d7) := b4.cell 1
      have p0 : WL.cell? ⟨w.heap.size, 0, none⟩ = some (.slice hA n hc) := T1.cell 0
      have f0 := T1.frozen 0
      have p1 : WL.cell? ⟨w.heap.size, 1, none⟩ = some (.slice hB n hd) := T1.cell 1
      have f1 := T1.frozen 1
      have z1 := T1.lt
      have z2 := T2.lt
      have M1 := (T1.set_ 0 (.slice A7 n c7)).set_ 1 (.slice B7 n d7)
      have M2 := (T2.far (p := ⟨w.heap.size, 0, none⟩) (by simp) (.slice A7 n c7)).far (p := ⟨w.heap.size, 1, none⟩) (by simp) (.slice B7 n d7)
      have BM := (BB.mono (by omega : w.heap.size ≤ W0.heap.size))
      have BM := ((HB0.out.2.2.trans BM).setCell (p := ⟨w.heap.size, 0, none⟩) (Nat.le_refl _) (.slice A7 n c7)).setCell (p := ⟨w.heap.size, 1, none⟩) (Nat.le_refl _) (.slice B7 n d7)
      have lo7 : ∀ ad, A7 = some ad → w.heap.size + 1 < ad.block := fun ad e => by have := hl7 ad e; (first | omega | (simp at this; omega))
      have lo8 : ∀ ad, B7 = some ad → w.heap.size + 1 < ad.block := fun ad e => by have := hm7 ad e; (first | omega | (simp at this; omega))
      have r7 := reads_far (p := ⟨w.heap.size, 1, none⟩) (reads_far (p := ⟨w.heap.size, 0, none⟩) r7 (fun ad e => by have := lo7 ad e; (first | omega | (simp; omega))) (.slice A7 n c7)) (fun ad e => by have := lo7 ad e; (first | omega | (simp; omega))) (.slice B7 n d7)
      have s7 := reads_far (p := ⟨w.heap.size, 1, none⟩) (reads_far (p := ⟨w.heap.size, 0, none⟩) s7 (fun ad e => by have := lo8 ad e; (first | omega | (simp; omega))) (.slice A7 n c7)) (fun ad e => by have := lo8 ad e; (first | omega | (simp; omega))) (.slice B7 n d7)
      obtain ⟨WM, hWM⟩ : ∃ WM, ((WL.setCell ⟨w.heap.size, 0, none⟩ (.slice A7 n c7)).setCell ⟨w.heap.size, 1, none⟩ (.slice B7 n d7)) = WM := ⟨_, rfl⟩
      rw [hWM] at M1 M2 BM r7 s7
      have e0 : WM.cell? ⟨w.heap.size, 0, none⟩ = some (.slice A7 n c7) := M1.cell 0
      have e1 : WM.cell? ⟨w.heap.size, 1, none⟩ = some (.slice B7 n d7) := M1.cell 1
      have e2 : WM.cell? ⟨w.heap.size, 2, none⟩ = some (.int .u32 fi) := M1.cell 2
      have e3 : WM.cell? ⟨w.heap.size, 3, none⟩ = some (.int .u32 at_) := M1.cell 3
      have e4 : WM.cell? ⟨w.heap.size, 4, none⟩ = some (.int .u32 nx) := M1.cell 4
      have e5 : WM.cell? ⟨w.heap.size, 5, none⟩ = some (.slice hC k he) := M1.cell 5
      have e6 : WM.cell? ⟨w.heap.size, 6, none⟩ = some (.slice hD r hf) := M1.cell 6
      have e7 : WM.cell? ⟨w.heap.size, 7, none⟩ = some (.bool bg) := M1.cell 7
      have k0 : WM.cell? ⟨w.heap.size + 1, 0, none⟩ = some (.slice none 0 0) := M2.cell 0
      have g0 := M2.frozen 0
      have k1 : WM.cell? ⟨w.heap.size + 1, 1, none⟩ = some (.slice none 0 0) := M2.cell 1
      have g1 := M2.frozen 1
      have k2 : WM.cell? ⟨w.heap.size + 1, 2, none⟩ = some (.int .u32 0) := M2.cell 2
      have g2 := M2.frozen 2
      have k3 : WM.cell? ⟨w.heap.size + 1, 3, none⟩ = some (.int .u32 0) := M2.cell 3
      have g3 := M2.frozen 3
      have k4 : WM.cell? ⟨w.heap.size + 1, 4, none⟩ = some (.int .u32 0) := M2.cell 4
      have g4 := M2.frozen 4
      have k5 : WM.cell? ⟨w.heap.size + 1, 5, none⟩ = some (.slice none 0 0) := M2.cell 5
      have g5 := M2.frozen 5
      have k6 : WM.cell? ⟨w.heap.size + 1, 6, none⟩ = some (.slice none 0 0) := M2.cell 6
      have g6 := M2.frozen 6
      have k7 : WM.cell? ⟨w.heap.size + 1, 7, none⟩ = some (.bool false) := M2.cell 7
      have g7 := M2.frozen 7
      have z3 := M2.lt
      have HZ := Lib.hid (And.intro M2 (And.intro BM (And.intro r7 s7)))
      clear T1 T2 M1 M2 BM r7 s7 BB b4 R3 bw7 hr7 hs7 BK BK7
      go_wp2
      refine hwrite_end (h := ⟨A7, n, c7, B7, d7, fi, at_, nx, hC, k, he, hD, r, hf, bg⟩) (((((((((HZ.out.1).set_ 0 (.slice A7 n c7)).set_ 1 (.slice B7 n d7)).set_ 2 (.int .u32 fi)).set_ 3 (.int .u32 at_)).set_ 4 (.int .u32 nx)).set_ 5 (.slice hC k he)).set_ 6 (.slice hD r hf)).set_ 7 (.bool bg)) (by simp) ⟨⟨A7, n, c7, B7, d7, fi, at_, nx, hC, k, he, hD, r, hf, bg⟩, rfl, rfl, rfl, rfl, rfl, rfl, rfl, rfl, rfl, rfl, rfl, rfl, ⟨(reads_far (p := ⟨w.heap.size + 1, 7, none⟩) (reads_far (p := ⟨w.heap.size + 1, 6, none⟩) (reads_far (p := ⟨w.heap.size + 1, 5, none⟩) (reads_far (p := ⟨w.heap.size + 1, 4, none⟩) (reads_far (p := ⟨w.heap.size + 1, 3, none⟩) (reads_far (p := ⟨w.heap.size + 1, 2, none⟩) (reads_far (p := ⟨w.heap.size + 1, 1, none⟩) (reads_far (p := ⟨w.heap.size + 1, 0, none⟩) HZ.out.2.2.1 (fun ad e => by have := lo7 ad e; (first | omega | (simp; omega))) (.slice A7 n c7)) (fun ad e => by have := lo7 ad e; (first | omega | (simp; omega))) (.slice B7 n d7)) (fun ad e => by have := lo7 ad e; (first | omega | (simp; omega))) (.int .u32 fi)) (fun ad e => by have := lo7 ad e; (first | omega | (simp; omega))) (.int .u32 at_)) (fun ad e => by have := lo7 ad e; (first | omega | (simp; omega))) (.int .u32 nx)) (fun ad e => by have := lo7 ad e; (first | omega | (simp; omega))) (.slice hC k he)) (fun ad e => by have := lo7 ad e; (first | omega | (simp; omega))) (.slice hD r hf)) (fun ad e => by have := lo7 ad e; (first | omega | (simp; omega))) (.bool bg)), (reads_far (p := ⟨w.heap.size + 1, 7, none⟩) (reads_far (p := ⟨w.heap.size + 1, 6, none⟩) (reads_far (p := ⟨w.heap.size + 1, 5, none⟩) (reads_far (p := ⟨w.heap.size + 1, 4, none⟩) (reads_far (p := ⟨w.heap.size + 1, 3, none⟩) (reads_far (p := ⟨w.heap.size + 1, 2, none⟩) (reads_far (p := ⟨w.heap.size + 1, 1, none⟩) (reads_far (p := ⟨w.heap.size + 1, 0, none⟩) HZ.out.2.2.2 (fun ad e => by have := lo8 ad e; (first | omega | (simp; omega))) (.slice A7 n c7)) (fun ad e => by have := lo8 ad e; (first | omega | (simp; omega))) (.slice B7 n d7)) (fun ad e => by have := lo8 ad e; (first | omega | (simp; omega))) (.int .u32 fi)) (fun ad e => by have := lo8 ad e; (first | omega | (simp; omega))) (.int .u32 at_)) (fun ad e => by have := lo8 ad e; (first | omega | (simp; omega))) (.int .u32 nx)) (fun ad e => by have := lo8 ad e; (first | omega | (simp; omega))) (.slice hC k he)) (fun ad e => by have := lo8 ad e; (first | omega | (simp; omega))) (.slice hD r hf)) (fun ad e => by have := lo8 ad e; (first | omega | (simp; omega))) (.bool bg)), hc7, hd7, ?_, HI.out.c3⟩, ((((((((HZ.out.2.1.setCell (p := ⟨w.heap.size + 1, 0, none⟩) (by simp) (.slice A7 n c7)).setCell (p := ⟨w.heap.size + 1, 1, none⟩) (by simp) (.slice B7 n d7)).setCell (p := ⟨w.heap.size + 1, 2, none⟩) (by simp) (.int .u32 fi)).setCell (p := ⟨w.heap.size + 1, 3, none⟩) (by simp) (.int .u32 at_)).setCell (p := ⟨w.heap.size + 1, 4, none⟩) (by simp) (.int .u32 nx)).setCell (p := ⟨w.heap.size + 1, 5, none⟩) (by simp) (.slice hC k he)).setCell (p := ⟨w.heap.size + 1, 6, none⟩) (by simp) (.slice hD r hf)).setCell (p := ⟨w.heap.size + 1, 7, none⟩) (by simp) (.bool bg)), fun ad e => by have := lo7 ad e; omega, fun ad e => by have := lo8 ad e; omega⟩
      exact (HI.out.r3.below ((((((((HZ.out.2.1.setCell (p := ⟨w.heap.size + 1, 0, none⟩) (by simp) (.slice A7 n c7)).setCell (p := ⟨w.heap.size + 1, 1, none⟩) (by simp) (.slice B7 n d7)).setCell (p := ⟨w.heap.size + 1, 2, none⟩) (by simp) (.int .u32 fi)).setCell (p := ⟨w.heap.size + 1, 3, none⟩) (by simp) (.int .u32 at_)).setCell (p := ⟨w.heap.size + 1, 4, none⟩) (by simp) (.int .u32 nx)).setCell (p := ⟨w.heap.size + 1, 5, none⟩) (by simp) (.slice hC k he)).setCell (p := ⟨w.heap.size + 1, 6, none⟩) (by simp) (.slice hD r hf)).setCell (p := ⟨w.heap.size + 1, 7, none⟩) (by simp) (.bool bg))).more ((((((((HZ.out.2.1.setCell (p := ⟨w.heap.size + 1, 0, none⟩) (by simp) (.slice A7 n c7)).setCell (p := ⟨w.heap.size + 1, 1, none⟩) (by simp) (.slice B7 n d7)).setCell (p := ⟨w.heap.size + 1, 2, none⟩) (by simp) (.int .u32 fi)).setCell (p := ⟨w.heap.size + 1, 3, none⟩) (by simp) (.int .u32 at_)).setCell (p := ⟨w.heap.size + 1, 4, none⟩) (by simp) (.int .u32 nx)).setCell (p := ⟨w.heap.size + 1, 5, none⟩) (by simp) (.slice hC k he)).setCell (p := ⟨w.heap.size + 1, 6, none⟩) (by simp) (.slice hD r hf)).setCell (p := ⟨w.heap.size + 1, 7, none⟩) (by simp) (.bool bg)).size
  · go_simp
    have BK : Blk (W0.drew.alloc (.cells #[.slice none 0 0, .slice none 0 0] 32)) W0.heap.size 32 #[.slice none 0 0, .slice none 0 0] := Blk.new _ _ _
    refine hK.out _ _ ?_ (fun hHeld => ?_)
    · ((try dsimp only); (try dsimp only at hHeld); exact HS.out _ (by with_reducible repeat (first | exact Below.refl _ _ | refine bdr ?_ _ | refine Below.drew ?_ | refine ball ?_ _ | refine Below.setCell ?_ (by first | exact Nat.le_refl _ | (simp; omega)) _)))
    clear hK K
    try dsimp only at hHeld
    try simp only [Act.put, List.getElem_toArray, List.getElem_cons_succ, List.getElem_cons_zero, List.setIfInBounds_toArray, List.set_cons_zero, List.set_cons_succ]
    refine wpAnyH_ready (rs := [6]) (by kernel_rfl) (by simp) (AllReadyH.cons rfl (fun K hK => ?_) AllReadyH.nil)
    go_simp
    (go_at_call 54; (with_reducible refine (LY.out _ (by with_reducible repeat (first | exact Below.refl _ _ | refine bdr ?_ _ | refine Below.drew ?_ | refine ball ?_ _ | refine Below.setCell ?_ (by first | exact Nat.le_refl _ | (simp; omega)) _))).mono ?_); rintro e w6 ⟨rfl, hb6⟩)
    have z6 : W0.heap.size ≤ w6.heap.size := (show Below W0.heap.size W0 w6 from (by with_reducible repeat (first | exact Below.refl _ _ | exact hb6 | refine bto0 ?_ hb6 | refine bdr ?_ _ | refine Below.drew ?_ | refine ball ?_ _ | refine Below.setCell ?_ (by first | exact Nat.le_refl _ | (simp; omega)) _))).size
    have BK6 := BK.below hb6 BK.lt
    go_wp2_with fail
    refine hK.out _ _ ?_ (fun hHeld => ?_)
    · ((try dsimp only); (try dsimp only at hHeld); exact HS.out _ (by with_reducible repeat (first | exact Below.refl _ _ | exact hb6 | refine bto0 ?_ hb6 | refine bdr ?_ _ | refine Below.drew ?_ | refine ball ?_ _ | refine Below.setCell ?_ (by first | exact Nat.le_refl _ | (simp; omega)) _)))
    clear hK K
    try dsimp only at hHeld
    try simp only [Act.put, List.getElem_toArray, List.getElem_cons_succ, List.getElem_cons_zero, List.setIfInBounds_toArray, List.set_cons_zero, List.set_cons_succ]
    refine wpAnyH_ready (rs := [7]) (by kernel_rfl) (by simp) (AllReadyH.cons rfl (fun K hK => ?_) AllReadyH.nil)
    go_simp
    (go_at_call 53; (with_reducible refine (WR.out _ (by with_reducible repeat (first | exact Below.refl _ _ | exact hb6 | refine bto0 ?_ hb6 | refine bdr ?_ _ | refine Below.drew ?_ | refine ball ?_ _ | refine Below.setCell ?_ (by first | exact Nat.le_refl _ | (simp; omega)) _))).mono ?_); rintro e w7 ⟨A7, c7, B7, d7, rfl, hr7, hs7, hc7, hd7, hl7, hm7, hb7⟩)
    have BK7 := BK6.below hb7 BK6.lt
    have y40 : w7.cell? ⟨W0.heap.size, 0, none⟩ = some (.slice none 0 0) := BK7.cell 0
    have y41 : w7.cell? ⟨W0.heap.size, 1, none⟩ = some (.slice none 0 0) := BK7.cell 1
    have v40 := BK7.frozen 0
    have v41 := BK7.frozen 1
    go_wp2_with fail
    refine hK.out _ _ ?_ (fun hHeld => ?_)
    · ((try dsimp only); (try dsimp only at hHeld); exact HS.out _ (by with_reducible repeat (first | exact Below.refl _ _ | exact hb6 | exact hb7 | refine bto0 ?_ hb6 | refine bto0 ?_ hb7 | refine bdr ?_ _ | refine Below.drew ?_ | refine ball ?_ _ | refine Below.setCell ?_ (by first | exact Nat.le_refl _ | (simp; omega)) _)))
    clear hK K
    try dsimp only at hHeld
    try simp only [Act.put, List.getElem_toArray, List.getElem_cons_succ, List.getElem_cons_zero, List.setIfInBounds_toArray, List.set_cons_zero, List.set_cons_succ]
    refine wpAnyH_take (i := 8) (v := ?_) rfl (by kernel_rfl) (by kernel_rfl) (by kernel_rfl) (fun _ _ _ h => h) (Or.inl ⟨rfl, ?_⟩) hHeld ?_
    rotate_left
    focus (intro wx hSw; (try dsimp only at hSw); (try go_split_ands); go_simp; (try with_reducible rfl))
    try simp only [Act.put, List.getElem_toArray, List.getElem_cons_succ, List.getElem_cons_zero, List.setIfInBounds_toArray, List.set_cons_zero, List.set_cons_succ]
    refine wpAnyH_take (i := 9) (v := ?_) rfl (by kernel_rfl) (by kernel_rfl) (by kernel_rfl) (fun _ _ _ h => h) (Or.inl ⟨rfl, ?_⟩) hHeld ?_
    rotate_left
    focus (intro wx hSw; (try dsimp only at hSw); (try go_split_ands); go_simp; (try with_reducible rfl))
    try simp only [Act.put, List.getElem_toArray, List.getElem_cons_succ, List.getElem_cons_zero, List.setIfInBounds_toArray, List.set_cons_zero, List.set_cons_succ]
    refine wpAnyH_take (i := 10) (v := ?_) rfl (by kernel_rfl) (by kernel_rfl) (by kernel_rfl) (fun _ _ _ h => h) (Or.inl ⟨rfl, ?_⟩) hHeld ?_
    rotate_left
    focus (intro wx hSw; (try dsimp only at hSw); (try go_split_ands); go_simp; (try with_reducible rfl))
    try simp only [Act.put, List.getElem_toArray, List.getElem_cons_succ, List.getElem_cons_zero, List.setIfInBounds_toArray, List.set_cons_zero, List.set_cons_succ]
    refine wpAnyH_take (i := 12) (v := ?_) rfl (by kernel_rfl) (by kernel_rfl) (by kernel_rfl) (fun _ _ _ h => h) (Or.inl ⟨rfl, ?_⟩) hHeld ?_
    rotate_left
    focus (intro wx hSw; (try dsimp only at hSw); (try go_split_ands); go_simp; (try with_reducible rfl))
    try simp only [Act.put, List.getElem_toArray, List.getElem_cons_succ, List.getElem_cons_zero, List.setIfInBounds_toArray, List.set_cons_zero, List.set_cons_succ]
    refine wpAnyH_ready (rs := [13]) (by kernel_rfl) (by simp) (AllReadyH.cons rfl (fun K hK => ?_) AllReadyH.nil)
    go_simp
    refine hK.out _ _ ?_ (fun hHeld => ?_)
    · ((try dsimp only); (try dsimp only at hHeld); exact HS.out _ (by with_reducible repeat (first | exact Below.refl _ _ | exact hb6 | exact hb7 | refine bto0 ?_ hb6 | refine bto0 ?_ hb7 | refine bdr ?_ _ | refine Below.drew ?_ | refine ball ?_ _ | refine Below.setCell ?_ (by first | exact Nat.le_refl _ | (simp; omega)) _)))
    clear hK K
    try dsimp only at hHeld
    try simp only [Act.put, List.getElem_toArray, List.getElem_cons_succ, List.getElem_cons_zero, List.setIfInBounds_toArray, List.set_cons_zero, List.set_cons_succ]
    refine wpAnyH_done (by kernel_rfl) ?_ _
    clear hHeld
    have z0 := HB0.out.2.1.lt
    have z7 := hb7.size
    have z46 := BK6.lt
    try simp at z7
    have bw7 : Below W0.heap.size W0 w7 := (by with_reducible repeat (first | exact Below.refl _ _ | exact hb6 | exact hb7 | refine bto0 ?_ hb6 | refine bto0 ?_ hb7 | refine bdr ?_ _ | refine Below.drew ?_ | refine ball ?_ _ | refine Below.setCell ?_ (by first | exact Nat.le_refl _ | (simp; omega)) _))
    have T1 := HB0.out.1.below bw7 HB0.out.1.lt
    have T2 := HB0.out.2.1.below bw7 HB0.out.2.1.lt
    have R3 := (HI.out.r3.below (bto0 HB0.out.2.2 bw7)).more (bto0 HB0.out.2.2 bw7).size
    have z8 := bw7.size
    have b4 := (BK7.set_ 0 (.slice A7 n c7)).set_ 1 (.slice B7 n d7)
    have T1 := (T1.far (p := ⟨W0.heap.size, 0, none⟩) (by first | omega | (simp; done) | (simp; omega)) (.slice A7 n c7)).far (p := ⟨W0.heap.size, 1, none⟩) (by first | omega | (simp; done) | (simp; omega)) (.slice B7 n d7)
    have T2 := (T2.far (p := ⟨W0.heap.size, 0, none⟩) (by first | omega | (simp; done) | (simp; omega)) (.slice A7 n c7)).far (p := ⟨W0.heap.size, 1, none⟩) (by first | omega | (simp; done) | (simp; omega)) (.slice B7 n d7)
    have r7 := (reads_far (p := ⟨W0.heap.size, 1, none⟩) (reads_far (p := ⟨W0.heap.size, 0, none⟩) hr7 (fun ad e => by have := hl7 ad e; (first | omega | (simp at this; omega) | (simp at this ⊢; omega))) (.slice A7 n c7)) (fun ad e => by have := hl7 ad e; (first | omega | (simp at this; omega) | (simp at this ⊢; omega))) (.slice B7 n d7))
    have s7 := (reads_far (p := ⟨W0.heap.size, 1, none⟩) (reads_far (p := ⟨W0.heap.size, 0, none⟩) hs7 (fun ad e => by have := hm7 ad e; (first | omega | (simp at this; omega) | (simp at this ⊢; omega))) (.slice A7 n c7)) (fun ad e => by have := hm7 ad e; (first | omega | (simp at this; omega) | (simp at this ⊢; omega))) (.slice B7 n d7))
    have BB : Below W0.heap.size W0 ((w7.setCell ⟨W0.heap.size, 0, none⟩ (.slice A7 n c7)).setCell ⟨W0.heap.size, 1, none⟩ (.slice B7 n d7)) := (bw7.setCell (by first | omega | (simp; done) | (simp; omega)) _).setCell (by first | omega | (simp; done) | (simp; omega)) _
    have R3 := HI.out.r3.below (bto0 HB0.out.2.2 BB)
    obtain ⟨WL, hWL⟩ : ∃ WL, ((w7.setCell ⟨W0.heap.size, 0, none⟩ (.slice A7 n c7)).setCell ⟨W0.heap.size, 1, none⟩ (.slice B7 n d7)) = WL := ⟨_, rfl⟩
    rw [hWL] at b4 T1 T2 r7 s7 BB R3
    rw [hWL]
    clear hWL
    have c40 : WL.cell? ⟨W0.heap.size, 0, none⟩ = some (.slice A7 n c7) := b4.cell 0
    have c41 : WL.cell? ⟨W0.heap.size, 1, none⟩ = some (.slice B7 n d7) := b4.cell 1
    have p0 : WL.cell? ⟨w.heap.size, 0, none⟩ = some (.slice hA n hc) := T1.cell 0
    have f0 := T1.frozen 0
    have p1 : WL.cell? ⟨w.heap.size, 1, none⟩ = some (.slice hB n hd) := T1.cell 1
    have f1 := T1.frozen 1
    have z1 := T1.lt
    have z2 := T2.lt
    have M1 := (T1.set_ 0 (.slice A7 n c7)).set_ 1 (.slice B7 n d7)
    have M2 := (T2.far (p := ⟨w.heap.size, 0, none⟩) (by simp) (.slice A7 n c7)).far (p := ⟨w.heap.size, 1, none⟩) (by simp) (.slice B7 n d7)
    have BM := (BB.mono (by omega : w.heap.size ≤ W0.heap.size))
    have BM := ((HB0.out.2.2.trans BM).setCell (p := ⟨w.heap.size, 0, none⟩) (Nat.le_refl _) (.slice A7 n c7)).setCell (p := ⟨w.heap.size, 1, none⟩) (Nat.le_refl _) (.slice B7 n d7)
    have lo7 : ∀ ad, A7 = some ad → w.heap.size + 1 < ad.block := fun ad e => by have := hl7 ad e; (first | omega | (simp at this; omega))
    have lo8 : ∀ ad, B7 = some ad → w.heap.size + 1 < ad.block := fun ad e => by have := hm7 ad e; (first | omega | (simp at this; omega))
    have r7 := reads_far (p := ⟨w.heap.size, 1, none⟩) (reads_far (p := ⟨w.heap.size, 0, none⟩) r7 (fun ad e => by have := lo7 ad e; (first | omega | (simp; omega))) (.slice A7 n c7)) (fun ad e => by have := lo7 ad e; (first | omega | (simp; omega))) (.slice B7 n d7)
    have s7 := reads_far (p := ⟨w.heap.size, 1, none⟩) (reads_far (p := ⟨w.heap.size, 0, none⟩) s7 (fun ad e => by have := lo8 ad e; (first | omega | (simp; omega))) (.slice A7 n c7)) (fun ad e => by have := lo8 ad e; (first | omega | (simp; omega))) (.slice B7 n d7)
    obtain ⟨WM, hWM⟩ : ∃ WM, ((WL.setCell ⟨w.heap.size, 0, none⟩ (.slice A7 n c7)).setCell ⟨w.heap.size, 1, none⟩ (.slice B7 n d7)) = WM := ⟨_, rfl⟩
    rw [hWM] at M1 M2 BM r7 s7
    have e0 : WM.cell? ⟨w.heap.size, 0, none⟩ = some (.slice A7 n c7) := M1.cell 0
    have e1 : WM.cell? ⟨w.heap.size, 1, none⟩ = some (.slice B7 n d7) := M1.cell 1
    have e2 : WM.cell? ⟨w.heap.size, 2, none⟩ = some (.int .u32 fi) := M1.cell 2
    have e3 : WM.cell? ⟨w.heap.size, 3, none⟩ = some (.int .u32 at_) := M1.cell 3
    have e4 : WM.cell? ⟨w.heap.size, 4, none⟩ = some (.int .u32 nx) := M1.cell 4
    have e5 : WM.cell? ⟨w.heap.size, 5, none⟩ = some (.slice hC k he) := M1.cell 5
    have e6 : WM.cell? ⟨w.heap.size, 6, none⟩ = some (.slice hD r hf) := M1.cell 6
    have e7 : WM.cell? ⟨w.heap.size, 7, none⟩ = some (.bool bg) := M1.cell 7
    have k0 : WM.cell? ⟨w.heap.size + 1, 0, none⟩ = some (.slice none 0 0) := M2.cell 0
    have g0 := M2.frozen 0
    have k1 : WM.cell? ⟨w.heap.size + 1, 1, none⟩ = some (.slice none 0 0) := M2.cell 1
    have g1 := M2.frozen 1
    have k2 : WM.cell? ⟨w.heap.size + 1, 2, none⟩ = some (.int .u32 0) := M2.cell 2
    have g2 := M2.frozen 2
    have k3 : WM.cell? ⟨w.heap.size + 1, 3, none⟩ = some (.int .u32 0) := M2.cell 3
    have g3 := M2.frozen 3
    have k4 : WM.cell? ⟨w.heap.size + 1, 4, none⟩ = some (.int .u32 0) := M2.cell 4
    have g4 := M2.frozen 4
    have k5 : WM.cell? ⟨w.heap.size + 1, 5, none⟩ = some (.slice none 0 0) := M2.cell 5
    have g5 := M2.frozen 5
    have k6 : WM.cell? ⟨w.heap.size + 1, 6, none⟩ = some (.slice none 0 0) := M2.cell 6
    have g6 := M2.frozen 6
    have k7 : WM.cell? ⟨w.heap.size + 1, 7, none⟩ = some (.bool false) := M2.cell 7
    have g7 := M2.frozen 7
    have z3 := M2.lt
    have HZ := Lib.hid (And.intro M2 (And.intro BM (And.intro r7 s7)))
    clear T1 T2 M1 M2 BM r7 s7 BB b4 R3 bw7 hr7 hs7 BK BK6 BK7
    go_wp2
    refine hwrite_end (h := ⟨A7, n, c7, B7, d7, fi, at_, nx, hC, k, he, hD, r, hf, bg⟩) (((((((((HZ.out.1).set_ 0 (.slice A7 n c7)).set_ 1 (.slice B7 n d7)).set_ 2 (.int .u32 fi)).set_ 3 (.int .u32 at_)).set_ 4 (.int .u32 nx)).set_ 5 (.slice hC k he)).set_ 6 (.slice hD r hf)).set_ 7 (.bool bg)) (by simp) ⟨⟨A7, n, c7, B7, d7, fi, at_, nx, hC, k, he, hD, r, hf, bg⟩, rfl, rfl, rfl, rfl, rfl, rfl, rfl, rfl, rfl, rfl, rfl, rfl, ⟨(reads_far (p := ⟨w.heap.size + 1, 7, none⟩) (reads_far (p := ⟨w.heap.size + 1, 6, none⟩) (reads_far (p := ⟨w.heap.size + 1, 5, none⟩) (reads_far (p := ⟨w.heap.size + 1, 4, none⟩) (reads_far (p := ⟨w.heap.size + 1, 3, none⟩) (reads_far (p := ⟨w.heap.size + 1, 2, none⟩) (reads_far (p := ⟨w.heap.size + 1, 1, none⟩) (reads_far (p := ⟨w.heap.size + 1, 0, none⟩) HZ.out.2.2.1 (fun ad e => by have := lo7 ad e; (first | omega | (simp; omega))) (.slice A7 n c7)) (fun ad e => by have := lo7 ad e; (first | omega | (simp; omega))) (.slice B7 n d7)) (fun ad e => by have := lo7 ad e; (first | omega | (simp; omega))) (.int .u32 fi)) (fun ad e => by have := lo7 ad e; (first | omega | (simp; omega))) (.int .u32 at_)) (fun ad e => by have := lo7 ad e; (first | omega | (simp; omega))) (.int .u32 nx)) (fun ad e => by have := lo7 ad e; (first | omega | (simp; omega))) (.slice hC k he)) (fun ad e => by have := lo7 ad e; (first | omega | (simp; omega))) (.slice hD r hf)) (fun ad e => by have := lo7 ad e; (first | omega | (simp; omega))) (.bool bg)), (reads_far (p := ⟨w.heap.size + 1, 7, none⟩) (reads_far (p := ⟨w.heap.size + 1, 6, none⟩) (reads_far (p := ⟨w.heap.size + 1, 5, none⟩) (reads_far (p := ⟨w.heap.size + 1, 4, none⟩) (reads_far (p := ⟨w.heap.size + 1, 3, none⟩) (reads_far (p := ⟨w.heap.size + 1, 2, none⟩) (reads_far (p := ⟨w.heap.size + 1, 1, none⟩) (reads_far (p := ⟨w.heap.size + 1, 0, none⟩) HZ.out.2.2.2 (fun ad e => by have := lo8 ad e; (first | omega | (simp; omega))) (.slice A7 n c7)) (fun ad e => by have := lo8 ad e; (first | omega | (simp; omega))) (.slice B7 n d7)) (fun ad e => by have := lo8 ad e; (first | omega | (simp; omega))) (.int .u32 fi)) (fun ad e => by have := lo8 ad e; (first | omega | (simp; omega))) (.int .u32 at_)) (fun ad e => by have := lo8 ad e; (first | omega | (simp; omega))) (.int .u32 nx)) (fun ad e => by have := lo8 ad e; (first | omega | (simp; omega))) (.slice hC k he)) (fun ad e => by have := lo8 ad e; (first | omega | (simp; omega))) (.slice hD r hf)) (fun ad e => by have := lo8 ad e; (first | omega | (simp; omega))) (.bool bg)), hc7, hd7, ?_, HI.out.c3⟩, ((((((((HZ.out.2.1.setCell (p := ⟨w.heap.size + 1, 0, none⟩) (by simp) (.slice A7 n c7)).setCell (p := ⟨w.heap.size + 1, 1, none⟩) (by simp) (.slice B7 n d7)).setCell (p := ⟨w.heap.size + 1, 2, none⟩) (by simp) (.int .u32 fi)).setCell (p := ⟨w.heap.size + 1, 3, none⟩) (by simp) (.int .u32 at_)).setCell (p := ⟨w.heap.size + 1, 4, none⟩) (by simp) (.int .u32 nx)).setCell (p := ⟨w.heap.size + 1, 5, none⟩) (by simp) (.slice hC k he)).setCell (p := ⟨w.heap.size + 1, 6, none⟩) (by simp) (.slice hD r hf)).setCell (p := ⟨w.heap.size + 1, 7, none⟩) (by simp) (.bool bg)), fun ad e => by have := lo7 ad e; omega, fun ad e => by have := lo8 ad e; omega⟩
    exact (HI.out.r3.below ((((((((HZ.out.2.1.setCell (p := ⟨w.heap.size + 1, 0, none⟩) (by simp) (.slice A7 n c7)).setCell (p := ⟨w.heap.size + 1, 1, none⟩) (by simp) (.slice B7 n d7)).setCell (p := ⟨w.heap.size + 1, 2, none⟩) (by simp) (.int .u32 fi)).setCell (p := ⟨w.heap.size + 1, 3, none⟩) (by simp) (.int .u32 at_)).setCell (p := ⟨w.heap.size + 1, 4, none⟩) (by simp) (.int .u32 nx)).setCell (p := ⟨w.heap.size + 1, 5, none⟩) (by simp) (.slice hC k he)).setCell (p := ⟨w.heap.size + 1, 6, none⟩) (by simp) (.slice hD r hf)).setCell (p := ⟨w.heap.size + 1, 7, none⟩) (by simp) (.bool bg))).more ((((((((HZ.out.2.1.setCell (p := ⟨w.heap.size + 1, 0, none⟩) (by simp) (.slice A7 n c7)).setCell (p := ⟨w.heap.size + 1, 1, none⟩) (by simp) (.slice B7 n d7)).setCell (p := ⟨w.heap.size + 1, 2, none⟩) (by simp) (.int .u32 fi)).setCell (p := ⟨w.heap.size + 1, 3, none⟩) (by simp) (.int .u32 at_)).setCell (p := ⟨w.heap.size + 1, 4, none⟩) (by simp) (.int .u32 nx)).setCell (p := ⟨w.heap.size + 1, 5, none⟩) (by simp) (.slice hC k he)).setCell (p := ⟨w.heap.size + 1, 6, none⟩) (by simp) (.slice hD r hf)).setCell (p := ⟨w.heap.size + 1, 7, none⟩) (by simp) (.bool bg)).size
end
end Go.Proofs.Ytdimkeoncgjegaa
