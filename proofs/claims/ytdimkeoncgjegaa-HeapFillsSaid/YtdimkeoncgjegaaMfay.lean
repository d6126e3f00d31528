/-
  Several texts in one: IG IH.
-/
import Derived.Test.YtdimkeoncgjegaaMfax
/-
  Heap: the reference's H: next, where a page is free.
-/
namespace Go.Proofs.Ytdimkeoncgjegaa
section
set_option linter.unusedSimpArgs false
set_option linter.unusedVariables false
open Go.RowKit Go.Maps

def RetNy (w : World) (h : Hh) (i first : Nat) (ps : List (List UInt8)) (T : List Bool) (e : Ending) (w' : World) : Prop :=
  ∃ h' : Hh, e = .returned (.tuple #[.int .i64 0, .agg h'.arr]) ∧ h'.n = h.n ∧ h'.first = first ∧ h'.at_ = i ∧ h'.next = 0 ∧ h'.D = h.D ∧ h'.r = h.r ∧ h'.f = h.f ∧ h'.began = true ∧ HhIn w' h' ps T [] ∧ Below w.heap.size w w' ∧ (∀ ad, h'.A = some ad → h.A = some ad ∨ w.heap.size ≤ ad.block) ∧ (∀ ad, h'.B = some ad → h.B = some ad ∨ w.heap.size ≤ ad.block)
theorem reads_alloc {w : World} {sz n : Nat} {A : Option Addr} {xs : List Value} (h : Reads w w.heap.size sz A n xs) (o : Obj) : Reads (w.alloc o) (w.alloc o).heap.size sz A n xs := (h.alloc (Nat.le_refl _) o).more (by simp)
theorem reads_none (w : World) : Reads w w.heap.size 1 none 0 (sL []) := ⟨by simp [sL], fun h => absurd h (by omega)⟩
set_option maxRecDepth 100000 in
set_option maxHeartbeats 16000000 in
theorem hnext_free0 {w : World} {h : Hh} {ps : List (List UInt8)} {T : List Bool} {rs : List (List UInt8)} (hi : HhIn w h ps T rs) (hn : h.n ≤ 10000) (i : Nat) (hti : T[i]? = some false) (hj : ∀ j : Nat, j < i → T[j]? = some true) (hbg : h.began = false) :
    Calls Try.prog 29 #[.agg h.arr] w (RetNy w h i i ps (T.set i true)) := by
  obtain ⟨hA, n, hc, hB, hd, fi, at_, nx, hC, k, he, hD, r, hf, bg⟩ := h
  unfold Hh.arr
  dsimp only at hn hbg  ⊢
  subst hbg
  have HB0 : Hid (Blk ((w.alloc (.cells #[.slice hA n hc, .slice hB n hd, .int .u32 fi, .int .u32 at_, .int .u32 nx, .slice hC k he, .slice hD r hf, .bool false] 43)).alloc (.cells #[.slice none 0 0, .slice none 0 0, .int .u32 0, .int .u32 0, .int .u32 0, .slice none 0 0, .slice none 0 0, .bool false] 43)) w.heap.size 43 #[.slice hA n hc, .slice hB n hd, .int .u32 fi, .int .u32 at_, .int .u32 nx, .slice hC k he, .slice hD r hf, .bool false] ∧ Blk ((w.alloc (.cells #[.slice hA n hc, .slice hB n hd, .int .u32 fi, .int .u32 at_, .int .u32 nx, .slice hC k he, .slice hD r hf, .bool false] 43)).alloc (.cells #[.slice none 0 0, .slice none 0 0, .int .u32 0, .int .u32 0, .int .u32 0, .slice none 0 0, .slice none 0 0, .bool false] 43)) (w.heap.size + 1) 43 #[.slice none 0 0, .slice none 0 0, .int .u32 0, .int .u32 0, .int .u32 0, .slice none 0 0, .slice none 0 0, .bool false] ∧ Below w.heap.size w ((w.alloc (.cells #[.slice hA n hc, .slice hB n hd, .int .u32 fi, .int .u32 at_, .int .u32 nx, .slice hC k he, .slice hD r hf, .bool false] 43)).alloc (.cells #[.slice none 0 0, .slice none 0 0, .int .u32 0, .int .u32 0, .int .u32 0, .slice none 0 0, .slice none 0 0, .bool false] 43))) := Lib.hid ⟨(Blk.newAt rfl).alloc _, Blk.newAt (by simp), ball (ball (Below.refl _ _) _) _⟩
  have HI := Lib.hid hi
  clear hi
  go_enter Try.func29, Try.ntmps29
  go_wp2_with fail
  obtain ⟨W0, hW0⟩ : ∃ W0, ((w.alloc (.cells #[.slice hA n hc, .slice hB n hd, .int .u32 fi, .int .u32 at_, .int .u32 nx, .slice hC k he, .slice hD r hf, .bool false] 43)).alloc (.cells #[.slice none 0 0, .slice none 0 0, .int .u32 0, .int .u32 0, .int .u32 0, .slice none 0 0, .slice none 0 0, .bool false] 43)) = W0 := ⟨_, rfl⟩
  have hW0s : W0.heap.size = w.heap.size + 1 + 1 := by rw [← hW0]; simp
  have HWs := Lib.hid hW0s
  have hWlt : w.heap.size + 1 < W0.heap.size := by omega
  clear hW0s
  rw [hW0] at HB0
  rw [hW0]
  clear hW0
  have p0 : W0.cell? ⟨w.heap.size, 0, none⟩ = some (.slice hA n hc) := HB0.out.1.cell 0
  have f0 := HB0.out.1.frozen 0
  have p1 : W0.cell? ⟨w.heap.size, 1, none⟩ = some (.slice hB n hd) := HB0.out.1.cell 1
  have f1 := HB0.out.1.frozen 1
  have TK : Hid (∀ W, Below W0.heap.size W0 W → Calls Try.prog 51 #[.agg #[.slice hA n hc, .slice hB n hd]] W (RetTk W hA n hc i (T.set i true))) := Lib.hid fun W hW => rTake_at (n := n) hA hc hB hd T ((HI.out.r2.below (bto0 HB0.out.2.2 hW)).more (bto0 HB0.out.2.2 hW).size) (by omega) i hti hj
  clear hj hti
  clear f0 f1
  go_wp2_with (go_at_call 51; (with_reducible refine (TK.out _ (by with_reducible repeat (first | exact Below.refl _ _ | refine bdr ?_ _ | refine Below.drew ?_ | refine ball ?_ _))).mono ?_); rintro e w1 ⟨B1, d1, rfl, s1, q2, m1, hb1⟩; have T1 := HB0.out.1.below hb1 HB0.out.1.lt; have T2 := HB0.out.2.1.below hb1 HB0.out.2.1.lt; have z1 := T1.lt; have z2 := T2.lt; have e0 : w1.cell? ⟨w.heap.size, 0, none⟩ = some (.slice hA n hc) := T1.cell 0; have f0 := T1.frozen 0; have e1 : w1.cell? ⟨w.heap.size, 1, none⟩ = some (.slice hB n hd) := T1.cell 1; have f1 := T1.frozen 1; have e2 : w1.cell? ⟨w.heap.size, 2, none⟩ = some (.int .u32 fi) := T1.cell 2; have f2 := T1.frozen 2; have e3 : w1.cell? ⟨w.heap.size, 3, none⟩ = some (.int .u32 at_) := T1.cell 3; have f3 := T1.frozen 3; have e4 : w1.cell? ⟨w.heap.size, 4, none⟩ = some (.int .u32 nx) := T1.cell 4; have f4 := T1.frozen 4; have e5 : w1.cell? ⟨w.heap.size, 5, none⟩ = some (.slice hC k he) := T1.cell 5; have f5 := T1.frozen 5; have e6 : w1.cell? ⟨w.heap.size, 6, none⟩ = some (.slice hD r hf) := T1.cell 6; have f6 := T1.frozen 6; have e7 : w1.cell? ⟨w.heap.size, 7, none⟩ = some (.bool false) := T1.cell 7; have f7 := T1.frozen 7; have u1 : ∀ ad, B1 = some ad → w.heap.size + 1 < ad.block := fun ad e => (by have h1 := m1 ad e; have h2 := HB0.out.2.1.lt; (try simp at h1); omega); have UV := Lib.hid (And.intro u1 u1); have HS := Lib.hid s1; have HZ := Lib.hid (And.intro T1 T2); clear T1 T2 s1 u1 m1)
  have T1 := ((((((((HZ.out.1).set_ 0 (.slice hA n hc)).set_ 1 (.slice B1 n d1)).set_ 2 (.int .u32 i)).set_ 7 (.bool true)).set_ 3 (.int .u32 i)).set_ 4 (.int .u32 0)).set_ 5 (.slice none 0 0)).alloc (.cells #[.slice hA n hc, .slice B1 n d1] 32)
  simp only [List.setIfInBounds_toArray, List.set_cons_zero, List.set_cons_succ] at T1
  have T2 := ((((((((HZ.out.2).far (p := ⟨w.heap.size, 0, none⟩) (by simp) (.slice hA n hc)).far (p := ⟨w.heap.size, 1, none⟩) (by simp) (.slice B1 n d1)).far (p := ⟨w.heap.size, 2, none⟩) (by simp) (.int .u32 i)).far (p := ⟨w.heap.size, 7, none⟩) (by simp) (.bool true)).far (p := ⟨w.heap.size, 3, none⟩) (by simp) (.int .u32 i)).far (p := ⟨w.heap.size, 4, none⟩) (by simp) (.int .u32 0)).far (p := ⟨w.heap.size, 5, none⟩) (by simp) (.slice none 0 0)).alloc (.cells #[.slice hA n hc, .slice B1 n d1] 32)
  have BM := ball ((((((((bto0 HB0.out.2.2 hb1).setCell (p := ⟨w.heap.size, 0, none⟩) (Nat.le_refl _) (.slice hA n hc)).setCell (p := ⟨w.heap.size, 1, none⟩) (Nat.le_refl _) (.slice B1 n d1)).setCell (p := ⟨w.heap.size, 2, none⟩) (Nat.le_refl _) (.int .u32 i)).setCell (p := ⟨w.heap.size, 7, none⟩) (Nat.le_refl _) (.bool true)).setCell (p := ⟨w.heap.size, 3, none⟩) (Nat.le_refl _) (.int .u32 i)).setCell (p := ⟨w.heap.size, 4, none⟩) (Nat.le_refl _) (.int .u32 0)).setCell (p := ⟨w.heap.size, 5, none⟩) (Nat.le_refl _) (.slice none 0 0)) (.cells #[.slice hA n hc, .slice B1 n d1] 32)
  have s5 := reads_alloc (reads_far (p := ⟨w.heap.size, 5, none⟩) (reads_far (p := ⟨w.heap.size, 4, none⟩) (reads_far (p := ⟨w.heap.size, 3, none⟩) (reads_far (p := ⟨w.heap.size, 7, none⟩) (reads_far (p := ⟨w.heap.size, 2, none⟩) (reads_far (p := ⟨w.heap.size, 1, none⟩) (reads_far (p := ⟨w.heap.size, 0, none⟩) HS.out (fun ad e => by have := UV.out.2 ad e; simp; omega) (.slice hA n hc)) (fun ad e => by have := UV.out.2 ad e; simp; omega) (.slice B1 n d1)) (fun ad e => by have := UV.out.2 ad e; simp; omega) (.int .u32 i)) (fun ad e => by have := UV.out.2 ad e; simp; omega) (.bool true)) (fun ad e => by have := UV.out.2 ad e; simp; omega) (.int .u32 i)) (fun ad e => by have := UV.out.2 ad e; simp; omega) (.int .u32 0)) (fun ad e => by have := UV.out.2 ad e; simp; omega) (.slice none 0 0)) (.cells #[.slice hA n hc, .slice B1 n d1] 32)
  obtain ⟨W5, hW5⟩ : ∃ W5, ((((((((w1.setCell ⟨w.heap.size, 0, none⟩ (.slice hA n hc)).setCell ⟨w.heap.size, 1, none⟩ (.slice B1 n d1)).setCell ⟨w.heap.size, 2, none⟩ (.int .u32 i)).setCell ⟨w.heap.size, 7, none⟩ (.bool true)).setCell ⟨w.heap.size, 3, none⟩ (.int .u32 i)).setCell ⟨w.heap.size, 4, none⟩ (.int .u32 0)).setCell ⟨w.heap.size, 5, none⟩ (.slice none 0 0)).alloc (.cells #[.slice hA n hc, .slice B1 n d1] 32)) = W5 := ⟨_, rfl⟩
  rw [hW5] at T1 T2 BM s5  ⊢
  clear hW5 f0 f1 f2 f3 f4 f5 f6 f7 e0 e1 e2 e3 e4 e5 e6 e7
  have e0 : W5.cell? ⟨w.heap.size, 0, none⟩ = some (.slice hA n hc) := T1.cell 0
  have e1 : W5.cell? ⟨w.heap.size, 1, none⟩ = some (.slice B1 n d1) := T1.cell 1
  have e2 : W5.cell? ⟨w.heap.size, 2, none⟩ = some (.int .u32 i) := T1.cell 2
  have e3 : W5.cell? ⟨w.heap.size, 3, none⟩ = some (.int .u32 i) := T1.cell 3
  have e4 : W5.cell? ⟨w.heap.size, 4, none⟩ = some (.int .u32 0) := T1.cell 4
  have e5 : W5.cell? ⟨w.heap.size, 5, none⟩ = some (.slice none 0 0) := T1.cell 5
  have e6 : W5.cell? ⟨w.heap.size, 6, none⟩ = some (.slice hD r hf) := T1.cell 6
  have e7 : W5.cell? ⟨w.heap.size, 7, none⟩ = some (.bool true) := T1.cell 7
  have k0 : W5.cell? ⟨w.heap.size + 1, 0, none⟩ = some (.slice none 0 0) := T2.cell 0
  have g0 := T2.frozen 0
  have k1 : W5.cell? ⟨w.heap.size + 1, 1, none⟩ = some (.slice none 0 0) := T2.cell 1
  have g1 := T2.frozen 1
  have k2 : W5.cell? ⟨w.heap.size + 1, 2, none⟩ = some (.int .u32 0) := T2.cell 2
  have g2 := T2.frozen 2
  have k3 : W5.cell? ⟨w.heap.size + 1, 3, none⟩ = some (.int .u32 0) := T2.cell 3
  have g3 := T2.frozen 3
  have k4 : W5.cell? ⟨w.heap.size + 1, 4, none⟩ = some (.int .u32 0) := T2.cell 4
  have g4 := T2.frozen 4
  have k5 : W5.cell? ⟨w.heap.size + 1, 5, none⟩ = some (.slice none 0 0) := T2.cell 5
  have g5 := T2.frozen 5
  have k6 : W5.cell? ⟨w.heap.size + 1, 6, none⟩ = some (.slice none 0 0) := T2.cell 6
  have g6 := T2.frozen 6
  have k7 : W5.cell? ⟨w.heap.size + 1, 7, none⟩ = some (.bool false) := T2.cell 7
  have g7 := T2.frozen 7
  have z3 := T2.lt
  have HX := Lib.hid (And.intro T2 (And.intro BM (And.intro s5 trivial)))
  clear T1 T2 BM s5 
  go_region
  go_wp2
  have BZ := ((((((((HX.out.2.1.setCell (p := ⟨w.heap.size + 1, 0, none⟩) (by simp) (.slice hA n hc)).setCell (p := ⟨w.heap.size + 1, 1, none⟩) (by simp) (.slice B1 n d1)).setCell (p := ⟨w.heap.size + 1, 2, none⟩) (by simp) (.int .u32 i)).setCell (p := ⟨w.heap.size + 1, 3, none⟩) (by simp) (.int .u32 i)).setCell (p := ⟨w.heap.size + 1, 4, none⟩) (by simp) (.int .u32 0)).setCell (p := ⟨w.heap.size + 1, 5, none⟩) (by simp) (.slice none 0 0)).setCell (p := ⟨w.heap.size + 1, 6, none⟩) (by simp) (.slice hD r hf)).setCell (p := ⟨w.heap.size + 1, 7, none⟩) (by simp) (.bool true)).drew
  have TZ := ((((((((HX.out.1).set_ 0 (.slice hA n hc)).set_ 1 (.slice B1 n d1)).set_ 2 (.int .u32 i)).set_ 3 (.int .u32 i)).set_ 4 (.int .u32 0)).set_ 5 (.slice none 0 0)).set_ 6 (.slice hD r hf)).set_ 7 (.bool true)
  simp only [List.setIfInBounds_toArray, List.set_cons_zero, List.set_cons_succ] at TZ
  have TZ := blk_drew TZ
  have S9 := (reads_far (p := ⟨w.heap.size + 1, 7, none⟩) (reads_far (p := ⟨w.heap.size + 1, 6, none⟩) (reads_far (p := ⟨w.heap.size + 1, 5, none⟩) (reads_far (p := ⟨w.heap.size + 1, 4, none⟩) (reads_far (p := ⟨w.heap.size + 1, 3, none⟩) (reads_far (p := ⟨w.heap.size + 1, 2, none⟩) (reads_far (p := ⟨w.heap.size + 1, 1, none⟩) (reads_far (p := ⟨w.heap.size + 1, 0, none⟩) HX.out.2.2.1 (fun ad e => by have := UV.out.2 ad e; simp; omega) (.slice hA n hc)) (fun ad e => by have := UV.out.2 ad e; simp; omega) (.slice B1 n d1)) (fun ad e => by have := UV.out.2 ad e; simp; omega) (.int .u32 i)) (fun ad e => by have := UV.out.2 ad e; simp; omega) (.int .u32 i)) (fun ad e => by have := UV.out.2 ad e; simp; omega) (.int .u32 0)) (fun ad e => by have := UV.out.2 ad e; simp; omega) (.slice none 0 0)) (fun ad e => by have := UV.out.2 ad e; simp; omega) (.slice hD r hf)) (fun ad e => by have := UV.out.2 ad e; simp; omega) (.bool true))
  have S9 := reads_drew S9
  have R9 := (HI.out.r1.below BZ).more BZ.size
  refine hnext_end (h := ⟨hA, n, hc, B1, d1, i, i, 0, none, 0, 0, hD, r, hf, true⟩) (R := w.heap.size + 1) (v := .int .i64 0) ?_ (by simp) (by simp) ?_
  · exact TZ
  · exact ⟨⟨hA, n, hc, B1, d1, i, i, 0, none, 0, 0, hD, r, hf, true⟩, rfl, rfl, rfl, rfl, rfl, rfl, rfl, rfl, rfl, ⟨R9, S9, HI.out.c1, q2, reads_none _, Nat.le_refl _⟩, BZ, fun ad e => .inl e, fun ad e => .inr (by have := UV.out.2 ad e; omega)⟩
end
end Go.Proofs.Ytdimkeoncgjegaa
/-
  Heap: the reference's H: next, where a page is free and one was begun.
-/
namespace Go.Proofs.Ytdimkeoncgjegaa
section
set_option linter.unusedSimpArgs false
set_option linter.unusedVariables false
open Go.RowKit Go.Maps

set_option maxRecDepth 100000 in
set_option maxHeartbeats 16000000 in
theorem hnext_free1 {w : World} {h : Hh} {ps : List (List UInt8)} {T : List Bool} {rs : List (List UInt8)} (hi : HhIn w h ps T rs) (hn : h.n ≤ 10000) (i : Nat) (hti : T[i]? = some false) (hj : ∀ j : Nat, j < i → T[j]? = some true) (hbg : h.began = true) (hp : h.at_ < h.n) (hft : Fits rs) (hx : i < 4294967296) :
    Calls Try.prog 29 #[.agg h.arr] w (RetNy w h i h.first (ps.set h.at_ (layL i rs)) ((T.set i true).set h.at_ true)) := by
  obtain ⟨hA, n, hc, hB, hd, fi, at_, nx, hC, k, he, hD, r, hf, bg⟩ := h
  unfold Hh.arr
  dsimp only at hn hbg hp ⊢
  subst hbg
  have HB0 : Hid (Blk ((w.alloc (.cells #[.slice hA n hc, .slice hB n hd, .int .u32 fi, .int .u32 at_, .int .u32 nx, .slice hC k he, .slice hD r hf, .bool true] 43)).alloc (.cells #[.slice none 0 0, .slice none 0 0, .int .u32 0, .int .u32 0, .int .u32 0, .slice none 0 0, .slice none 0 0, .bool false] 43)) w.heap.size 43 #[.slice hA n hc, .slice hB n hd, .int .u32 fi, .int .u32 at_, .int .u32 nx, .slice hC k he, .slice hD r hf, .bool true] ∧ Blk ((w.alloc (.cells #[.slice hA n hc, .slice hB n hd, .int .u32 fi, .int .u32 at_, .int .u32 nx, .slice hC k he, .slice hD r hf, .bool true] 43)).alloc (.cells #[.slice none 0 0, .slice none 0 0, .int .u32 0, .int .u32 0, .int .u32 0, .slice none 0 0, .slice none 0 0, .bool false] 43)) (w.heap.size + 1) 43 #[.slice none 0 0, .slice none 0 0, .int .u32 0, .int .u32 0, .int .u32 0, .slice none 0 0, .slice none 0 0, .bool false] ∧ Below w.heap.size w ((w.alloc (.cells #[.slice hA n hc, .slice hB n hd, .int .u32 fi, .int .u32 at_, .int .u32 nx, .slice hC k he, .slice hD r hf, .bool true] 43)).alloc (.cells #[.slice none 0 0, .slice none 0 0, .int .u32 0, .int .u32 0, .int .u32 0, .slice none 0 0, .slice none 0 0, .bool false] 43))) := Lib.hid ⟨(Blk.newAt rfl).alloc _, Blk.newAt (by simp), ball (ball (Below.refl _ _) _) _⟩
  have HI := Lib.hid hi
  clear hi
  go_enter Try.func29, Try.ntmps29
  go_wp2_with fail
  obtain ⟨W0, hW0⟩ : ∃ W0, ((w.alloc (.cells #[.slice hA n hc, .slice hB n hd, .int .u32 fi, .int .u32 at_, .int .u32 nx, .slice hC k he, .slice hD r hf, .bool true] 43)).alloc (.cells #[.slice none 0 0, .slice none 0 0, .int .u32 0, .int .u32 0, .int .u32 0, .slice none 0 0, .slice none 0 0, .bool false] 43)) = W0 := ⟨_, rfl⟩
  have hW0s : W0.heap.size = w.heap.size + 1 + 1 := by rw [← hW0]; simp
  have HWs := Lib.hid hW0s
  have hWlt : w.heap.size + 1 < W0.heap.size := by omega
  clear hW0s
  rw [hW0] at HB0
  rw [hW0]
  clear hW0
  have p0 : W0.cell? ⟨w.heap.size, 0, none⟩ = some (.slice hA n hc) := HB0.out.1.cell 0
  have f0 := HB0.out.1.frozen 0
  have p1 : W0.cell? ⟨w.heap.size, 1, none⟩ = some (.slice hB n hd) := HB0.out.1.cell 1
  have f1 := HB0.out.1.frozen 1
  have TK : Hid (∀ W, Below W0.heap.size W0 W → Calls Try.prog 51 #[.agg #[.slice hA n hc, .slice hB n hd]] W (RetTk W hA n hc i (T.set i true))) := Lib.hid fun W hW => rTake_at (n := n) hA hc hB hd T ((HI.out.r2.below (bto0 HB0.out.2.2 hW)).more (bto0 HB0.out.2.2 hW).size) (by omega) i hti hj
  have WT : Hid (∀ W B d, HhIn W ⟨hA, n, hc, B, d, fi, at_, i, hC, k, he, hD, r, hf, true⟩ ps (T.set i true) rs → Calls Try.prog 31 #[.agg #[.slice hA n hc, .slice B n d, .int .u32 fi, .int .u32 at_, .int .u32 i, .slice hC k he, .slice hD r hf, .bool true]] W (RetHw W ⟨hA, n, hc, B, d, fi, at_, i, hC, k, he, hD, r, hf, true⟩ ps (T.set i true) rs)) := Lib.hid fun W B d hh => hwrite_any (h := ⟨hA, n, hc, B, d, fi, at_, i, hC, k, he, hD, r, hf, true⟩) hh hp hn hft hx
  clear hj hti hp hft hx f0 f1
  go_wp2_with (first | (go_at_call 51; (with_reducible refine (TK.out _ (by with_reducible repeat (first | exact Below.refl _ _ | refine bdr ?_ _ | refine Below.drew ?_ | refine ball ?_ _))).mono ?_); rintro e w1 ⟨B1, d1, rfl, s1, q2, m1, hb1⟩; have T1 := HB0.out.1.below hb1 HB0.out.1.lt; have T2 := HB0.out.2.1.below hb1 HB0.out.2.1.lt; have z1 := T1.lt; have z2 := T2.lt; have e0 : w1.cell? ⟨w.heap.size, 0, none⟩ = some (.slice hA n hc) := T1.cell 0; have f0 := T1.frozen 0; have e1 : w1.cell? ⟨w.heap.size, 1, none⟩ = some (.slice hB n hd) := T1.cell 1; have f1 := T1.frozen 1; have e2 : w1.cell? ⟨w.heap.size, 2, none⟩ = some (.int .u32 fi) := T1.cell 2; have f2 := T1.frozen 2; have e3 : w1.cell? ⟨w.heap.size, 3, none⟩ = some (.int .u32 at_) := T1.cell 3; have f3 := T1.frozen 3; have e4 : w1.cell? ⟨w.heap.size, 4, none⟩ = some (.int .u32 nx) := T1.cell 4; have f4 := T1.frozen 4; have e5 : w1.cell? ⟨w.heap.size, 5, none⟩ = some (.slice hC k he) := T1.cell 5; have f5 := T1.frozen 5; have e6 : w1.cell? ⟨w.heap.size, 6, none⟩ = some (.slice hD r hf) := T1.cell 6; have f6 := T1.frozen 6; have e7 : w1.cell? ⟨w.heap.size, 7, none⟩ = some (.bool true) := T1.cell 7; have f7 := T1.frozen 7; have u1 : ∀ ad, B1 = some ad → w.heap.size + 1 < ad.block := fun ad e => (by have h1 := m1 ad e; have h2 := HB0.out.2.1.lt; (try simp at h1); omega); have UV := Lib.hid (And.intro u1 u1); have HS := Lib.hid s1; have HZ := Lib.hid (And.intro T1 T2); clear T1 T2 s1 u1 m1; have P3 := ((((HZ.out.1).set_ 0 (.slice hA n hc)).set_ 1 (.slice B1 n d1)).set_ 4 (.int .u32 i)).alloc (.cells #[.slice hA n hc, .slice B1 n d1] 32); simp only [List.setIfInBounds_toArray, List.set_cons_zero, List.set_cons_succ] at P3; have Q3 := ((((HZ.out.2).far (p := ⟨w.heap.size, 0, none⟩) (by simp) (.slice hA n hc)).far (p := ⟨w.heap.size, 1, none⟩) (by simp) (.slice B1 n d1)).far (p := ⟨w.heap.size, 4, none⟩) (by simp) (.int .u32 i)).alloc (.cells #[.slice hA n hc, .slice B1 n d1] 32); have B3 := ball ((((bto0 HB0.out.2.2 hb1).setCell (p := ⟨w.heap.size, 0, none⟩) (Nat.le_refl _) (.slice hA n hc)).setCell (p := ⟨w.heap.size, 1, none⟩) (Nat.le_refl _) (.slice B1 n d1)).setCell (p := ⟨w.heap.size, 4, none⟩) (Nat.le_refl _) (.int .u32 i)) (.cells #[.slice hA n hc, .slice B1 n d1] 32); have R3 := reads_alloc (reads_far (p := ⟨w.heap.size, 4, none⟩) (reads_far (p := ⟨w.heap.size, 1, none⟩) (reads_far (p := ⟨w.heap.size, 0, none⟩) HS.out (fun ad e => by have := UV.out.2 ad e; simp; omega) (.slice hA n hc)) (fun ad e => by have := UV.out.2 ad e; simp; omega) (.slice B1 n d1)) (fun ad e => by have := UV.out.2 ad e; simp; omega) (.int .u32 i)) (.cells #[.slice hA n hc, .slice B1 n d1] 32); have HH3 := Lib.hid (show HhIn ((((w1.setCell ⟨w.heap.size, 0, none⟩ (.slice hA n hc)).setCell ⟨w.heap.size, 1, none⟩ (.slice B1 n d1)).setCell ⟨w.heap.size, 4, none⟩ (.int .u32 i)).alloc (.cells #[.slice hA n hc, .slice B1 n d1] 32)) ⟨hA, n, hc, B1, d1, fi, at_, i, hC, k, he, hD, r, hf, true⟩ ps (T.set i true) rs from ⟨(HI.out.r1.below B3).more B3.size, R3, HI.out.c1, q2, (HI.out.r3.below B3).more B3.size, HI.out.c3⟩); have t0 : ((((w1.setCell ⟨w.heap.size, 0, none⟩ (.slice hA n hc)).setCell ⟨w.heap.size, 1, none⟩ (.slice B1 n d1)).setCell ⟨w.heap.size, 4, none⟩ (.int .u32 i)).alloc (.cells #[.slice hA n hc, .slice B1 n d1] 32)).cell? ⟨w.heap.size, 0, none⟩ = some (.slice hA n hc) := P3.cell 0; have t1 : ((((w1.setCell ⟨w.heap.size, 0, none⟩ (.slice hA n hc)).setCell ⟨w.heap.size, 1, none⟩ (.slice B1 n d1)).setCell ⟨w.heap.size, 4, none⟩ (.int .u32 i)).alloc (.cells #[.slice hA n hc, .slice B1 n d1] 32)).cell? ⟨w.heap.size, 1, none⟩ = some (.slice B1 n d1) := P3.cell 1; have t2 : ((((w1.setCell ⟨w.heap.size, 0, none⟩ (.slice hA n hc)).setCell ⟨w.heap.size, 1, none⟩ (.slice B1 n d1)).setCell ⟨w.heap.size, 4, none⟩ (.int .u32 i)).alloc (.cells #[.slice hA n hc, .slice B1 n d1] 32)).cell? ⟨w.heap.size, 2, none⟩ = some (.int .u32 fi) := P3.cell 2; have t3 : ((((w1.setCell ⟨w.heap.size, 0, none⟩ (.slice hA n hc)).setCell ⟨w.heap.size, 1, none⟩ (.slice B1 n d1)).setCell ⟨w.heap.size, 4, none⟩ (.int .u32 i)).alloc (.cells #[.slice hA n hc, .slice B1 n d1] 32)).cell? ⟨w.heap.size, 3, none⟩ = some (.int .u32 at_) := P3.cell 3; have t4 : ((((w1.setCell ⟨w.heap.size, 0, none⟩ (.slice hA n hc)).setCell ⟨w.heap.size, 1, none⟩ (.slice B1 n d1)).setCell ⟨w.heap.size, 4, none⟩ (.int .u32 i)).alloc (.cells #[.slice hA n hc, .slice B1 n d1] 32)).cell? ⟨w.heap.size, 4, none⟩ = some (.int .u32 i) := P3.cell 4; have t5 : ((((w1.setCell ⟨w.heap.size, 0, none⟩ (.slice hA n hc)).setCell ⟨w.heap.size, 1, none⟩ (.slice B1 n d1)).setCell ⟨w.heap.size, 4, none⟩ (.int .u32 i)).alloc (.cells #[.slice hA n hc, .slice B1 n d1] 32)).cell? ⟨w.heap.size, 5, none⟩ = some (.slice hC k he) := P3.cell 5; have t6 : ((((w1.setCell ⟨w.heap.size, 0, none⟩ (.slice hA n hc)).setCell ⟨w.heap.size, 1, none⟩ (.slice B1 n d1)).setCell ⟨w.heap.size, 4, none⟩ (.int .u32 i)).alloc (.cells #[.slice hA n hc, .slice B1 n d1] 32)).cell? ⟨w.heap.size, 6, none⟩ = some (.slice hD r hf) := P3.cell 6; have t7 : ((((w1.setCell ⟨w.heap.size, 0, none⟩ (.slice hA n hc)).setCell ⟨w.heap.size, 1, none⟩ (.slice B1 n d1)).setCell ⟨w.heap.size, 4, none⟩ (.int .u32 i)).alloc (.cells #[.slice hA n hc, .slice B1 n d1] 32)).cell? ⟨w.heap.size, 7, none⟩ = some (.bool true) := P3.cell 7; have HV := Lib.hid (And.intro P3 (And.intro Q3 B3)); clear P3 Q3 B3 R3) | (go_at_call 31; (with_reducible refine (WT.out _ _ _ HH3.out).mono ?_); intro e w4 H4; obtain ⟨A4, c4, B4, d4, rfl, q1, q4, r4, s4, l4, m4, hb4⟩ := H4.out; dsimp only at q1 q4 r4 s4; dsimp only; clear H4; have y4 : w1.heap.size < w4.heap.size := by {have := hb4.size; simp at this; omega}; have T1 := HV.out.1.below hb4 HV.out.1.lt; have T2 := HV.out.2.1.below hb4 HV.out.2.1.lt; clear e0 e1 e2 e3 e4 e5 e6 e7 t0 t1 t2 t3 t4 t5 t6 t7 f0 f1 f2 f3 f4 f5 f6 f7; have u4 : ∀ ad, A4 = some ad → w.heap.size + 1 < ad.block := fun ad e => (by have h1 := l4 ad e; simp at h1; omega); have v4 : ∀ ad, B4 = some ad → w.heap.size + 1 < ad.block := fun ad e => (by have h1 := m4 ad e; simp at h1; omega); have BW := bto0 HV.out.2.2 hb4; have f0 := T1.frozen 0; have f1 := T1.frozen 1; have f2 := T1.frozen 2; have f3 := T1.frozen 3; have f4 := T1.frozen 4; have f5 := T1.frozen 5; have f6 := T1.frozen 6; have f7 := T1.frozen 7; have e0 : w4.cell? ⟨w.heap.size, 0, none⟩ = some (.slice hA n hc) := T1.cell 0; have e1 : w4.cell? ⟨w.heap.size, 1, none⟩ = some (.slice B1 n d1) := T1.cell 1; have e2 : w4.cell? ⟨w.heap.size, 2, none⟩ = some (.int .u32 fi) := T1.cell 2; have e3 : w4.cell? ⟨w.heap.size, 3, none⟩ = some (.int .u32 at_) := T1.cell 3; have e4 : w4.cell? ⟨w.heap.size, 4, none⟩ = some (.int .u32 i) := T1.cell 4; have e5 : w4.cell? ⟨w.heap.size, 5, none⟩ = some (.slice hC k he) := T1.cell 5; have e6 : w4.cell? ⟨w.heap.size, 6, none⟩ = some (.slice hD r hf) := T1.cell 6; have e7 : w4.cell? ⟨w.heap.size, 7, none⟩ = some (.bool true) := T1.cell 7; have HY := Lib.hid (And.intro T1 (And.intro T2 BW)); have HR := Lib.hid (And.intro r4 s4); have UV := Lib.hid (And.intro u4 v4); clear T1 T2 BW r4 s4 u4 v4 l4 m4))
  have T1 := ((((((((((((HY.out.1).set_ 0 (.slice A4 n c4)).set_ 1 (.slice B4 n d4)).set_ 2 (.int .u32 fi)).set_ 3 (.int .u32 at_)).set_ 4 (.int .u32 i)).set_ 5 (.slice hC k he)).set_ 6 (.slice hD r hf)).set_ 7 (.bool true)).set_ 7 (.bool true)).set_ 3 (.int .u32 i)).set_ 4 (.int .u32 0)).set_ 5 (.slice none 0 0)
  simp only [List.setIfInBounds_toArray, List.set_cons_zero, List.set_cons_succ] at T1
  have T2 := ((((((((((((HY.out.2.1).far (p := ⟨w.heap.size, 0, none⟩) (by simp) (.slice A4 n c4)).far (p := ⟨w.heap.size, 1, none⟩) (by simp) (.slice B4 n d4)).far (p := ⟨w.heap.size, 2, none⟩) (by simp) (.int .u32 fi)).far (p := ⟨w.heap.size, 3, none⟩) (by simp) (.int .u32 at_)).far (p := ⟨w.heap.size, 4, none⟩) (by simp) (.int .u32 i)).far (p := ⟨w.heap.size, 5, none⟩) (by simp) (.slice hC k he)).far (p := ⟨w.heap.size, 6, none⟩) (by simp) (.slice hD r hf)).far (p := ⟨w.heap.size, 7, none⟩) (by simp) (.bool true)).far (p := ⟨w.heap.size, 7, none⟩) (by simp) (.bool true)).far (p := ⟨w.heap.size, 3, none⟩) (by simp) (.int .u32 i)).far (p := ⟨w.heap.size, 4, none⟩) (by simp) (.int .u32 0)).far (p := ⟨w.heap.size, 5, none⟩) (by simp) (.slice none 0 0)
  have BM := ((((((((((((HY.out.2.2.setCell (p := ⟨w.heap.size, 0, none⟩) (Nat.le_refl _) (.slice A4 n c4)).setCell (p := ⟨w.heap.size, 1, none⟩) (Nat.le_refl _) (.slice B4 n d4)).setCell (p := ⟨w.heap.size, 2, none⟩) (Nat.le_refl _) (.int .u32 fi)).setCell (p := ⟨w.heap.size, 3, none⟩) (Nat.le_refl _) (.int .u32 at_)).setCell (p := ⟨w.heap.size, 4, none⟩) (Nat.le_refl _) (.int .u32 i)).setCell (p := ⟨w.heap.size, 5, none⟩) (Nat.le_refl _) (.slice hC k he)).setCell (p := ⟨w.heap.size, 6, none⟩) (Nat.le_refl _) (.slice hD r hf)).setCell (p := ⟨w.heap.size, 7, none⟩) (Nat.le_refl _) (.bool true)).setCell (p := ⟨w.heap.size, 7, none⟩) (Nat.le_refl _) (.bool true)).setCell (p := ⟨w.heap.size, 3, none⟩) (Nat.le_refl _) (.int .u32 i)).setCell (p := ⟨w.heap.size, 4, none⟩) (Nat.le_refl _) (.int .u32 0)).setCell (p := ⟨w.heap.size, 5, none⟩) (Nat.le_refl _) (.slice none 0 0))
  have s5 := (reads_far (p := ⟨w.heap.size, 5, none⟩) (reads_far (p := ⟨w.heap.size, 4, none⟩) (reads_far (p := ⟨w.heap.size, 3, none⟩) (reads_far (p := ⟨w.heap.size, 7, none⟩) (reads_far (p := ⟨w.heap.size, 7, none⟩) (reads_far (p := ⟨w.heap.size, 6, none⟩) (reads_far (p := ⟨w.heap.size, 5, none⟩) (reads_far (p := ⟨w.heap.size, 4, none⟩) (reads_far (p := ⟨w.heap.size, 3, none⟩) (reads_far (p := ⟨w.heap.size, 2, none⟩) (reads_far (p := ⟨w.heap.size, 1, none⟩) (reads_far (p := ⟨w.heap.size, 0, none⟩) HR.out.2 (fun ad e => by have := UV.out.2 ad e; simp; omega) (.slice A4 n c4)) (fun ad e => by have := UV.out.2 ad e; simp; omega) (.slice B4 n d4)) (fun ad e => by have := UV.out.2 ad e; simp; omega) (.int .u32 fi)) (fun ad e => by have := UV.out.2 ad e; simp; omega) (.int .u32 at_)) (fun ad e => by have := UV.out.2 ad e; simp; omega) (.int .u32 i)) (fun ad e => by have := UV.out.2 ad e; simp; omega) (.slice hC k he)) (fun ad e => by have := UV.out.2 ad e; simp; omega) (.slice hD r hf)) (fun ad e => by have := UV.out.2 ad e; simp; omega) (.bool true)) (fun ad e => by have := UV.out.2 ad e; simp; omega) (.bool true)) (fun ad e => by have := UV.out.2 ad e; simp; omega) (.int .u32 i)) (fun ad e => by have := UV.out.2 ad e; simp; omega) (.int .u32 0)) (fun ad e => by have := UV.out.2 ad e; simp; omega) (.slice none 0 0))
  have r5 := (reads_far (p := ⟨w.heap.size, 5, none⟩) (reads_far (p := ⟨w.heap.size, 4, none⟩) (reads_far (p := ⟨w.heap.size, 3, none⟩) (reads_far (p := ⟨w.heap.size, 7, none⟩) (reads_far (p := ⟨w.heap.size, 7, none⟩) (reads_far (p := ⟨w.heap.size, 6, none⟩) (reads_far (p := ⟨w.heap.size, 5, none⟩) (reads_far (p := ⟨w.heap.size, 4, none⟩) (reads_far (p := ⟨w.heap.size, 3, none⟩) (reads_far (p := ⟨w.heap.size, 2, none⟩) (reads_far (p := ⟨w.heap.size, 1, none⟩) (reads_far (p := ⟨w.heap.size, 0, none⟩) HR.out.1 (fun ad e => by have := UV.out.1 ad e; simp; omega) (.slice A4 n c4)) (fun ad e => by have := UV.out.1 ad e; simp; omega) (.slice B4 n d4)) (fun ad e => by have := UV.out.1 ad e; simp; omega) (.int .u32 fi)) (fun ad e => by have := UV.out.1 ad e; simp; omega) (.int .u32 at_)) (fun ad e => by have := UV.out.1 ad e; simp; omega) (.int .u32 i)) (fun ad e => by have := UV.out.1 ad e; simp; omega) (.slice hC k he)) (fun ad e => by have := UV.out.1 ad e; simp; omega) (.slice hD r hf)) (fun ad e => by have := UV.out.1 ad e; simp; omega) (.bool true)) (fun ad e => by have := UV.out.1 ad e; simp; omega) (.bool true)) (fun ad e => by have := UV.out.1 ad e; simp; omega) (.int .u32 i)) (fun ad e => by have := UV.out.1 ad e; simp; omega) (.int .u32 0)) (fun ad e => by have := UV.out.1 ad e; simp; omega) (.slice none 0 0))
  obtain ⟨W5, hW5⟩ : ∃ W5, ((((((((((((w4.setCell ⟨w.heap.size, 0, none⟩ (.slice A4 n c4)).setCell ⟨w.heap.size, 1, none⟩ (.slice B4 n d4)).setCell ⟨w.heap.size, 2, none⟩ (.int .u32 fi)).setCell ⟨w.heap.size, 3, none⟩ (.int .u32 at_)).setCell ⟨w.heap.size, 4, none⟩ (.int .u32 i)).setCell ⟨w.heap.size, 5, none⟩ (.slice hC k he)).setCell ⟨w.heap.size, 6, none⟩ (.slice hD r hf)).setCell ⟨w.heap.size, 7, none⟩ (.bool true)).setCell ⟨w.heap.size, 7, none⟩ (.bool true)).setCell ⟨w.heap.size, 3, none⟩ (.int .u32 i)).setCell ⟨w.heap.size, 4, none⟩ (.int .u32 0)).setCell ⟨w.heap.size, 5, none⟩ (.slice none 0 0)) = W5 := ⟨_, rfl⟩
  rw [hW5] at T1 T2 BM s5 r5 ⊢
  clear hW5 f0 f1 f2 f3 f4 f5 f6 f7 e0 e1 e2 e3 e4 e5 e6 e7
  have e0 : W5.cell? ⟨w.heap.size, 0, none⟩ = some (.slice A4 n c4) := T1.cell 0
  have e1 : W5.cell? ⟨w.heap.size, 1, none⟩ = some (.slice B4 n d4) := T1.cell 1
  have e2 : W5.cell? ⟨w.heap.size, 2, none⟩ = some (.int .u32 fi) := T1.cell 2
  have e3 : W5.cell? ⟨w.heap.size, 3, none⟩ = some (.int .u32 i) := T1.cell 3
  have e4 : W5.cell? ⟨w.heap.size, 4, none⟩ = some (.int .u32 0) := T1.cell 4
  have e5 : W5.cell? ⟨w.heap.size, 5, none⟩ = some (.slice none 0 0) := T1.cell 5
  have e6 : W5.cell? ⟨w.heap.size, 6, none⟩ = some (.slice hD r hf) := T1.cell 6
  have e7 : W5.cell? ⟨w.heap.size, 7, none⟩ = some (.bool true) := T1.cell 7
  have k0 : W5.cell? ⟨w.heap.size + 1, 0, none⟩ = some (.slice none 0 0) := T2.cell 0
  have g0 := T2.frozen 0
  have k1 : W5.cell? ⟨w.heap.size + 1, 1, none⟩ = some (.slice none 0 0) := T2.cell 1
  have g1 := T2.frozen 1
  have k2 : W5.cell? ⟨w.heap.size + 1, 2, none⟩ = some (.int .u32 0) := T2.cell 2
  have g2 := T2.frozen 2
  have k3 : W5.cell? ⟨w.heap.size + 1, 3, none⟩ = some (.int .u32 0) := T2.cell 3
  have g3 := T2.frozen 3
  have k4 : W5.cell? ⟨w.heap.size + 1, 4, none⟩ = some (.int .u32 0) := T2.cell 4
  have g4 := T2.frozen 4
  have k5 : W5.cell? ⟨w.heap.size + 1, 5, none⟩ = some (.slice none 0 0) := T2.cell 5
  have g5 := T2.frozen 5
  have k6 : W5.cell? ⟨w.heap.size + 1, 6, none⟩ = some (.slice none 0 0) := T2.cell 6
  have g6 := T2.frozen 6
  have k7 : W5.cell? ⟨w.heap.size + 1, 7, none⟩ = some (.bool false) := T2.cell 7
  have g7 := T2.frozen 7
  have z3 := T2.lt
  have HX := Lib.hid (And.intro T2 (And.intro BM (And.intro s5 r5)))
  clear T1 T2 BM s5 r5
  go_region
  go_wp2
  have BZ := ((((((((HX.out.2.1.setCell (p := ⟨w.heap.size + 1, 0, none⟩) (by simp) (.slice A4 n c4)).setCell (p := ⟨w.heap.size + 1, 1, none⟩) (by simp) (.slice B4 n d4)).setCell (p := ⟨w.heap.size + 1, 2, none⟩) (by simp) (.int .u32 fi)).setCell (p := ⟨w.heap.size + 1, 3, none⟩) (by simp) (.int .u32 i)).setCell (p := ⟨w.heap.size + 1, 4, none⟩) (by simp) (.int .u32 0)).setCell (p := ⟨w.heap.size + 1, 5, none⟩) (by simp) (.slice none 0 0)).setCell (p := ⟨w.heap.size + 1, 6, none⟩) (by simp) (.slice hD r hf)).setCell (p := ⟨w.heap.size + 1, 7, none⟩) (by simp) (.bool true)).drew
  have TZ := ((((((((HX.out.1).set_ 0 (.slice A4 n c4)).set_ 1 (.slice B4 n d4)).set_ 2 (.int .u32 fi)).set_ 3 (.int .u32 i)).set_ 4 (.int .u32 0)).set_ 5 (.slice none 0 0)).set_ 6 (.slice hD r hf)).set_ 7 (.bool true)
  simp only [List.setIfInBounds_toArray, List.set_cons_zero, List.set_cons_succ] at TZ
  have TZ := blk_drew TZ
  have S9 := (reads_far (p := ⟨w.heap.size + 1, 7, none⟩) (reads_far (p := ⟨w.heap.size + 1, 6, none⟩) (reads_far (p := ⟨w.heap.size + 1, 5, none⟩) (reads_far (p := ⟨w.heap.size + 1, 4, none⟩) (reads_far (p := ⟨w.heap.size + 1, 3, none⟩) (reads_far (p := ⟨w.heap.size + 1, 2, none⟩) (reads_far (p := ⟨w.heap.size + 1, 1, none⟩) (reads_far (p := ⟨w.heap.size + 1, 0, none⟩) HX.out.2.2.1 (fun ad e => by have := UV.out.2 ad e; simp; omega) (.slice A4 n c4)) (fun ad e => by have := UV.out.2 ad e; simp; omega) (.slice B4 n d4)) (fun ad e => by have := UV.out.2 ad e; simp; omega) (.int .u32 fi)) (fun ad e => by have := UV.out.2 ad e; simp; omega) (.int .u32 i)) (fun ad e => by have := UV.out.2 ad e; simp; omega) (.int .u32 0)) (fun ad e => by have := UV.out.2 ad e; simp; omega) (.slice none 0 0)) (fun ad e => by have := UV.out.2 ad e; simp; omega) (.slice hD r hf)) (fun ad e => by have := UV.out.2 ad e; simp; omega) (.bool true))
  have S9 := reads_drew S9
  have R9 := (reads_far (p := ⟨w.heap.size + 1, 7, none⟩) (reads_far (p := ⟨w.heap.size + 1, 6, none⟩) (reads_far (p := ⟨w.heap.size + 1, 5, none⟩) (reads_far (p := ⟨w.heap.size + 1, 4, none⟩) (reads_far (p := ⟨w.heap.size + 1, 3, none⟩) (reads_far (p := ⟨w.heap.size + 1, 2, none⟩) (reads_far (p := ⟨w.heap.size + 1, 1, none⟩) (reads_far (p := ⟨w.heap.size + 1, 0, none⟩) HX.out.2.2.2 (fun ad e => by have := UV.out.1 ad e; simp; omega) (.slice A4 n c4)) (fun ad e => by have := UV.out.1 ad e; simp; omega) (.slice B4 n d4)) (fun ad e => by have := UV.out.1 ad e; simp; omega) (.int .u32 fi)) (fun ad e => by have := UV.out.1 ad e; simp; omega) (.int .u32 i)) (fun ad e => by have := UV.out.1 ad e; simp; omega) (.int .u32 0)) (fun ad e => by have := UV.out.1 ad e; simp; omega) (.slice none 0 0)) (fun ad e => by have := UV.out.1 ad e; simp; omega) (.slice hD r hf)) (fun ad e => by have := UV.out.1 ad e; simp; omega) (.bool true))
  have R9 := reads_drew R9
  refine hnext_end (h := ⟨A4, n, c4, B4, d4, fi, i, 0, none, 0, 0, hD, r, hf, true⟩) (R := w.heap.size + 1) (v := .int .i64 0) ?_ (by simp) (by simp) ?_
  · exact TZ
  · exact ⟨⟨A4, n, c4, B4, d4, fi, i, 0, none, 0, 0, hD, r, hf, true⟩, rfl, rfl, rfl, rfl, rfl, rfl, rfl, rfl, rfl, ⟨R9, S9, q1, q4, reads_none _, Nat.le_refl _⟩, BZ, fun ad e => .inr (by have := UV.out.1 ad e; omega), fun ad e => .inr (by have := UV.out.2 ad e; omega)⟩
end
end Go.Proofs.Ytdimkeoncgjegaa
