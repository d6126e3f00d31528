/-
  Several texts in one: IC ID IE.
-/
import Derived.Test.YtdimkeoncgjegaaMfaw
/-
  Heap: the reference's H: next.
-/
namespace Go.Proofs.Ytdimkeoncgjegaa
section
set_option linter.unusedSimpArgs false
set_option linter.unusedVariables false
open Go.RowKit Go.Maps

theorem hnext_end {W : World} {R : Nat} {tm : Array Value} {Q : Ending → World → Prop} {h : Hh} {v : Value} (hR : Blk W R 43 h.arr)
    (h2 : tm[2]? = some v) (h3 : tm[3]? = some (.pointer (some ⟨R, 0, none⟩))) (hq : Q (.returned (.tuple #[v, .agg h.arr])) W) :
    bodyPost Try.prog Try.f29 Q Exit.ret { tmps := tm, defers := [] } W := by
  have q0 : W.cell? ⟨R, 0, none⟩ = _ := hR.cell 0
  have q1 : W.cell? ⟨R, 1, none⟩ = _ := hR.cell 1
  have q2 : W.cell? ⟨R, 2, none⟩ = _ := hR.cell 2
  have q3 : W.cell? ⟨R, 3, none⟩ = _ := hR.cell 3
  have q4 : W.cell? ⟨R, 4, none⟩ = _ := hR.cell 4
  have q5 : W.cell? ⟨R, 5, none⟩ = _ := hR.cell 5
  have q6 : W.cell? ⟨R, 6, none⟩ = _ := hR.cell 6
  have q7 : W.cell? ⟨R, 7, none⟩ = _ := hR.cell 7
  unfold Hh.arr at q0 q1 q2 q3 q4 q5 q6 q7 hq
  simp at q0 q1 q2 q3 q4 q5 q6 q7
  exact bodyPost_ret (v := .tuple #[v, .agg #[.slice h.A h.n h.c, .slice h.B h.n h.d, .int .u32 h.first, .int .u32 h.at_, .int .u32 h.next, .slice h.C h.k h.e, .slice h.D h.r h.f, .bool h.began]]) (by simp [results, Try.results29, go_sem, h2, h3, q0, q1, q2, q3, q4, q5, q6, q7]) rfl hq
/-- Reads that lie neither in a block nor in another one stay behind stores there. -/
theorem reads_stores {w w' : World} {sz n : Nat} {A : Option Addr} {xs : List Value} (h : Reads w w.heap.size sz A n xs) (hs : w.heap.size ≤ w'.heap.size) (he : ∀ ad, A = some ad → w'.heap[ad.block]? = w.heap[ad.block]?) : Reads w' w'.heap.size sz A n xs := by
  refine ⟨h.1, fun hn => ?_⟩
  obtain ⟨ad, e, hlt, hc⟩ := h.2 hn
  refine ⟨ad, e, by omega, fun k u hu => ?_⟩
  have h1 := hc k u hu
  have h2 := he ad e
  unfold World.cell? at h1 ⊢
  rw [block_of_add] at h1 ⊢
  rw [h2]
  exact h1
theorem HhIn.stores {w w' : World} {h : Hh} {ps : List (List UInt8)} {T : List Bool} {rs : List (List UInt8)} (hi : HhIn w h ps T rs) (hs : w.heap.size ≤ w'.heap.size) {t1 t3 : Nat} (hA : ∀ ad, h.A = some ad → ad.block ≠ t1 ∧ ad.block ≠ t3) (hB : ∀ ad, h.B = some ad → ad.block ≠ t1 ∧ ad.block ≠ t3) (hC : ∀ ad, h.C = some ad → ad.block ≠ t1 ∧ ad.block ≠ t3) (he : ∀ g, g ≠ t1 → g ≠ t3 → w'.heap[g]? = w.heap[g]?) : HhIn w' h ps T rs :=
  ⟨reads_stores hi.r1 hs fun ad e => he _ (hA ad e).1 (hA ad e).2, reads_stores hi.r2 hs fun ad e => he _ (hB ad e).1 (hB ad e).2, hi.c1, hi.c2, reads_stores hi.r3 hs fun ad e => he _ (hC ad e).1 (hC ad e).2, hi.c3⟩
end
end Go.Proofs.Ytdimkeoncgjegaa
/-
  Heap: the reference's H: next, where no page is free.
-/
namespace Go.Proofs.Ytdimkeoncgjegaa
section
set_option linter.unusedSimpArgs false
set_option linter.unusedVariables false
open Go.RowKit Go.Maps

def RetHx (w : World) (h : Hh) (c : Int) (ps : List (List UInt8)) (T : List Bool) (rs : List (List UInt8)) (e : Ending) (w' : World) : Prop :=
  ∃ h' : Hh, e = .returned (.tuple #[.int .i64 c, .agg h'.arr]) ∧ h'.n = h.n ∧ HhIn w' h' ps T rs ∧ Below w.heap.size w w' ∧ (∀ ad, h'.A = some ad → h.A = some ad ∨ w.heap.size ≤ ad.block) ∧ (∀ ad, h'.B = some ad → h.B = some ad ∨ w.heap.size ≤ ad.block)
set_option maxRecDepth 100000 in
set_option maxHeartbeats 16000000 in
theorem hnext_full0 {w : World} {h : Hh} {ps : List (List UInt8)} {T : List Bool} {rs : List (List UInt8)} (hi : HhIn w h ps T rs) (hn : h.n ≤ 10000) (hj : ∀ j : Nat, j < h.n → T[j]? = some true) (hbg : h.began = false) :
    Calls Try.prog 29 #[.agg h.arr] w (RetHx w h 7 ps T rs) := by
  obtain ⟨hA, n, hc, hB, hd, fi, at_, nx, hC, k, he, hD, r, hf, bg⟩ := h
  unfold Hh.arr
  dsimp only at hn hj hbg ⊢
  subst hbg
  have HB0 : Hid (Blk ((w.alloc (.cells #[.slice hA n hc, .slice hB n hd, .int .u32 fi, .int .u32 at_, .int .u32 nx, .slice hC k he, .slice hD r hf, .bool false] 43)).alloc (.cells #[.slice none 0 0, .slice none 0 0, .int .u32 0, .int .u32 0, .int .u32 0, .slice none 0 0, .slice none 0 0, .bool false] 43)) w.heap.size 43 #[.slice hA n hc, .slice hB n hd, .int .u32 fi, .int .u32 at_, .int .u32 nx, .slice hC k he, .slice hD r hf, .bool false] ∧ Blk ((w.alloc (.cells #[.slice hA n hc, .slice hB n hd, .int .u32 fi, .int .u32 at_, .int .u32 nx, .slice hC k he, .slice hD r hf, .bool false] 43)).alloc (.cells #[.slice none 0 0, .slice none 0 0, .int .u32 0, .int .u32 0, .int .u32 0, .slice none 0 0, .slice none 0 0, .bool false] 43)) (w.heap.size + 1) 43 #[.slice none 0 0, .slice none 0 0, .int .u32 0, .int .u32 0, .int .u32 0, .slice none 0 0, .slice none 0 0, .bool false] ∧ Below w.heap.size w ((w.alloc (.cells #[.slice hA n hc, .slice hB n hd, .int .u32 fi, .int .u32 at_, .int .u32 nx, .slice hC k he, .slice hD r hf, .bool false] 43)).alloc (.cells #[.slice none 0 0, .slice none 0 0, .int .u32 0, .int .u32 0, .int .u32 0, .slice none 0 0, .slice none 0 0, .bool false] 43))) := Lib.hid ⟨(Blk.newAt rfl).alloc _, Blk.newAt (by simp), ball (ball (Below.refl _ _) _) _⟩
  have HI := Lib.hid hi
  clear hi
  go_enter Try.func29, Try.ntmps29
  go_wp2_with fail
  obtain ⟨W0, hW0⟩ : ∃ W0, ((w.alloc (.cells #[.slice hA n hc, .slice hB n hd, .int .u32 fi, .int .u32 at_, .int .u32 nx, .slice hC k he, .slice hD r hf, .bool false] 43)).alloc (.cells #[.slice none 0 0, .slice none 0 0, .int .u32 0, .int .u32 0, .int .u32 0, .slice none 0 0, .slice none 0 0, .bool false] 43)) = W0 := ⟨_, rfl⟩
  have hW0s : W0.heap.size = w.heap.size + 1 + 1 := by rw [← hW0]; simp
  have HWs := Lib.hid hW0s
  have hWlt : w.heap.size + 1 < W0.heap.size := by omega
  clear hW0s
  rw [hW0] at HB0
  rw [hW0]
  clear hW0
  have TK : Hid (∀ W, Below W0.heap.size W0 W → Calls Try.prog 51 #[.agg #[.slice hA n hc, .slice hB n hd]] W (RetB W (.tuple #[.int .u32 0, .int .i64 7, .agg #[.slice hA n hc, .slice hB n hd]]))) := Lib.hid fun W hW => rTake_full hA hc hB hd T ((HI.out.r2.below (bto0 HB0.out.2.2 hW)).more (bto0 HB0.out.2.2 hW).size) (by omega) hj
  clear hj
  have p0 : W0.cell? ⟨w.heap.size, 0, none⟩ = some (.slice hA n hc) := HB0.out.1.cell 0
  have f0 := HB0.out.1.frozen 0
  have p1 : W0.cell? ⟨w.heap.size, 1, none⟩ = some (.slice hB n hd) := HB0.out.1.cell 1
  have f1 := HB0.out.1.frozen 1
  go_wp2_with (go_at_call 51; (with_reducible refine (TK.out _ (by with_reducible repeat (first | exact Below.refl _ _ | refine bdr ?_ _ | refine Below.drew ?_ | refine ball ?_ _))).mono ?_); rintro e w1 ⟨rfl, hb1⟩; have T1 := HB0.out.1.below hb1 HB0.out.1.lt; have T2 := HB0.out.2.1.below hb1 HB0.out.2.1.lt; have z1 := T1.lt; have z2 := T2.lt; have e0 : w1.cell? ⟨w.heap.size, 0, none⟩ = some (.slice hA n hc) := T1.cell 0; have e1 : w1.cell? ⟨w.heap.size, 1, none⟩ = some (.slice hB n hd) := T1.cell 1; have e2 : w1.cell? ⟨w.heap.size, 2, none⟩ = some (.int .u32 fi) := T1.cell 2; have e3 : w1.cell? ⟨w.heap.size, 3, none⟩ = some (.int .u32 at_) := T1.cell 3; have e4 : w1.cell? ⟨w.heap.size, 4, none⟩ = some (.int .u32 nx) := T1.cell 4; have e5 : w1.cell? ⟨w.heap.size, 5, none⟩ = some (.slice hC k he) := T1.cell 5; have e6 : w1.cell? ⟨w.heap.size, 6, none⟩ = some (.slice hD r hf) := T1.cell 6; have e7 : w1.cell? ⟨w.heap.size, 7, none⟩ = some (.bool false) := T1.cell 7; have g0 := T2.frozen 0; have g1 := T2.frozen 1; have g2 := T2.frozen 2; have g3 := T2.frozen 3; have g4 := T2.frozen 4; have g5 := T2.frozen 5; have g6 := T2.frozen 6; have g7 := T2.frozen 7; have HZ := Lib.hid (And.intro T1 T2); clear T1 T2)
  obtain ⟨W2, hW2⟩ : ∃ W2, (w1.alloc (.cells #[.slice hA n hc, .slice hB n hd] 32)) = W2 := ⟨_, rfl⟩
  have T1 := HZ.out.1.alloc (.cells #[.slice hA n hc, .slice hB n hd] 32)
  have T2 := HZ.out.2.alloc (.cells #[.slice hA n hc, .slice hB n hd] 32)
  have BM : Below w.heap.size w (w1.alloc (.cells #[.slice hA n hc, .slice hB n hd] 32)) := ball (bto0 HB0.out.2.2 hb1) _
  rw [hW2] at T1 T2 BM ⊢
  clear hW2
  clear e0 g0 e1 g1 e2 g2 e3 g3 e4 g4 e5 g5 e6 g6 e7 g7
  have e0 : W2.cell? ⟨w.heap.size, 0, none⟩ = some (.slice hA n hc) := T1.cell 0
  have e1 : W2.cell? ⟨w.heap.size, 1, none⟩ = some (.slice hB n hd) := T1.cell 1
  have e2 : W2.cell? ⟨w.heap.size, 2, none⟩ = some (.int .u32 fi) := T1.cell 2
  have e3 : W2.cell? ⟨w.heap.size, 3, none⟩ = some (.int .u32 at_) := T1.cell 3
  have e4 : W2.cell? ⟨w.heap.size, 4, none⟩ = some (.int .u32 nx) := T1.cell 4
  have e5 : W2.cell? ⟨w.heap.size, 5, none⟩ = some (.slice hC k he) := T1.cell 5
  have e6 : W2.cell? ⟨w.heap.size, 6, none⟩ = some (.slice hD r hf) := T1.cell 6
  have e7 : W2.cell? ⟨w.heap.size, 7, none⟩ = some (.bool false) := T1.cell 7
  have k0 : W2.cell? ⟨w.heap.size + 1, 0, none⟩ = some (.slice none 0 0) := T2.cell 0
  have g0 := T2.frozen 0
  have k1 : W2.cell? ⟨w.heap.size + 1, 1, none⟩ = some (.slice none 0 0) := T2.cell 1
  have g1 := T2.frozen 1
  have k2 : W2.cell? ⟨w.heap.size + 1, 2, none⟩ = some (.int .u32 0) := T2.cell 2
  have g2 := T2.frozen 2
  have k3 : W2.cell? ⟨w.heap.size + 1, 3, none⟩ = some (.int .u32 0) := T2.cell 3
  have g3 := T2.frozen 3
  have k4 : W2.cell? ⟨w.heap.size + 1, 4, none⟩ = some (.int .u32 0) := T2.cell 4
  have g4 := T2.frozen 4
  have k5 : W2.cell? ⟨w.heap.size + 1, 5, none⟩ = some (.slice none 0 0) := T2.cell 5
  have g5 := T2.frozen 5
  have k6 : W2.cell? ⟨w.heap.size + 1, 6, none⟩ = some (.slice none 0 0) := T2.cell 6
  have g6 := T2.frozen 6
  have k7 : W2.cell? ⟨w.heap.size + 1, 7, none⟩ = some (.bool false) := T2.cell 7
  have g7 := T2.frozen 7
  have z3 := T2.lt
  have HY := Lib.hid (And.intro T2 BM)
  clear T1 T2 BM
  go_region
  go_wp2
  have BZ := ((((((((HY.out.2.setCell (p := ⟨w.heap.size + 1, 0, none⟩) (by simp) (.slice hA n hc)).setCell (p := ⟨w.heap.size + 1, 1, none⟩) (by simp) (.slice hB n hd)).setCell (p := ⟨w.heap.size + 1, 2, none⟩) (by simp) (.int .u32 fi)).setCell (p := ⟨w.heap.size + 1, 3, none⟩) (by simp) (.int .u32 at_)).setCell (p := ⟨w.heap.size + 1, 4, none⟩) (by simp) (.int .u32 nx)).setCell (p := ⟨w.heap.size + 1, 5, none⟩) (by simp) (.slice hC k he)).setCell (p := ⟨w.heap.size + 1, 6, none⟩) (by simp) (.slice hD r hf)).setCell (p := ⟨w.heap.size + 1, 7, none⟩) (by simp) (.bool false)).drew
  refine hnext_end (h := ⟨hA, n, hc, hB, hd, fi, at_, nx, hC, k, he, hD, r, hf, false⟩) (((((((((HY.out.1).set_ 0 (.slice hA n hc)).set_ 1 (.slice hB n hd)).set_ 2 (.int .u32 fi)).set_ 3 (.int .u32 at_)).set_ 4 (.int .u32 nx)).set_ 5 (.slice hC k he)).set_ 6 (.slice hD r hf)).set_ 7 (.bool false)).drew (by simp) (by simp) ⟨⟨hA, n, hc, hB, hd, fi, at_, nx, hC, k, he, hD, r, hf, false⟩, rfl, rfl, HI.out.below BZ, BZ, fun ad e => .inl e, fun ad e => .inl e⟩
end
end Go.Proofs.Ytdimkeoncgjegaa
/-
  Heap: the reference's H: next, where no page is free and one was begun.
-/
namespace Go.Proofs.Ytdimkeoncgjegaa
section
set_option linter.unusedSimpArgs false
set_option linter.unusedVariables false
open Go.RowKit Go.Maps

theorem reads_drew {w : World} {sz n : Nat} {A : Option Addr} {xs : List Value} (h : Reads w w.heap.size sz A n xs) : Reads w.drew w.drew.heap.size sz A n xs := by
  have hb : Below w.heap.size w w.drew := (Below.refl _ _).drew
  exact (h.below hb).more hb.size
theorem blk_drew {w : World} {g t : Nat} {cs : Array Value} (h : Blk w g t cs) : Blk w.drew g t cs := h.drew
theorem RetHw.out {w : World} {h : Hh} {ps : List (List UInt8)} {T : List Bool} {rs : List (List UInt8)} {e : Ending} {w' : World} (H : RetHw w h ps T rs e w') : ∃ (A : Option Addr) (c : Nat) (B : Option Addr) (d : Nat), e = .returned (.agg #[.slice A h.n c, .slice B h.n d, .int .u32 h.first, .int .u32 h.at_, .int .u32 h.next, .slice h.C h.k h.e, .slice h.D h.r h.f, .bool h.began]) ∧ h.n ≤ c ∧ h.n ≤ d ∧ Reads w' w'.heap.size 1 A h.n (sL (ps.set h.at_ (layL h.next rs))) ∧ Reads w' w'.heap.size 1 B h.n (tL (T.set h.at_ true)) ∧ (∀ ad, A = some ad → w.heap.size ≤ ad.block) ∧ (∀ ad, B = some ad → w.heap.size ≤ ad.block) ∧ Below w.heap.size w w' := by
  obtain ⟨h', he, e1, e2, e3, e4, e5, e6, e7, e8, e9, e10, e11, hi, hb, l1, l2⟩ := H
  have r1 := hi.r1
  have r2 := hi.r2
  have c1 := hi.c1
  have c2 := hi.c2
  rw [e1] at r1 r2 c1 c2
  refine ⟨h'.A, h'.c, h'.B, h'.d, ?_, c1, c2, r1, r2, l1, l2, hb⟩
  rw [he]
  unfold Hh.arr
  rw [e1, e2, e3, e4, e5, e6, e7, e8, e9, e10, e11]
set_option maxRecDepth 100000 in
set_option maxHeartbeats 16000000 in
theorem hnext_full1 {w : World} {h : Hh} {ps : List (List UInt8)} {T : List Bool} {rs : List (List UInt8)} (hi : HhIn w h ps T rs) (hn : h.n ≤ 10000) (hj : ∀ j : Nat, j < h.n → T[j]? = some true) (hbg : h.began = true) (hp : h.at_ < h.n) (hft : Fits rs) (hx : h.next < 4294967296) :
    Calls Try.prog 29 #[.agg h.arr] w (RetHx w h 7 (ps.set h.at_ (layL h.next rs)) (T.set h.at_ true) rs) := by
  obtain ⟨hA, n, hc, hB, hd, fi, at_, nx, hC, k, he, hD, r, hf, bg⟩ := h
  unfold Hh.arr
  dsimp only at *
  subst hbg
  have HB0 : Hid (Blk ((w.alloc (.cells #[.slice hA n hc, .slice hB n hd, .int .u32 fi, .int .u32 at_, .int .u32 nx, .slice hC k he, .slice hD r hf, .bool true] 43)).alloc (.cells #[.slice none 0 0, .slice none 0 0, .int .u32 0, .int .u32 0, .int .u32 0, .slice none 0 0, .slice none 0 0, .bool false] 43)) w.heap.size 43 #[.slice hA n hc, .slice hB n hd, .int .u32 fi, .int .u32 at_, .int .u32 nx, .slice hC k he, .slice hD r hf, .bool true] ∧ Blk ((w.alloc (.cells #[.slice hA n hc, .slice hB n hd, .int .u32 fi, .int .u32 at_, .int .u32 nx, .slice hC k he, .slice hD r hf, .bool true] 43)).alloc (.cells #[.slice none 0 0, .slice none 0 0, .int .u32 0, .int .u32 0, .int .u32 0, .slice none 0 0, .slice none 0 0, .bool false] 43)) (w.heap.size + 1) 43 #[.slice none 0 0, .slice none 0 0, .int .u32 0, .int .u32 0, .int .u32 0, .slice none 0 0, .slice none 0 0, .bool false] ∧ Below w.heap.size w ((w.alloc (.cells #[.slice hA n hc, .slice hB n hd, .int .u32 fi, .int .u32 at_, .int .u32 nx, .slice hC k he, .slice hD r hf, .bool true] 43)).alloc (.cells #[.slice none 0 0, .slice none 0 0, .int .u32 0, .int .u32 0, .int .u32 0, .slice none 0 0, .slice none 0 0, .bool false] 43))) := Lib.hid ⟨(Blk.newAt rfl).alloc _, Blk.newAt (by simp), ball (ball (Below.refl _ _) _) _⟩
  have HI := Lib.hid hi
  clear hi
  go_enter Try.func29, Try.ntmps29
  go_wp2_with fail
  obtain ⟨W0, hW0⟩ : ∃ W0, ((w.alloc (.cells #[.slice hA n hc, .slice hB n hd, .int .u32 fi, .int .u32 at_, .int .u32 nx, .slice hC k he, .slice hD r hf, .bool true] 43)).alloc (.cells #[.slice none 0 0, .slice none 0 0, .int .u32 0, .int .u32 0, .int .u32 0, .slice none 0 0, .slice none 0 0, .bool false] 43)) = W0 := ⟨_, rfl⟩
  have hW0s : W0.heap.size = w.heap.size + 1 + 1 := by rw [← hW0]; simp
  have HWs := Lib.hid hW0s
  have hWlt : w.heap.size + 1 < W0.heap.size := by omega
  clear hW0s
  rw [hW0] at HB0
  rw [hW0]
  clear hW0
  have p0 : W0.cell? ⟨w.heap.size, 0, none⟩ = some (.slice hA n hc) := HB0.out.1.cell 0
  have f0 := HB0.out.1.frozen 0
  have p1 : W0.cell? ⟨w.heap.size, 1, none⟩ = some (.slice hB n hd) := HB0.out.1.cell 1
  have f1 := HB0.out.1.frozen 1
  have TK : Hid (∀ W, Below W0.heap.size W0 W → Calls Try.prog 51 #[.agg #[.slice hA n hc, .slice hB n hd]] W (RetB W (.tuple #[.int .u32 0, .int .i64 7, .agg #[.slice hA n hc, .slice hB n hd]]))) := Lib.hid fun W hW => rTake_full hA hc hB hd T ((HI.out.r2.below (bto0 HB0.out.2.2 hW)).more (bto0 HB0.out.2.2 hW).size) (by omega) hj
  have WT : Hid (∀ W, Below W0.heap.size W0 W → Calls Try.prog 31 #[.agg #[.slice hA n hc, .slice hB n hd, .int .u32 fi, .int .u32 at_, .int .u32 nx, .slice hC k he, .slice hD r hf, .bool true]] W (RetHw W ⟨hA, n, hc, hB, hd, fi, at_, nx, hC, k, he, hD, r, hf, true⟩ ps T rs)) := Lib.hid fun W hW => hwrite_any (h := ⟨hA, n, hc, hB, hd, fi, at_, nx, hC, k, he, hD, r, hf, true⟩) (HI.out.below (bto0 HB0.out.2.2 hW)) hp hn hft hx
  clear hj hft hp hx
  go_wp2_with (first | (go_at_call 51; (with_reducible refine (TK.out _ (by with_reducible repeat (first | exact Below.refl _ _ | refine bdr ?_ _ | refine Below.drew ?_ | refine ball ?_ _))).mono ?_); rintro e w1 ⟨rfl, hb1⟩; have T1 := HB0.out.1.below hb1 HB0.out.1.lt; have T2 := HB0.out.2.1.below hb1 HB0.out.2.1.lt; have z1 := T1.lt; have z2 := T2.lt; have e0 : w1.cell? ⟨w.heap.size, 0, none⟩ = some (.slice hA n hc) := T1.cell 0; have e1 : w1.cell? ⟨w.heap.size, 1, none⟩ = some (.slice hB n hd) := T1.cell 1; have e2 : w1.cell? ⟨w.heap.size, 2, none⟩ = some (.int .u32 fi) := T1.cell 2; have e3 : w1.cell? ⟨w.heap.size, 3, none⟩ = some (.int .u32 at_) := T1.cell 3; have e4 : w1.cell? ⟨w.heap.size, 4, none⟩ = some (.int .u32 nx) := T1.cell 4; have e5 : w1.cell? ⟨w.heap.size, 5, none⟩ = some (.slice hC k he) := T1.cell 5; have e6 : w1.cell? ⟨w.heap.size, 6, none⟩ = some (.slice hD r hf) := T1.cell 6; have e7 : w1.cell? ⟨w.heap.size, 7, none⟩ = some (.bool true) := T1.cell 7; have HZ := Lib.hid (And.intro T1 T2); clear T1 T2) | (go_at_call 31; (with_reducible refine (WT.out _ (by with_reducible repeat (first | exact Below.refl _ _ | exact hb1 | refine bto0 ?_ hb1 | refine bdr ?_ _ | refine Below.drew ?_ | refine ball ?_ _))).mono ?_); intro e w4 H4; obtain ⟨A4, c4, B4, d4, rfl, q1, q2, r4, s4, l4, m4, hb4⟩ := H4.out; dsimp only at q1 q2 r4 s4; dsimp only; clear H4; have y4 : w1.heap.size < w4.heap.size := by {have := hb4.size; simp at this; omega}; have T1 := (HZ.out.1.alloc (.cells #[.slice hA n hc, .slice hB n hd] 32)).below hb4 (by have := HZ.out.1.lt; simp; omega); have T2 := (HZ.out.2.alloc (.cells #[.slice hA n hc, .slice hB n hd] 32)).below hb4 (by have := HZ.out.2.lt; simp; omega); clear e0 e1 e2 e3 e4 e5 e6 e7; have f0 := T1.frozen 0; have f1 := T1.frozen 1; have f2 := T1.frozen 2; have f3 := T1.frozen 3; have f4 := T1.frozen 4; have f5 := T1.frozen 5; have f6 := T1.frozen 6; have f7 := T1.frozen 7; have e0 : w4.cell? ⟨w.heap.size, 0, none⟩ = some (.slice hA n hc) := T1.cell 0; have e1 : w4.cell? ⟨w.heap.size, 1, none⟩ = some (.slice hB n hd) := T1.cell 1; have e2 : w4.cell? ⟨w.heap.size, 2, none⟩ = some (.int .u32 fi) := T1.cell 2; have e3 : w4.cell? ⟨w.heap.size, 3, none⟩ = some (.int .u32 at_) := T1.cell 3; have e4 : w4.cell? ⟨w.heap.size, 4, none⟩ = some (.int .u32 nx) := T1.cell 4; have e5 : w4.cell? ⟨w.heap.size, 5, none⟩ = some (.slice hC k he) := T1.cell 5; have e6 : w4.cell? ⟨w.heap.size, 6, none⟩ = some (.slice hD r hf) := T1.cell 6; have e7 : w4.cell? ⟨w.heap.size, 7, none⟩ = some (.bool true) := T1.cell 7; have HY := Lib.hid (And.intro T1 T2); clear T1 T2))
  have u4 : ∀ ad, A4 = some ad → w.heap.size + 1 < ad.block := fun ad e => by have h1 := l4 ad e; have h2 := HZ.out.2.lt; simp at h1; omega
  have v4 : ∀ ad, B4 = some ad → w.heap.size + 1 < ad.block := fun ad e => by have h1 := m4 ad e; have h2 := HZ.out.2.lt; simp at h1; omega
  have UV := Lib.hid (And.intro u4 v4)
  have T1 := ((((((((HY.out.1).set_ 0 (.slice A4 n c4)).set_ 1 (.slice B4 n d4)).set_ 2 (.int .u32 fi)).set_ 3 (.int .u32 at_)).set_ 4 (.int .u32 nx)).set_ 5 (.slice hC k he)).set_ 6 (.slice hD r hf)).set_ 7 (.bool true)
  simp only [List.setIfInBounds_toArray, List.set_cons_zero, List.set_cons_succ] at T1
  have T2 := ((((((((HY.out.2).far (p := ⟨w.heap.size, 0, none⟩) (by simp) (.slice A4 n c4)).far (p := ⟨w.heap.size, 1, none⟩) (by simp) (.slice B4 n d4)).far (p := ⟨w.heap.size, 2, none⟩) (by simp) (.int .u32 fi)).far (p := ⟨w.heap.size, 3, none⟩) (by simp) (.int .u32 at_)).far (p := ⟨w.heap.size, 4, none⟩) (by simp) (.int .u32 nx)).far (p := ⟨w.heap.size, 5, none⟩) (by simp) (.slice hC k he)).far (p := ⟨w.heap.size, 6, none⟩) (by simp) (.slice hD r hf)).far (p := ⟨w.heap.size, 7, none⟩) (by simp) (.bool true)
  have BM := (((((((((bto0 (ball (bto0 HB0.out.2.2 hb1) (.cells #[.slice hA n hc, .slice hB n hd] 32)) hb4).setCell (p := ⟨w.heap.size, 0, none⟩) (Nat.le_refl _) (.slice A4 n c4)).setCell (p := ⟨w.heap.size, 1, none⟩) (Nat.le_refl _) (.slice B4 n d4)).setCell (p := ⟨w.heap.size, 2, none⟩) (Nat.le_refl _) (.int .u32 fi)).setCell (p := ⟨w.heap.size, 3, none⟩) (Nat.le_refl _) (.int .u32 at_)).setCell (p := ⟨w.heap.size, 4, none⟩) (Nat.le_refl _) (.int .u32 nx)).setCell (p := ⟨w.heap.size, 5, none⟩) (Nat.le_refl _) (.slice hC k he)).setCell (p := ⟨w.heap.size, 6, none⟩) (Nat.le_refl _) (.slice hD r hf)).setCell (p := ⟨w.heap.size, 7, none⟩) (Nat.le_refl _) (.bool true))
  have r5 := (reads_far (p := ⟨w.heap.size, 7, none⟩) (reads_far (p := ⟨w.heap.size, 6, none⟩) (reads_far (p := ⟨w.heap.size, 5, none⟩) (reads_far (p := ⟨w.heap.size, 4, none⟩) (reads_far (p := ⟨w.heap.size, 3, none⟩) (reads_far (p := ⟨w.heap.size, 2, none⟩) (reads_far (p := ⟨w.heap.size, 1, none⟩) (reads_far (p := ⟨w.heap.size, 0, none⟩) r4 (fun ad e => by have := UV.out.1 ad e; simp; omega) (.slice A4 n c4)) (fun ad e => by have := UV.out.1 ad e; simp; omega) (.slice B4 n d4)) (fun ad e => by have := UV.out.1 ad e; simp; omega) (.int .u32 fi)) (fun ad e => by have := UV.out.1 ad e; simp; omega) (.int .u32 at_)) (fun ad e => by have := UV.out.1 ad e; simp; omega) (.int .u32 nx)) (fun ad e => by have := UV.out.1 ad e; simp; omega) (.slice hC k he)) (fun ad e => by have := UV.out.1 ad e; simp; omega) (.slice hD r hf)) (fun ad e => by have := UV.out.1 ad e; simp; omega) (.bool true))
  have s5 := (reads_far (p := ⟨w.heap.size, 7, none⟩) (reads_far (p := ⟨w.heap.size, 6, none⟩) (reads_far (p := ⟨w.heap.size, 5, none⟩) (reads_far (p := ⟨w.heap.size, 4, none⟩) (reads_far (p := ⟨w.heap.size, 3, none⟩) (reads_far (p := ⟨w.heap.size, 2, none⟩) (reads_far (p := ⟨w.heap.size, 1, none⟩) (reads_far (p := ⟨w.heap.size, 0, none⟩) s4 (fun ad e => by have := UV.out.2 ad e; simp; omega) (.slice A4 n c4)) (fun ad e => by have := UV.out.2 ad e; simp; omega) (.slice B4 n d4)) (fun ad e => by have := UV.out.2 ad e; simp; omega) (.int .u32 fi)) (fun ad e => by have := UV.out.2 ad e; simp; omega) (.int .u32 at_)) (fun ad e => by have := UV.out.2 ad e; simp; omega) (.int .u32 nx)) (fun ad e => by have := UV.out.2 ad e; simp; omega) (.slice hC k he)) (fun ad e => by have := UV.out.2 ad e; simp; omega) (.slice hD r hf)) (fun ad e => by have := UV.out.2 ad e; simp; omega) (.bool true))
  obtain ⟨W5, hW5⟩ : ∃ W5, ((((((((w4.setCell ⟨w.heap.size, 0, none⟩ (.slice A4 n c4)).setCell ⟨w.heap.size, 1, none⟩ (.slice B4 n d4)).setCell ⟨w.heap.size, 2, none⟩ (.int .u32 fi)).setCell ⟨w.heap.size, 3, none⟩ (.int .u32 at_)).setCell ⟨w.heap.size, 4, none⟩ (.int .u32 nx)).setCell ⟨w.heap.size, 5, none⟩ (.slice hC k he)).setCell ⟨w.heap.size, 6, none⟩ (.slice hD r hf)).setCell ⟨w.heap.size, 7, none⟩ (.bool true)) = W5 := ⟨_, rfl⟩
  rw [hW5] at T1 T2 BM r5 s5 ⊢
  clear hW5 l4 m4 u4 v4 hb4 hb1 r4 s4 f0 f1 f2 f3 f4 f5 f6 f7 e0 e1 e2 e3 e4 e5 e6 e7
  have e0 : W5.cell? ⟨w.heap.size, 0, none⟩ = some (.slice A4 n c4) := T1.cell 0
  have e1 : W5.cell? ⟨w.heap.size, 1, none⟩ = some (.slice B4 n d4) := T1.cell 1
  have e2 : W5.cell? ⟨w.heap.size, 2, none⟩ = some (.int .u32 fi) := T1.cell 2
  have e3 : W5.cell? ⟨w.heap.size, 3, none⟩ = some (.int .u32 at_) := T1.cell 3
  have e4 : W5.cell? ⟨w.heap.size, 4, none⟩ = some (.int .u32 nx) := T1.cell 4
  have e5 : W5.cell? ⟨w.heap.size, 5, none⟩ = some (.slice hC k he) := T1.cell 5
  have e6 : W5.cell? ⟨w.heap.size, 6, none⟩ = some (.slice hD r hf) := T1.cell 6
  have e7 : W5.cell? ⟨w.heap.size, 7, none⟩ = some (.bool true) := T1.cell 7
  have k0 : W5.cell? ⟨w.heap.size + 1, 0, none⟩ = some (.slice none 0 0) := T2.cell 0
  have g0 := T2.frozen 0
  have k1 : W5.cell? ⟨w.heap.size + 1, 1, none⟩ = some (.slice none 0 0) := T2.cell 1
  have g1 := T2.frozen 1
  have k2 : W5.cell? ⟨w.heap.size + 1, 2, none⟩ = some (.int .u32 0) := T2.cell 2
  have g2 := T2.frozen 2
  have k3 : W5.cell? ⟨w.heap.size + 1, 3, none⟩ = some (.int .u32 0) := T2.cell 3
  have g3 := T2.frozen 3
  have k4 : W5.cell? ⟨w.heap.size + 1, 4, none⟩ = some (.int .u32 0) := T2.cell 4
  have g4 := T2.frozen 4
  have k5 : W5.cell? ⟨w.heap.size + 1, 5, none⟩ = some (.slice none 0 0) := T2.cell 5
  have g5 := T2.frozen 5
  have k6 : W5.cell? ⟨w.heap.size + 1, 6, none⟩ = some (.slice none 0 0) := T2.cell 6
  have g6 := T2.frozen 6
  have k7 : W5.cell? ⟨w.heap.size + 1, 7, none⟩ = some (.bool false) := T2.cell 7
  have g7 := T2.frozen 7
  have z3 := T2.lt
  have HX := Lib.hid (And.intro T2 (And.intro BM (And.intro r5 s5)))
  clear T1 T2 BM r5 s5
  go_region
  go_wp2
  have BZ := ((((((((HX.out.2.1.setCell (p := ⟨w.heap.size + 1, 0, none⟩) (by simp) (.slice A4 n c4)).setCell (p := ⟨w.heap.size + 1, 1, none⟩) (by simp) (.slice B4 n d4)).setCell (p := ⟨w.heap.size + 1, 2, none⟩) (by simp) (.int .u32 fi)).setCell (p := ⟨w.heap.size + 1, 3, none⟩) (by simp) (.int .u32 at_)).setCell (p := ⟨w.heap.size + 1, 4, none⟩) (by simp) (.int .u32 nx)).setCell (p := ⟨w.heap.size + 1, 5, none⟩) (by simp) (.slice hC k he)).setCell (p := ⟨w.heap.size + 1, 6, none⟩) (by simp) (.slice hD r hf)).setCell (p := ⟨w.heap.size + 1, 7, none⟩) (by simp) (.bool true)).drew
  have TZ := ((((((((HX.out.1).set_ 0 (.slice A4 n c4)).set_ 1 (.slice B4 n d4)).set_ 2 (.int .u32 fi)).set_ 3 (.int .u32 at_)).set_ 4 (.int .u32 nx)).set_ 5 (.slice hC k he)).set_ 6 (.slice hD r hf)).set_ 7 (.bool true)
  simp only [List.setIfInBounds_toArray, List.set_cons_zero, List.set_cons_succ] at TZ
  have TZ := blk_drew TZ
  have R9 := (reads_far (p := ⟨w.heap.size + 1, 7, none⟩) (reads_far (p := ⟨w.heap.size + 1, 6, none⟩) (reads_far (p := ⟨w.heap.size + 1, 5, none⟩) (reads_far (p := ⟨w.heap.size + 1, 4, none⟩) (reads_far (p := ⟨w.heap.size + 1, 3, none⟩) (reads_far (p := ⟨w.heap.size + 1, 2, none⟩) (reads_far (p := ⟨w.heap.size + 1, 1, none⟩) (reads_far (p := ⟨w.heap.size + 1, 0, none⟩) HX.out.2.2.1 (fun ad e => by have := UV.out.1 ad e; simp; omega) (.slice A4 n c4)) (fun ad e => by have := UV.out.1 ad e; simp; omega) (.slice B4 n d4)) (fun ad e => by have := UV.out.1 ad e; simp; omega) (.int .u32 fi)) (fun ad e => by have := UV.out.1 ad e; simp; omega) (.int .u32 at_)) (fun ad e => by have := UV.out.1 ad e; simp; omega) (.int .u32 nx)) (fun ad e => by have := UV.out.1 ad e; simp; omega) (.slice hC k he)) (fun ad e => by have := UV.out.1 ad e; simp; omega) (.slice hD r hf)) (fun ad e => by have := UV.out.1 ad e; simp; omega) (.bool true))
  have R9 := reads_drew R9
  have S9 := (reads_far (p := ⟨w.heap.size + 1, 7, none⟩) (reads_far (p := ⟨w.heap.size + 1, 6, none⟩) (reads_far (p := ⟨w.heap.size + 1, 5, none⟩) (reads_far (p := ⟨w.heap.size + 1, 4, none⟩) (reads_far (p := ⟨w.heap.size + 1, 3, none⟩) (reads_far (p := ⟨w.heap.size + 1, 2, none⟩) (reads_far (p := ⟨w.heap.size + 1, 1, none⟩) (reads_far (p := ⟨w.heap.size + 1, 0, none⟩) HX.out.2.2.2 (fun ad e => by have := UV.out.2 ad e; simp; omega) (.slice A4 n c4)) (fun ad e => by have := UV.out.2 ad e; simp; omega) (.slice B4 n d4)) (fun ad e => by have := UV.out.2 ad e; simp; omega) (.int .u32 fi)) (fun ad e => by have := UV.out.2 ad e; simp; omega) (.int .u32 at_)) (fun ad e => by have := UV.out.2 ad e; simp; omega) (.int .u32 nx)) (fun ad e => by have := UV.out.2 ad e; simp; omega) (.slice hC k he)) (fun ad e => by have := UV.out.2 ad e; simp; omega) (.slice hD r hf)) (fun ad e => by have := UV.out.2 ad e; simp; omega) (.bool true))
  have S9 := reads_drew S9
  have C9 := (HI.out.r3.below BZ).more BZ.size
  refine hnext_end (h := ⟨A4, n, c4, B4, d4, fi, at_, nx, hC, k, he, hD, r, hf, true⟩) (R := w.heap.size + 1) (v := .int .i64 7) ?_ (by simp) (by simp) ?_
  · exact TZ
  · exact ⟨⟨A4, n, c4, B4, d4, fi, at_, nx, hC, k, he, hD, r, hf, true⟩, rfl, rfl, ⟨R9, S9, q1, q2, C9, HI.out.c3⟩, BZ, fun ad e => .inr (by have := UV.out.1 ad e; omega), fun ad e => .inr (by have := UV.out.2 ad e; omega)⟩
end
end Go.Proofs.Ytdimkeoncgjegaa
