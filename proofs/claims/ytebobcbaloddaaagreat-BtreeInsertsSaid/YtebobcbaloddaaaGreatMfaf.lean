/-
  Df Dg.
-/
import Derived.Test.YtebobcbaloddaaaGreatMfae
import Derived.Laws.CopyOwn
namespace Go.Proofs.YtebobcbaloddaaaGreat
section
set_option linter.unusedSimpArgs false
set_option linter.unusedVariables false
open Go.RowKit
theorem ret_slice {A : Option Addr} {n n' c : Nat} (h : n = n') : Ending.returned (.slice A n c) = .returned (.slice A n' c) := by rw [h]
theorem dpage_any {w : World} {g gb gt n : Nat} {bs ts : Array Value} (h : Dk w g gb gt n bs ts) (p : Nat) (hp : p < n) (hn : n ≤ 1000000) :
 Calls Tryz.prog 85 #[.pointer (some ⟨g, 0, none⟩), .int .u32 p] w fun e w' => e = .returned (.slice (some ⟨gb, p * 512, none⟩) 512 (n * 512 - p * 512)) ∧ w = w' := by
 have c0 : w.cell? ⟨g, 0, none⟩ = some (.slice (some ⟨gb, 0, none⟩) (n * 512) (n * 512)) := h.d.cell 0
 have g1 : (0 : Int) ≤ (p : Int) * 512 := by omega
 have g2 : (p : Int) * 512 + 512 ≤ (n : Int) * 512 := by omega
 have g3 : ¬ n * 512 = p * 512 := by omega
 have g4 : p * 512 + 512 ≤ n * 512 := by omega
 clear h
 go_enter Tryz.func85, Tryz.ntmps85
 go_wp2
 go_ret
 exact ⟨ret_slice (by omega), rfl⟩
theorem setRow_far {w : World} {g gb : Nat} {t : TypeId} {cs new : Array Value} (h : Blk w g t cs) (hne : g ≠ gb) : Blk (w.setRow gb new) g t cs := (setRow_other w gb g new hne).trans h
theorem setRow_at {w : World} {g : Nat} {t : TypeId} {cs new : Array Value} (h : Blk w g t cs) : Blk (w.setRow g new) g t new := setRow_heap w g _ _ t _ h
theorem Dk.wrote {w : World} {g gb gt n : Nat} {bs ts new : Array Value} (h : Dk w g gb gt n bs ts) (hn : new.size = n * 512) : Dk (w.setRow gb new) g gb gt n new ts :=
 ⟨setRow_far h.d (Blk.ne_ h.d h.b (by decide)), setRow_at h.b, setRow_far h.t (Blk.ne_ h.t h.b (by decide)), hn, h.ht⟩
set_option maxHeartbeats 1000000 in
theorem write_ok {w : World} {g gb gt n : Nat} {bs ts : Array Value} (h : Dk w g gb gt n bs ts) (p : Nat) (hp : p < n) (hn : n ≤ 1000000) (ad : Addr) (c B : Nat) (cs : List Value) (hr : Reads w B 1 (some ad) 512 cs) (h1 : ∀ v ∈ cs, v.oneCell' = true) (u : Value) (hu : ts[p]? = some u) :
 Calls Tryz.prog 51 #[.pointer (some ⟨g, 0, none⟩), .int .u32 p, .slice (some ad) 512 c] w fun e w' => e = .returned (.int .i64 0) ∧ (w.setRow gb (splice bs.toList (p * 512) cs).toArray).setCell ⟨gt, p, none⟩ (.bool true) = w' := by
 have HB := Lib.hid (has_any h p (by omega) (by omega) hn)
 have HP := Lib.hid (dpage_any h p hp hn)
 have hlen : cs.length = 512 := by have := hr.1; omega
 have hfit : p * 512 + cs.length ≤ bs.size := by rw [h.hb, hlen]; omega
 have hsz : (splice bs.toList (p * 512) cs).toArray.size = n * 512 := by
  rw [List.size_toArray, length_splice _ _ _ (by simpa using hfit)]
  simpa using h.hb
 have h2 := h.wrote hsz
 have c1 : (w.setRow gb (splice bs.toList (p * 512) cs).toArray).cell? ⟨g, 1, none⟩ = some (.slice (some ⟨gt, 0, none⟩) n n) := h2.d.cell 1
 have c2 : (w.setRow gb (splice bs.toList (p * 512) cs).toArray).cell? ⟨gt, p, none⟩ = some u := (h2.t.cell p).trans hu
 have c3 := h2.t.frozen p
 have hg := h.b
 have hsrc : ∀ j v, cs[j]? = some v → w.cell? (ad.add j) = some v := by
  obtain ⟨ad', e, _, hc⟩ := hr.2 (by omega)
  injection e with e
  subst e
  exact hc
 have Hsrc := Lib.hid hsrc; clear hsrc
 have hd : decide ((p : Int) < (n : Int)) = true := decide_eq_true (by omega)
 have g1 : (0 : Int) ≤ (p : Int) := by omega
 have g2 : (p : Int) < (n : Int) := by omega
 have hinfo : (Tryz.prog.info? 5).map (·.size) = some 1 := by kernel_rfl
 have HI := Lib.hid hinfo; clear hinfo
 have Hlen := Lib.hid hlen; clear hlen
 clear hsz h2 hr hu
 obtain ⟨W2, hW2⟩ : ∃ W2, w.setRow gb (splice bs.toList (p * 512) cs).toArray = W2 := ⟨_, rfl⟩
 rw [hW2] at c1 c2 c3 ⊢
 have HW2 := Lib.hid hW2; clear hW2
 go_enter Tryz.func51, Tryz.ntmps51
 go_wp2_with (first
  | (go_at_call 84; refine HB.out.mono ?_; rintro e w' ⟨rfl, rfl⟩)
  | (go_at_call 85; refine HP.out.mono ?_; rintro e w' ⟨rfl, rfl⟩)
  | (refine wpList_copy_own rfl _ _ 58 58 rfl 5 Tryz.underlying58 HI.out gb (p * 512) 512 (n * 512 - p * 512) ad 512 c rfl rfl bs 5 hg cs (by rw [Hlen.out]; rfl) Hsrc.out hfit h1 ?_; (show wpList _ _ _ _ _ (w.setRow gb (splice bs.toList (p * 512) cs).toArray)); rw [HW2.out]))
 go_ret
 exact ⟨rfl, rfl⟩
end
end Go.Proofs.YtebobcbaloddaaaGreat
namespace Go.Proofs.YtebobcbaloddaaaGreat
section
set_option linter.unusedSimpArgs false
set_option linter.unusedVariables false
open Go.RowKit
def RetBytes (w : World) (m : Nat) (bs : Array Value) (e : Ending) (w' : World) : Prop := e = .returned (.slice (some ⟨w.heap.size, 0, none⟩) m m) ∧ Blk w' w.heap.size 5 bs ∧ Below w.heap.size w w'
theorem splice_all (a b : List Value) (h : a.length = b.length) : splice a 0 b = b := by simp [splice, h]
set_option maxHeartbeats 1000000 in
theorem image_any {w : World} {g gb gt n : Nat} {bs ts : Array Value} (h : Dk w g gb gt n bs ts) (hn : n ≤ 1000000) (h1n : 1 ≤ n) (h1 : ∀ v ∈ bs.toList, v.oneCell' = true) :
 Calls Tryz.prog 37 #[.pointer (some ⟨g, 0, none⟩)] w (RetBytes w (n * 512) bs) := by
 obtain ⟨i0, hi0, hz0, hs0, hy0⟩ := int_info8 Tryz.infoU8
 have mk0 : ∀ W, (Instr.makeSlice 58 (.int .i64 ((n : Int) * 512)) (.int .i64 ((n : Int) * 512))).run Tryz.prog W = .ok (.slice (some ⟨W.heap.size, 0, none⟩) (n * 512) (n * 512)) (W.alloc (.cells (zeroBytes n) 5)) := by
  intro W
  have h := run_make (P := Tryz.prog) W 58 5 i0 (.int .u8 0) Tryz.underlying58 hi0 hz0 .i64 .i64 ((n : Int) * 512) ((n : Int) * 512) (by omega) (by omega) (by rw [hy0]; omega) (by omega)
  have e : ((n : Int) * 512).toNat = n * 512 := by omega
  rw [e, hs0, Nat.mul_one] at h
  exact h
 clear hi0 hz0 hs0 hy0
 have c0 : w.cell? ⟨g, 0, none⟩ = some (.slice (some ⟨gb, 0, none⟩) (n * 512) (n * 512)) := h.d.cell 0
 have hgl := h.d.lt
 have hbl := h.b.lt
 have hbs : bs.toList.length = n * 512 := by simpa using h.hb
 have hZ : (zeroBytes n).size = n * 512 := by simp [zeroBytes, size_madeCells]
 have hsrc : Hid (∀ W, Below w.heap.size w W → ∀ j v, bs.toList[j]? = some v → W.cell? ((⟨gb, 0, none⟩ : Addr).add j) = some v) := by
  intro W hW j v hv
  rw [add_head, (h.b.below hW hbl).cell]
  simpa using hv
 have hinfo : (Tryz.prog.info? 5).map (·.size) = some 1 := by kernel_rfl
 have HI := Lib.hid hinfo; clear hinfo
 have Hbs := Lib.hid hbs; clear hbs
 have HZ := Lib.hid hZ; clear hZ
 have hne : ((w.alloc (.cells (zeroBytes n) 5)).setRow w.heap.size (splice (zeroBytes n).toList 0 bs.toList).toArray) = ((w.alloc (.cells (zeroBytes n) 5)).setRow w.heap.size bs) := by
  rw [splice_all _ _ (by rw [Hbs.out]; simpa using HZ.out)]
 have HNE := Lib.hid hne; clear hne
 have hB : Below w.heap.size w ((w.alloc (.cells (zeroBytes n) 5)).setRow w.heap.size bs) := below_setRow (ball (Below.refl _ _) _) (Nat.le_refl _) _
 have hBk : Blk ((w.alloc (.cells (zeroBytes n) 5)).setRow w.heap.size bs) w.heap.size 5 bs := setRow_at (Blk.new _ _ _)
 have HB := Lib.hid (And.intro hB hBk); clear hB hBk
 clear h
 obtain ⟨W2, hW2⟩ : ∃ W2, ((w.alloc (.cells (zeroBytes n) 5)).setRow w.heap.size bs) = W2 := ⟨_, rfl⟩
 rw [hW2] at HB HNE
 clear hW2
 go_enter Tryz.func37, Tryz.ntmps37
 go_wp2_with (refine wpList_copy_own rfl _ _ 58 58 rfl 5 Tryz.underlying58 HI.out w.heap.size 0 (n * 512) (n * 512) ⟨gb, 0, none⟩ (n * 512) (n * 512) rfl rfl (zeroBytes n) 5 (Blk.new _ _ _) bs.toList (by rw [Hbs.out]; simp) (hsrc.out _ (ball (Below.refl _ _) _)) (by rw [Hbs.out, HZ.out]; omega) h1 ?_; (show wpList _ _ _ _ _ ((w.alloc (.cells (zeroBytes n) 5)).setRow w.heap.size (splice (zeroBytes n).toList 0 bs.toList).toArray)); rw [HNE.out])
 go_ret
 exact ⟨rfl, HB.out.2, HB.out.1⟩
end
end Go.Proofs.YtebobcbaloddaaaGreat
