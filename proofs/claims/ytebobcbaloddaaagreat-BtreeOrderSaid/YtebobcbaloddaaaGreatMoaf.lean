/-
  Df Dg.
-/
import Derived.Test.YtebobcbaloddaaaGreatMoae
import Derived.Laws.CopyOwn
namespace Go.Proofs.YtebobcbaloddaaaGreat
section
set_option linter.unusedSimpArgs false
set_option linter.unusedVariables false
open Go.RowKit
theorem ret_slice {A : Option Addr} {n n' c : Nat} (h : n = n') : Ending.returned (.slice A n c) = .returned (.slice A n' c) := by rw [h]
theorem dpage_any {w : World} {g gb gt n : Nat} {bs ts : Array Value} (h : Dk w g gb gt n bs ts) (p : Nat) (hp : p < n) (hn : n ≤ 1000000) :
 Calls Tryz.prog 85 #[.pointer (some ⟨g, 0, none⟩), .int .u32 p] w fun e w' => e = .returned (.slice (some ⟨gb, p * 512, none⟩) 512 (n * 512 - p * 512)) ∧ w = w' := by
 have c0 : w.cell? ⟨g, 0, none⟩ = some (.slice (some ⟨gb, 0, none⟩) (n * 512) (n * 512)) := h.d.cell 0
 have g1 : (0 : Int) ≤ (p : Int) * 512 := by omega
 have g2 : (p : Int) * 512 + 512 ≤ (n : Int) * 512 := by omega
 have g3 : ¬ n * 512 = p * 512 := by omega
 have g4 : p * 512 + 512 ≤ n * 512 := by omega
 clear h
 go_enter Tryz.func85, Tryz.ntmps85
 go_wp2
 go_ret
 exact ⟨ret_slice (by omega), rfl⟩
theorem setRow_far {w : World} {g gb : Nat} {t : TypeId} {cs new : Array Value} (h : Blk w g t cs) (hne : g ≠ gb) : Blk (w.setRow gb new) g t cs := (setRow_other w gb g new hne).trans h
theorem setRow_at {w : World} {g : Nat} {t : TypeId} {cs new : Array Value} (h : Blk w g t cs) : Blk (w.setRow g new) g t new := setRow_heap w g _ _ t _ h
theorem Dk.wrote {w : World} {g gb gt n : Nat} {bs ts new : Array Value} (h : Dk w g gb gt n bs ts) (hn : new.size = n * 512) : Dk (w.setRow gb new) g gb gt n new ts :=
 ⟨setRow_far h.d (Blk.ne_ h.d h.b (by decide)), setRow_at h.b, setRow_far h.t (Blk.ne_ h.t h.b (by decide)), hn, h.ht⟩
set_option maxHeartbeats 1000000 in
theorem write_ok {w : World} {g gb gt n : Nat} {bs ts : Array Value} (h : Dk w g gb gt n bs ts) (p : Nat) (hp : p < n) (hn : n ≤ 1000000) (ad : Addr) (c B : Nat) (cs : List Value) (hr : Reads w B 1 (some ad) 512 cs) (h1 : ∀ v ∈ cs, v.oneCell' = true) (u : Value) (hu : ts[p]? = some u) :
 Calls Tryz.prog 51 #[.pointer (some ⟨g, 0, none⟩), .int .u32 p, .slice (some ad) 512 c] w fun e w' => e = .returned (.int .i64 0) ∧ (w.setRow gb (splice bs.toList (p * 512) cs).toArray).setCell ⟨gt, p, none⟩ (.bool true) = w' := by
 have HB := Lib.hid (has_any h p (by omega) (by omega) hn)
 have HP := Lib.hid (dpage_any h p hp hn)
 have hlen : cs.length = 512 := by have := hr.1; omega
 have hfit : p * 512 + cs.length ≤ bs.size := by rw [h.hb, hlen]; omega
 have hsz : (splice bs.toList (p * 512) cs).toArray.size = n * 512 := by
  rw [List.size_toArray, length_splice _ _ _ (by simpa using hfit)]
  simpa using h.hb
 have h2 := h.wrote hsz
 have c1 : (w.setRow gb (splice bs.toList (p * 512) cs).toArray).cell? ⟨g, 1, none⟩ = some (.slice (some ⟨gt, 0, none⟩) n n) := h2.d.cell 1
 have c2 : (w.setRow gb (splice bs.toList (p * 512) cs).toArray).cell? ⟨gt, p, none⟩ = some u := (h2.t.cell p).trans hu
 have c3 := h2.t.frozen p
 have hg := h.b
 have hsrc : ∀ j v, cs[j]? = some v → w.cell? (ad.add j) = some v := by
  obtain ⟨ad', e, _, hc⟩ := hr.2 (by omega)
  injection e with e
  subst e
  exact hc
 have Hsrc := Lib.hid hsrc; clear hsrc
 have hd : decide ((p : Int) < (n : Int)) = true := decide_eq_true (by omega)
 have g1 : (0 : Int) ≤ (p : Int) := by omega
 have g2 : (p : Int) < (n : Int) := by omega
 have hinfo : (Tryz.prog.info? 5).map (·.size) = some 1 := by kernel_rfl
 have HI := Lib.hid hinfo; clear hinfo
 have Hlen := Lib.hid hlen; clear hlen
 clear hsz h2 hr hu
 obtain ⟨W2, hW2⟩ : ∃ W2, w.setRow gb (splice bs.toList (p * 512) cs).toArray = W2 := ⟨_, rfl⟩
 rw [hW2] at c1 c2 c3 ⊢
 have HW2 := Lib.hid hW2; clear hW2
 go_enter Tryz.func51, Tryz.ntmps51
 go_wp2_with (first
  | (go_at_call 84; refine HB.out.mono ?_; rintro e w' ⟨rfl, rfl⟩)
  | (go_at_call 85; refine HP.out.mono ?_; rintro e w' ⟨rfl, rfl⟩)
  | (refine wpList_copy_own rfl _ _ 58 58 rfl 5 Tryz.underlying58 HI.out gb (p * 512) 512 (n * 512 - p * 512) ad 512 c rfl rfl bs 5 hg cs (by rw [Hlen.out]; rfl) Hsrc.out hfit h1 ?_; (show wpList _ _ _ _ _ (w.setRow gb (splice bs.toList (p * 512) cs).toArray)); rw [HW2.out]))
 go_ret
 exact ⟨rfl, rfl⟩
end
end Go.Proofs.YtebobcbaloddaaaGreat
namespace Go.Proofs.YtebobcbaloddaaaGreat
section
set_option linter.unusedSimpArgs false
set_option linter.unusedVariables false
open Go.RowKit
theorem splice_all (a b : List Value) (h : a.length = b.length) : splice a 0 b = b := by simp [splice, h]
end
end Go.Proofs.YtebobcbaloddaaaGreat
