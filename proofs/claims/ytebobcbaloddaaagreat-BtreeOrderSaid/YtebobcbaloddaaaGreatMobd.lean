/-
  Dx Ea Eb Zd Ec Ed.
-/
import Derived.Test.YtebobcbaloddaaaGreatMoax
import Derived.Test.YtebobcbaloddaaaGreatMoau
import Derived.Test.YtebobcbaloddaaaGreatMoac
import Derived.Test.YtebobcbaloddaaaGreatMoak
import Derived.Lib.ConvBytes
import Derived.Lib.SliceRun
import Derived.Deep.Upon
namespace Go.Proofs.YtebobcbaloddaaaGreat
section
set_option linter.unusedSimpArgs false
set_option linter.unusedVariables false
open Go.RowKit
theorem Reads.same_ {w w' : World} {B size n : Nat} {A : Option Addr} {xs : List Value} (h : Reads w B size A n xs) (e : ∀ ad, A = some ad → ad.block < B → w'.heap[ad.block]? = w.heap[ad.block]?) : Reads w' B size A n xs :=
 ⟨h.1, fun hn => by
  obtain ⟨ad, hA, hb, hc⟩ := h.2 hn
  exact ⟨ad, hA, hb, fun j u hu => (World.cell?_of_block (by rw [block_of_add]; exact e ad hA hb)).trans (hc j u hu)⟩⟩
end
end Go.Proofs.YtebobcbaloddaaaGreat
namespace Go.Proofs.YtebobcbaloddaaaGreat
section
set_option linter.unusedSimpArgs false
set_option linter.unusedVariables false
open Go.RowKit
end
end Go.Proofs.YtebobcbaloddaaaGreat
namespace Go.Proofs.YtebobcbaloddaaaGreat
section
set_option linter.unusedSimpArgs false
set_option linter.unusedVariables false
open Go.RowKit
def Left (w w' : World) (g gb gt n : Nat) (ps : List (List UInt8)) (T : List Bool) : Prop :=
 DP w' g gb gt n ps T ∧ (∀ B, B ≤ gb → B ≤ gt → Below B w w') ∧ (∀ g', g' ≠ gb → g' ≠ gt → w'.heap[g']? = w.heap[g']?) ∧ w'.heap.size = w.heap.size
theorem writeDP {w : World} {g gb gt n : Nat} {ps : List (List UInt8)} {T : List Bool} (h : DP w g gb gt n ps T) (p : Nat) (hp : p < n) (hn : n ≤ 1000000) (ad : Addr) (c B : Nat) (q : List UInt8) (hr : Reads w B 1 (some ad) 512 (bL q)) :
 Calls Tryz.prog 51 #[.pointer (some ⟨g, 0, none⟩), .int .u32 p, .slice (some ad) 512 c] w fun e w' => e = .returned (.int .i64 0) ∧ Left w w' g gb gt n (ps.set p q) (T.set p true) := by
 have hT := h.hT
 have hql : q.length = 512 := hr.bytes_len
 refine (write_ok h.dk p hp hn ad c B (bL q) hr (bL_one q) (.bool (T[p]'(by omega))) (tV_at (List.getElem?_eq_getElem (by omega)))).mono ?_
 rintro e w' ⟨rfl, rfl⟩
 have hfl := pflat_len ps h.full
 rw [splice_bV, pflat_set ps h.full p q (by rw [h.hp]; exact hp) hql]
 have hf2 := full_set h.full p hql
 have h1 := h.dk.wrote (new := bV (ps.set p q).flatten) (by rw [bV_size, pflat_len _ hf2, List.length_set, h.hp])
 refine ⟨rfl, ⟨by rw [← tV_set]; exact h1.mark p _, hf2, by rw [List.length_set, h.hp]⟩, ?_, ?_, ?_⟩
 · intro B h1 h2
   exact (below_setRow (Below.refl _ _) h1 _).setCell h2 _
 · intro g' h1 h2
   exact (Below.heap_setCell _ _ _ _ h2).trans (setRow_other _ _ _ _ h1)
 · simp [World.setCell, World.setRow]
theorem takeDP {w : World} {g gb gt n : Nat} {ps : List (List UInt8)} {T : List Bool} (h : DP w g gb gt n ps T) (hn : n ≤ 1000000) (i : Nat) (hi : T[i]? = some false) (hj : ∀ j : Nat, j < i → T[j]? = some true) :
 Calls Tryz.prog 67 #[.pointer (some ⟨g, 0, none⟩)] w fun e w' => e = .returned (.tuple #[.int .u32 i, .int .i64 0]) ∧ Left w w' g gb gt n ps (T.set i true) := by
 refine (take_at h.dk hn i (tV_at hi) (fun j h => tV_at (hj j h))).mono ?_
 rintro e w' ⟨rfl, rfl⟩
 refine ⟨rfl, h.mark i true, ?_, ?_, ?_⟩
 · intro B h1 h2
   exact (Below.refl _ _).setCell h2 _
 · intro g' h1 h2
   exact Below.heap_setCell _ _ _ _ h2
 · simp [World.setCell]
theorem take_fullDP {w : World} {g gb gt n : Nat} {ps : List (List UInt8)} {T : List Bool} (h : DP w g gb gt n ps T) (hn : n ≤ 1000000) (hj : ∀ j : Nat, j < n → T[j]? = some true) :
 Calls Tryz.prog 67 #[.pointer (some ⟨g, 0, none⟩)] w fun e w' => e = .returned (.tuple #[.int .u32 0, .int .i64 7]) ∧ w = w' :=
 take_full h.dk hn (fun j h => tV_at (hj j h))
theorem reads_far {w : World} {size n : Nat} {A : Option Addr} {xs : List Value} (h : Reads w w.heap.size size A n xs) {p : Addr} (hp : ∀ ad, A = some ad → ad.block ≠ p.block) (u : Value) : Reads (w.setCell p u) (w.setCell p u).heap.size size A n xs := by
 have e : (w.setCell p u).heap.size = w.heap.size := by simp [World.setCell]
 rw [e]
 exact h.same_ fun ad hA _ => Below.heap_setCell _ _ _ _ (hp ad hA)
end
end Go.Proofs.YtebobcbaloddaaaGreat
namespace Go.Proofs.YtebobcbaloddaaaGreat
section
set_option linter.unusedSimpArgs false
set_option linter.unusedVariables false
set_option linter.unusedSimpArgs false
set_option linter.unusedVariables false
open Go.RowKit
end
end Go.Proofs.YtebobcbaloddaaaGreat
namespace Go.Proofs.YtebobcbaloddaaaGreat
section
set_option linter.unusedSimpArgs false
set_option linter.unusedVariables false
open Go.RowKit
end
end Go.Proofs.YtebobcbaloddaaaGreat
namespace Go.Proofs.YtebobcbaloddaaaGreat
section
set_option linter.unusedSimpArgs false
set_option linter.unusedVariables false
open Go.RowKit
def zb (n : Nat) : List UInt8 := List.replicate (n * 512) 0
theorem zb_len (n : Nat) : (zb n).length = n * 512 := List.length_replicate
theorem zb_marks (n : Nat) (h : 1 ≤ n) : marksOf (zb n) n = true :: List.replicate (n - 1) false := by
 apply List.ext_getElem
 · rw [marksOf_len, List.length_cons, List.length_replicate]; omega
 · intro i h1 h2
   rw [marksOf_len] at h1
   have hm : (marksOf (zb n) n)[i] = mark (zb n) i := by simp [marksOf]
   rw [hm]
   have hz : (zb n)[i * 512]? = some 0 := by
    unfold zb
    rw [List.getElem?_replicate, if_pos (by omega)]
   unfold mark
   rw [hz]
   cases i with
   | zero => rfl
   | succ i => simp
theorem newDP (n : Nat) (h1 : 1 ≤ n) (h2 : n ≤ 4096) (w : World) : Calls Tryz.prog 10 #[.int .i64 n] w (RetDP w n (pagesOf (zb n) n) (marksOf (zb n) n)) := by
 refine (new_any n h1 h2 w).mono ?_
 rintro e w' ⟨g, gb, gt, rfl, hd, k1, k2, k3, hb⟩
 rw [newMarks_eq (zb n) n h1] at hd
 have e1 : marksP (zb n) n 0 = marksOf (zb n) n := by rw [zb_marks n h1]; rfl
 rw [e1, zero_rep] at hd
 have hfl := pagesOf_all (zb n) n (zb_len n)
 exact ⟨g, gb, gt, rfl, ⟨by rw [hfl]; exact hd, pagesOf_full _ _ (by rw [zb_len]; exact Nat.le_refl _), pagesOf_len _ _⟩, k1, k2, k3, hb⟩
end
end Go.Proofs.YtebobcbaloddaaaGreat
