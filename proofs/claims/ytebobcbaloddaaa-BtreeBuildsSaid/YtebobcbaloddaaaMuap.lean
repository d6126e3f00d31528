/-
  Several texts in one: Dh.
-/
import Derived.Test.YtebobcbaloddaaaMuaf
import Derived.Test.YtebobcbaloddaaaMuad
import Derived.Test.YtebobcbaloddaaaMuac
import Derived.Deep.RegionHeld3
import Derived.BigGuardPart
import Derived.BigQuiet
/-
  The law DiskApart's walk: pages written, the loop over the operations.
-/
namespace Go.Proofs.Ytebobcbaloddaaa
section
set_option linter.unusedSimpArgs false
set_option linter.unusedVariables false
open Go.RowKit

theorem fillA_rep (b : UInt8) (n : Nat) : fillA (b.toNat : Int) n n = bV (List.replicate n b) := by
  apply Array.ext
  · simp [fillA, bV_size]
  · intro j h1 h2
    have hj : j < n := by simpa [fillA] using h1
    have : (bV (List.replicate n b))[j]? = some (.int .u8 (b.toNat : Int)) := bV_at (by simp [hj])
    rw [Array.getElem?_eq_getElem h2] at this
    simp only [fillA, Array.getElem_ofFn, if_pos hj]
    exact (Option.some.inj this).symm
theorem zero_rep (n : Nat) : zeroBytes n = bV (List.replicate (n * 512) 0) := by
  apply Array.ext
  · simp [zeroBytes, bV_size, size_madeCells]
  · intro j h1 h2
    have hj : j < n * 512 := by simpa [zeroBytes, size_madeCells] using h1
    have : (bV (List.replicate (n * 512) 0))[j]? = some (.int .u8 ((0 : UInt8).toNat : Int)) := bV_at (by simp [hj])
    rw [Array.getElem?_eq_getElem h2] at this
    rw [Option.some.inj this]
    simp [zeroBytes, madeCells, Nat.mod_one]
theorem byte_of {x : Int} (h0 : 0 ≤ x) (h1 : x ≤ 255) : ∃ b : UInt8, x = (b.toNat : Int) := ⟨UInt8.ofNat x.toNat, by simp; omega⟩
/-- A disk that holds these bytes. -/
def DkL (w : World) (g gb gt n : Nat) (L : List UInt8) : Prop := L.length = n * 512 ∧ ∃ ts, Dk w g gb gt n (bV L) ts
theorem DkL.below {w w' : World} {g gb gt n B : Nat} {L : List UInt8} (h : DkL w g gb gt n L) (hb : Below B w w') (h1 : g < B) (h2 : gb < B) (h3 : gt < B) : DkL w' g gb gt n L := by
  obtain ⟨hl, ts, hd⟩ := h
  exact ⟨hl, ts, hd.below hb h1 h2 h3⟩
theorem DkL.lts {w : World} {g gb gt n : Nat} {L : List UInt8} (h : DkL w g gb gt n L) : g < w.heap.size ∧ gb < w.heap.size ∧ gt < w.heap.size := by
  obtain ⟨hl, ts, hd⟩ := h
  exact ⟨hd.d.lt, hd.b.lt, hd.t.lt⟩
/-- What a write leaves: the disk with these bytes; every other block as it was. -/
def Wrote (w : World) (g gb gt n : Nat) (L : List UInt8) (e : Ending) (w' : World) : Prop :=
  e = .returned (.int .i64 0) ∧ DkL w' g gb gt n L ∧ (∀ B, B ≤ gb → B ≤ gt → Below B w w') ∧ (∀ g', g' ≠ gb → g' ≠ gt → w'.heap[g']? = w.heap[g']?) ∧ w'.heap.size = w.heap.size
theorem writeL {w : World} {g gb gt n : Nat} {L : List UInt8} (h : DkL w g gb gt n L) (p : Nat) (hp : p < n) (hn : n ≤ 1000000) (ad : Addr) (c B : Nat) (r : List UInt8) (hr : Reads w B 1 (some ad) 512 (bL r)) :
    Calls Try.prog 36 #[.pointer (some ⟨g, 0, none⟩), .int .u32 p, .slice (some ad) 512 c] w (Wrote w g gb gt n (splice L (p * 512) r)) := by
  obtain ⟨hl, ts, hd⟩ := h
  have hu : ts[p]? = some (ts[p]'(by rw [hd.ht]; exact hp)) := Array.getElem?_eq_getElem _
  have hrl : r.length = 512 := by have := hr.1; rw [bL_len] at this; omega
  refine (write_ok hd p hp hn ad c B (bL r) hr (bL_one r) _ hu).mono ?_
  rintro e w' ⟨rfl, rfl⟩
  rw [splice_bV]
  have hl2 : (splice L (p * 512) r).length = n * 512 := by rw [length_splice _ _ _ (by omega), hl]
  have h1 := hd.wrote (new := bV (splice L (p * 512) r)) (by rw [bV_size, hl2])
  refine ⟨rfl, ⟨hl2, _, h1.mark p _⟩, ?_, ?_, ?_⟩
  · intro B h1 h2
    exact (below_setRow (Below.refl _ _) h1 _).setCell h2 _
  · intro g' h1 h2
    exact (Below.heap_setCell _ _ _ _ h2).trans (setRow_other _ _ _ _ h1)
  · simp [World.setCell, World.setRow]
end
end Go.Proofs.Ytebobcbaloddaaa
