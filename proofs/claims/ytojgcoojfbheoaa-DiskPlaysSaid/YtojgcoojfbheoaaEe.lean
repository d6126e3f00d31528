/-
  The law DiskPlays: what the loop holds.
-/
import Derived.Test.YtojgcoojfbheoaaEd
namespace Go.Proofs.Ytojgcoojfbheoaa
open Go.RowKit

/-- The reference's disk in its variable: what it reads as, and that the program's disk lies elsewhere. -/
structure RP (w : World) (B M n gb gt : Nat) (ps : List (List UInt8)) (T : List Bool) (A : Option Addr) (c : Nat) (A2 : Option Addr) (c2 : Nat) : Prop where
  m : Blk w M 31 #[.slice A n c, .slice A2 n c2]
  r1 : Reads w w.heap.size 1 A n (sL ps)
  r2 : Reads w w.heap.size 1 A2 n (tL T)
  c1 : n ≤ c
  c2 : n ≤ c2
  f1 : ∀ ad, A = some ad → ad.block ≠ gb ∧ ad.block ≠ gt ∧ ad.block ≠ M
  f2 : ∀ ad, A2 = some ad → ad.block ≠ gb ∧ ad.block ≠ gt ∧ ad.block ≠ M
  lo : B ≤ M
  o1 : M ≠ gb
  o2 : M ≠ gt
section
variable {w w' : World} {B M n g gb gt : Nat} {ps ps' : List (List UInt8)} {T T' : List Bool} {A A2 : Option Addr} {c c2 : Nat}
theorem RP.below (h : RP w B M n gb gt ps T A c A2 c2) (hb : Below w.heap.size w w') : RP w' B M n gb gt ps T A c A2 c2 :=
  ⟨h.m.below hb h.m.lt, (h.r1.below hb).more hb.size, (h.r2.below hb).more hb.size, h.c1, h.c2, h.f1, h.f2, h.lo, h.o1, h.o2⟩
theorem RP.left (h : RP w B M n gb gt ps T A c A2 c2) (hl : Left w w' g gb gt n ps' T') : RP w' B M n gb gt ps T A c A2 c2 := by
  obtain ⟨_, _, h2, h3⟩ := hl
  refine ⟨h.m.same_ (h2 M h.o1 h.o2), ?_, ?_, h.c1, h.c2, h.f1, h.f2, h.lo, h.o1, h.o2⟩
  · rw [h3]; exact h.r1.same_ fun ad hA _ => h2 _ (h.f1 ad hA).1 (h.f1 ad hA).2.1
  · rw [h3]; exact h.r2.same_ fun ad hA _ => h2 _ (h.f2 ad hA).1 (h.f2 ad hA).2.1
/-- Another disk of the program's, made later. -/
theorem RP.other (h : RP w B M n gb gt ps T A c A2 c2) (hn : 1 ≤ n) {gb' gt' : Nat} (h1 : w.heap.size ≤ gb') (h2 : w.heap.size ≤ gt') : RP w B M n gb' gt' ps T A c A2 c2 := by
  have hm := h.m.lt
  refine ⟨h.m, h.r1, h.r2, h.c1, h.c2, fun ad hA => ?_, fun ad hA => ?_, h.lo, by omega, by omega⟩
  · obtain ⟨ad', e, hb, _⟩ := h.r1.2 (by omega)
    rw [hA] at e; injection e with e; subst e
    exact ⟨by omega, by omega, (h.f1 ad hA).2.2⟩
  · obtain ⟨ad', e, hb, _⟩ := h.r2.2 (by omega)
    rw [hA] at e; injection e with e; subst e
    exact ⟨by omega, by omega, (h.f2 ad hA).2.2⟩
theorem RP.start {L : Nat} (hn : 1 ≤ n) (h1 : Reads w w.heap.size 1 A n (sL ps)) (h2 : Reads w w.heap.size 1 A2 n (tL T)) (c1 : n ≤ c) (c2' : n ≤ c2) (l1 : ∀ ad, A = some ad → L ≤ ad.block) (l2 : ∀ ad, A2 = some ad → L ≤ ad.block) (hB : B ≤ w.heap.size) (hb : gb < L) (ht : gt < L) (hL : L ≤ w.heap.size) :
    RP (w.alloc (.cells #[.slice A n c, .slice A2 n c2] 31)) B w.heap.size n gb gt ps T A c A2 c2 := by
  have hz : (w.alloc (.cells #[.slice A n c, .slice A2 n c2] 31)).heap.size = w.heap.size + 1 := by simp
  refine ⟨Blk.new _ _ _, (h1.alloc (Nat.le_refl _) _).more (by omega), (h2.alloc (Nat.le_refl _) _).more (by omega), c1, c2', fun ad hA => ?_, fun ad hA => ?_, hB, by omega, by omega⟩
  · obtain ⟨ad', e, hb, _⟩ := h1.2 (by omega)
    rw [hA] at e; injection e with e; subst e
    have := l1 ad hA
    exact ⟨by omega, by omega, by omega⟩
  · obtain ⟨ad', e, hb, _⟩ := h2.2 (by omega)
    rw [hA] at e; injection e with e; subst e
    have := l2 ad hA
    exact ⟨by omega, by omega, by omega⟩
/-- The variable is written anew: new pages, new marks. -/
theorem RP.stored (h : Blk w M 31 #[.slice A n c, .slice A2 n c2]) {A' A2' : Option Addr} {c' c2' : Nat} (hr1 : Reads w w.heap.size 1 A' n (sL ps')) (hr2 : Reads w w.heap.size 1 A2' n (tL T')) (hc1 : n ≤ c') (hc2 : n ≤ c2')
    (hf1 : ∀ ad, A' = some ad → ad.block ≠ gb ∧ ad.block ≠ gt ∧ ad.block ≠ M) (hf2 : ∀ ad, A2' = some ad → ad.block ≠ gb ∧ ad.block ≠ gt ∧ ad.block ≠ M) (lo : B ≤ M) (o1 : M ≠ gb) (o2 : M ≠ gt) :
    RP ((w.setCell ⟨M, 0, none⟩ (.slice A' n c')).setCell ⟨M, 1, none⟩ (.slice A2' n c2')) B M n gb gt ps' T' A' c' A2' c2' :=
  ⟨(h.set_ 0 _).set_ 1 _, reads_far (reads_far hr1 (p := ⟨M, 0, none⟩) (fun ad h => (hf1 ad h).2.2) _) (p := ⟨M, 1, none⟩) (fun ad h => (hf1 ad h).2.2) _, reads_far (reads_far hr2 (p := ⟨M, 0, none⟩) (fun ad h => (hf2 ad h).2.2) _) (p := ⟨M, 1, none⟩) (fun ad h => (hf2 ad h).2.2) _, hc1, hc2, hf1, hf2, lo, o1, o2⟩
theorem DP.store {p : Addr} (h : DP w g gb gt n ps T) (h1 : g ≠ p.block) (h2 : gb ≠ p.block) (h3 : gt ≠ p.block) (u : Value) : DP (w.setCell p u) g gb gt n ps T :=
  ⟨⟨h.dk.d.far h1 u, h.dk.b.far h2 u, h.dk.t.far h3 u, h.dk.hb, h.dk.ht⟩, h.full, h.hp⟩
end
theorem clear_blk {w : World} {g n c : Nat} {l : List UInt8} (h : Blk w g 5 (bV l)) (hn : l.length = n) :
    ∃ w', (∀ ty, (Builtin.clear_ #[37] ty #[.slice (some ⟨g, 0, none⟩) n c]).run Try.prog w = .ok (.tuple #[]) w') ∧ (∀ B w0, B ≤ g → Below B w0 w → Below B w0 w') ∧ (∀ g', g' < w.heap.size → g' ≠ g → w'.heap[g']? = w.heap[g']?) ∧ w'.heap.size = w.heap.size :=
  clear_row g n c (fun j hj => by rw [h.cell, Array.getElem?_eq_getElem (by rw [bV_size]; omega)]; rfl) (fun j _ => h.frozen j)
theorem RP.turn {w : World} {B M n gb gt gb' gt' : Nat} {ps : List (List UInt8)} {T : List Bool} {A A2 : Option Addr} {c c2 : Nat} (h : RP w B M n gb gt ps T A c A2 c2) (h1 : ∀ ad, A = some ad → ad.block ≠ gb' ∧ ad.block ≠ gt') (h2 : ∀ ad, A2 = some ad → ad.block ≠ gb' ∧ ad.block ≠ gt') (o1 : M ≠ gb') (o2 : M ≠ gt') : RP w B M n gb' gt' ps T A c A2 c2 :=
  ⟨h.m, h.r1, h.r2, h.c1, h.c2, fun ad hA => ⟨(h1 ad hA).1, (h1 ad hA).2, (h.f1 ad hA).2.2⟩, fun ad hA => ⟨(h2 ad hA).1, (h2 ad hA).2, (h.f2 ad hA).2.2⟩, h.lo, o1, o2⟩
theorem DP.beside {w w' : World} {n g gb gt g' gb' gt' : Nat} {ps ps2 : List (List UInt8)} {T T2 : List Bool} (h : DP w g' gb' gt' n ps T) (hl : Left w w' g gb gt n ps2 T2) (h1 : g' ≠ gb ∧ g' ≠ gt) (h2 : gb' ≠ gb ∧ gb' ≠ gt) (h3 : gt' ≠ gb ∧ gt' ≠ gt) : DP w' g' gb' gt' n ps T :=
  ⟨⟨h.dk.d.same_ (hl.2.2.1 g' h1.1 h1.2), h.dk.b.same_ (hl.2.2.1 gb' h2.1 h2.2), h.dk.t.same_ (hl.2.2.1 gt' h3.1 h3.2), h.dk.hb, h.dk.ht⟩, h.full, h.hp⟩
/-- Behind a clear of another block. -/
theorem RP.cleared {w w' : World} {B M n gb gt gc : Nat} {ps : List (List UInt8)} {T : List Bool} {A A2 : Option Addr} {c c2 : Nat} (h : RP w B M n gb gt ps T A c A2 c2) (hch : ∀ g', g' < w.heap.size → g' ≠ gc → w'.heap[g']? = w.heap[g']?) (hs : w'.heap.size = w.heap.size) (hM : M ≠ gc) (ha : ∀ ad, A = some ad → ad.block ≠ gc) (ha2 : ∀ ad, A2 = some ad → ad.block ≠ gc) : RP w' B M n gb gt ps T A c A2 c2 :=
  ⟨h.m.same_ (hch M h.m.lt hM), by rw [hs]; exact h.r1.same_ fun ad hA hb => hch _ hb (ha ad hA), by rw [hs]; exact h.r2.same_ fun ad hA hb => hch _ hb (ha2 ad hA), h.c1, h.c2, h.f1, h.f2, h.lo, h.o1, h.o2⟩
theorem DP.cleared {w w' : World} {n g gb gt gc : Nat} {ps : List (List UInt8)} {T : List Bool} (h : DP w g gb gt n ps T) (hch : ∀ g', g' < w.heap.size → g' ≠ gc → w'.heap[g']? = w.heap[g']?) (h1 : g ≠ gc) (h2 : gb ≠ gc) (h3 : gt ≠ gc) : DP w' g gb gt n ps T :=
  ⟨⟨h.dk.d.same_ (hch g h.dk.d.lt h1), h.dk.b.same_ (hch gb h.dk.b.lt h2), h.dk.t.same_ (hch gt h.dk.t.lt h3), h.dk.hb, h.dk.ht⟩, h.full, h.hp⟩
theorem RP.under {w : World} {B M n gb gt : Nat} {ps : List (List UInt8)} {T : List Bool} {A A2 : Option Addr} {c c2 : Nat} (h : RP w B M n gb gt ps T A c A2 c2) (hn : 1 ≤ n) : (∀ ad, A = some ad → ad.block < w.heap.size) ∧ (∀ ad, A2 = some ad → ad.block < w.heap.size) := by
  refine ⟨fun ad hA => ?_, fun ad hA => ?_⟩
  · obtain ⟨ad', e, hb, _⟩ := h.r1.2 (by omega)
    rw [hA] at e; injection e with e; subst e
    exact hb
  · obtain ⟨ad', e, hb, _⟩ := h.r2.2 (by omega)
    rw [hA] at e; injection e with e; subst e
    exact hb
theorem slice1 (g : Nat) (W : World) : (Instr.slice 37 (.slice (some ⟨g, 0, none⟩) 512 512) (some (.int .i64 1)) none none).run Try.prog W = .ok (.slice (some ⟨g, 1, none⟩) 511 511) W := by
  rw [run_slice_l W 37 (some ⟨g, 0, none⟩) 512 512 Try.sliceB .i64 1 (by omega) (by omega), Try.elemB, Try.sizeB]
  simp [sliced, Result.andThen, Addr.add]
theorem clear_nil (w : World) (c : Nat) (ty : TypeId) : (Builtin.clear_ #[37] ty #[.slice none 0 c]).run Try.prog w = .ok (.tuple #[]) w := by
  have ht : Try.prog.underlying 37 = some (.slice 5) := Try.underlying37
  simp [Builtin.clear_, run_underlying ht, Sem.run_pure]
end Go.Proofs.Ytojgcoojfbheoaa
