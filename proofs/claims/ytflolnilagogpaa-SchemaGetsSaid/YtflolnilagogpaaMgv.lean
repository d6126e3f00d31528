/-
  Several texts in one: Jl.
-/
import Derived.Test.YtflolnilagogpaaMgt
import Derived.Test.YtflolnilagogpaaMgu
/-
  The reference's Get.
-/
namespace Go.Proofs.Ytflolnilagogpaa
section
set_option linter.unusedSimpArgs false
set_option linter.unusedVariables false
open Go.RowKit

def Aq (u1 u2 : Value) (T : Nat) (A : Option Addr) (n : Nat) : Prop := 0 < n → ∀ ad, A = some ad → T < ad.block ∧ u1.ownBlock ≠ some ad.block ∧ u2.ownBlock ≠ some ad.block
structure RG (w0 : World) (B2 : Nat) (u1 : Value) (k1 : Nat) (l : List Tb) (u2 : Value) (k2 : Nat) (x : List Ix) (r : List UInt8) (s : Bool) (W : World) : Prop where
  Z : Blk W w0.heap.size 25 #[.slice none 0 0, .slice none 0 0]
  G : Blk W (w0.heap.size + 1) 70 #[.string (str r), .bool s]
  T : Blk W (w0.heap.size + 1 + 1) 25 #[u1, u2]
  own1 : W.ownsRow (w0.heap.size + 1 + 1 + 1) 44 5 u1 k1 (vTb l)
  own2 : W.ownsRow B2 49 7 u2 k2 (vIx x)
  low : ∀ kk, u1.ownBlock = some kk → kk < B2
  hl : ∀ t ∈ l, TbOk W W.heap.size t ∧ Aq u1 u2 (w0.heap.size + 1 + 1) t.A t.n
  hx : ∀ y ∈ x, IxIn W W.heap.size y ∧ Aq u1 u2 (w0.heap.size + 1 + 1) y.A y.n ∧ Aq u1 u2 (w0.heap.size + 1 + 1) y.B y.m
  b : Below w0.heap.size w0 W
  lb : w0.heap.size + 1 + 1 + 1 ≤ B2
  sz : B2 ≤ W.heap.size
section
variable {w0 W W' : World} {B2 k1 k2 : Nat} {u1 u2 : Value} {l : List Tb} {x : List Ix} {r : List UInt8} {s : Bool}
theorem RG.els (h : RG w0 B2 u1 k1 l u2 k2 x r s W) (hs : W.heap.size ≤ W'.heap.size) (hh : ∀ b, b < W.heap.size → w0.heap.size + 1 + 1 < b → u1.ownBlock ≠ some b → u2.ownBlock ≠ some b → W'.heap[b]? = W.heap[b]?) :
    (∀ t ∈ l, TbOk W' W'.heap.size t) ∧ (∀ y ∈ x, IxIn W' W'.heap.size y) := by
  refine ⟨fun t ht => ?_, fun y hy => ?_⟩
  · obtain ⟨g1, g2⟩ := h.hl t ht
    refine g1.stay hs fun hn ad ha => ?_
    obtain ⟨a1, a2, a3⟩ := g2 hn ad ha
    exact hh _ (reads_lt g1.1.2.2.1 hn ad ha) a1 a2 a3
  · obtain ⟨g1, g2, g3⟩ := h.hx y hy
    refine g1.stay hs (fun hn ad ha => ?_) (fun hn ad ha => ?_)
    · obtain ⟨a1, a2, a3⟩ := g2 hn ad ha
      exact hh _ (reads_lt g1.2.1 hn ad ha) a1 a2 a3
    · obtain ⟨a1, a2, a3⟩ := g3 hn ad ha
      exact hh _ (reads_lt g1.2.2.1 hn ad ha) a1 a2 a3
theorem RG.call (h : RG w0 B2 u1 k1 l u2 k2 x r s W) (hb : Below W.heap.size W W') : RG w0 B2 u1 k1 l u2 k2 x r s W' := by
  obtain ⟨e1, e2⟩ := h.els hb.size (fun b hb' _ _ _ => hb.block b hb')
  exact ⟨h.Z.below hb h.Z.lt, h.G.below hb h.G.lt, h.T.below hb h.T.lt, own_belowR h.own1 hb, own_belowR h.own2 hb, h.low, fun t ht => ⟨e1 t ht, (h.hl t ht).2⟩, fun y hy => ⟨e2 y hy, (h.hx y hy).2⟩, bto0 h.b hb, h.lb, Nat.le_trans h.sz hb.size⟩
theorem RG.setG (h : RG w0 B2 u1 k1 l u2 k2 x r s W) (r' : List UInt8) (s' : Bool) : RG w0 B2 u1 k1 l u2 k2 x r' s' ((W.setCell ⟨w0.heap.size + 1, 0, none⟩ (.string (str r'))).setCell ⟨w0.heap.size + 1, 1, none⟩ (.bool s')) := by
  have hlb := h.lb
  have hsz : ((W.setCell ⟨w0.heap.size + 1, 0, none⟩ (.string (str r'))).setCell ⟨w0.heap.size + 1, 1, none⟩ (.bool s')).heap.size = W.heap.size := by simp [World.setCell]
  obtain ⟨e1, e2⟩ := h.els (W' := ((W.setCell ⟨w0.heap.size + 1, 0, none⟩ (.string (str r'))).setCell ⟨w0.heap.size + 1, 1, none⟩ (.bool s'))) (by rw [hsz]; exact Nat.le_refl _) (fun b _ hT _ _ => (Below.heap_setCell _ _ _ _ (by simp; omega)).trans (Below.heap_setCell _ _ _ _ (by simp; omega)))
  exact ⟨(h.Z.far (by simp) _).far (by simp) _, (h.G.set_ 0 _).set_ 1 _, (h.T.far (by simp) _).far (by simp) _, own_farI (own_farI h.own1 _ (by omega) _ _) _ (by omega) _ _, own_farI (own_farI h.own2 _ (by omega) _ _) _ (by omega) _ _, h.low, fun t ht => ⟨e1 t ht, (h.hl t ht).2⟩, fun y hy => ⟨e2 y hy, (h.hx y hy).2⟩, (h.b.setCell (by simp) _).setCell (by simp) _, hlb, by rw [hsz]; exact h.sz⟩
theorem RG.turn (h : RG w0 B2 u1 k1 l (.slice none 0 0) 0 [] r s W) {B : Nat} (hB : B = W.heap.size) : RG w0 B u1 k1 l (.slice none 0 0) 0 [] r s W := by
  subst hB
  exact ⟨h.Z, h.G, h.T, h.own1, ⟨rfl, .inl ⟨rfl, rfl⟩⟩, fun kk e => (World.ownsRow.lt h.own1 kk e).2, h.hl, h.hx, h.b, Nat.le_trans h.lb h.sz, Nat.le_refl _⟩
/-- One table more. -/
theorem RG.pushT (h : RG w0 B2 u1 k1 l (.slice none 0 0) 0 [] r s W) {q : Tb} {o : Obj} {v : Value} (hq : TbOk W W.heap.size q) (hqA : 0 < q.n → ∀ ad, q.A = some ad → w0.heap.size + 1 + 1 < ad.block ∧ u1.ownBlock ≠ some ad.block)
    (ho : W'.ownsRow (w0.heap.size + 1 + 1 + 1) 44 5 v (k1 + 1) (vTb l ++ q.cells)) (hg : (W.alloc o).grownBy W' u1.ownBlock) (hv : v.ownBlock = u1.ownBlock ∨ v.ownBlock = some (W.heap.size + 1)) :
    RG w0 (W'.setCell ⟨w0.heap.size + 1 + 1, 0, none⟩ v).heap.size v (k1 + 1) (l ++ [q]) (.slice none 0 0) 0 [] r s (W'.setCell ⟨w0.heap.size + 1 + 1, 0, none⟩ v) := by
  have hlb := h.lb
  have hsz0 := h.sz
  have oa := World.ownsRow.alloc h.own1 o
  have hs1 := hg.size
  have hs2 : (W'.setCell ⟨w0.heap.size + 1 + 1, 0, none⟩ v).heap.size = W'.heap.size := by simp [World.setCell]
  have hs3 : W.heap.size ≤ (W'.setCell ⟨w0.heap.size + 1 + 1, 0, none⟩ v).heap.size := by rw [hs2]; simp at hs1; omega
  have hvn : ∀ b, b < W.heap.size → u1.ownBlock ≠ some b → v.ownBlock ≠ some b := fun b hb hu e => by
    rcases hv with h1 | h1
    · rw [h1] at e; exact hu e
    · rw [h1] at e; injection e with e; omega
  obtain ⟨e1, e2⟩ := h.els hs3 (fun b hb hT hu _ => stayN hg hb hu (by omega))
  have own' := own_farI ho (w0.heap.size + 1 + 1) (by omega) 0 v
  refine ⟨(blk_far_own oa (h.Z.alloc o) hg (by omega)).far (by simp; omega) _, (blk_far_own oa (h.G.alloc o) hg (by omega)).far (by simp) _, (blk_far_own oa (h.T.alloc o) hg (by omega)).set_ 0 v, by rw [vTb_snoc]; exact own', ⟨rfl, .inl ⟨rfl, rfl⟩⟩, fun kk e => (World.ownsRow.lt own' kk e).2, fun t ht => ?_, fun y hy => (by cases hy), (bgrow (ball h.b o) hg oa (by omega) (by simp; omega)).setCell (by show w0.heap.size ≤ w0.heap.size + 1 + 1; omega) _, by rw [hs2]; simp at hs1; omega, Nat.le_refl _⟩
  rcases List.mem_append.1 ht with h1 | h1
  · refine ⟨e1 t h1, fun hn ad ha => ?_⟩
    obtain ⟨a1, a2, a3⟩ := (h.hl t h1).2 hn ad ha
    exact ⟨a1, hvn _ (reads_lt (h.hl t h1).1.1.2.2.1 hn ad ha) a2, a3⟩
  · rw [List.mem_singleton] at h1
    subst h1
    refine ⟨hq.stay hs3 (fun hn ad ha => stayN hg (reads_lt hq.1.2.2.1 hn ad ha) (hqA hn ad ha).2 (by have := (hqA hn ad ha).1; omega)), fun hn ad ha => ?_⟩
    obtain ⟨a1, a2⟩ := hqA hn ad ha
    exact ⟨a1, hvn _ (reads_lt hq.1.2.2.1 hn ad ha) a2, fun e => (by cases e)⟩
/-- One index more. -/
theorem RG.pushX (h : RG w0 B2 u1 k1 l u2 k2 x r s W) {q : Ix} {o : Obj} {v : Value} (hq : IxIn W W.heap.size q) (hqA : 0 < q.n → ∀ ad, q.A = some ad → w0.heap.size + 1 + 1 < ad.block ∧ u1.ownBlock ≠ some ad.block ∧ u2.ownBlock ≠ some ad.block) (hqB : 0 < q.m → ∀ ad, q.B = some ad → w0.heap.size + 1 + 1 < ad.block ∧ u1.ownBlock ≠ some ad.block ∧ u2.ownBlock ≠ some ad.block)
    (ho : W'.ownsRow B2 49 7 v (k2 + 1) (vIx x ++ q.cells)) (hg : (W.alloc o).grownBy W' u2.ownBlock) (hv : v.ownBlock = u2.ownBlock ∨ v.ownBlock = some (W.heap.size + 1)) :
    RG w0 B2 u1 k1 l v (k2 + 1) (x ++ [q]) r s (W'.setCell ⟨w0.heap.size + 1 + 1, 1, none⟩ v) := by
  have hlb := h.lb
  have hsz0 := h.sz
  have oa := World.ownsRow.alloc h.own2 o
  have hs1 := hg.size
  have hs2 : (W'.setCell ⟨w0.heap.size + 1 + 1, 1, none⟩ v).heap.size = W'.heap.size := by simp [World.setCell]
  have hs3 : W.heap.size ≤ (W'.setCell ⟨w0.heap.size + 1 + 1, 1, none⟩ v).heap.size := by rw [hs2]; simp at hs1; omega
  have hvn : ∀ b, b < W.heap.size → u2.ownBlock ≠ some b → v.ownBlock ≠ some b := fun b hb hu e => by
    rcases hv with h1 | h1
    · rw [h1] at e; exact hu e
    · rw [h1] at e; injection e with e; omega
  obtain ⟨e1, e2⟩ := h.els hs3 (fun b hb hT hu1 hu2 => stayN hg hb hu2 (by omega))
  have own' := own_farI ho (w0.heap.size + 1 + 1) (by omega) 1 v
  refine ⟨(blk_far_own oa (h.Z.alloc o) hg (by omega)).far (by simp; omega) _, (blk_far_own oa (h.G.alloc o) hg (by omega)).far (by simp) _, (blk_far_own oa (h.T.alloc o) hg (by omega)).set_ 1 v, own_farI (kept_low (World.ownsRow.alloc h.own1 o) hg oa h.low) (w0.heap.size + 1 + 1) (by omega) 1 v, by rw [vIx_snoc]; exact own', h.low, fun t ht => ⟨e1 t ht, fun hn ad ha => ?_⟩, fun y hy => ?_, (bgrow (ball h.b o) hg oa (by omega) (by simp; omega)).setCell (by show w0.heap.size ≤ w0.heap.size + 1 + 1; omega) _, hlb, by rw [hs2]; simp at hs1; omega⟩
  · obtain ⟨a1, a2, a3⟩ := (h.hl t ht).2 hn ad ha
    exact ⟨a1, a2, hvn _ (reads_lt (h.hl t ht).1.1.2.2.1 hn ad ha) a3⟩
  rcases List.mem_append.1 hy with h1 | h1
  · refine ⟨e2 y h1, fun hn ad ha => ?_, fun hn ad ha => ?_⟩
    · obtain ⟨a1, a2, a3⟩ := (h.hx y h1).2.1 hn ad ha
      exact ⟨a1, a2, hvn _ (reads_lt (h.hx y h1).1.2.1 hn ad ha) a3⟩
    · obtain ⟨a1, a2, a3⟩ := (h.hx y h1).2.2 hn ad ha
      exact ⟨a1, a2, hvn _ (reads_lt (h.hx y h1).1.2.2.1 hn ad ha) a3⟩
  · rw [List.mem_singleton] at h1
    subst h1
    refine ⟨hq.stay hs3 (fun hn ad ha => stayN hg (reads_lt hq.2.1 hn ad ha) (hqA hn ad ha).2.2 (by have := (hqA hn ad ha).1; omega)) (fun hn ad ha => stayN hg (reads_lt hq.2.2.1 hn ad ha) (hqB hn ad ha).2.2 (by have := (hqB hn ad ha).1; omega)), fun hn ad ha => ?_, fun hn ad ha => ?_⟩
    · obtain ⟨a1, a2, a3⟩ := hqA hn ad ha
      exact ⟨a1, a2, hvn _ (reads_lt hq.2.1 hn ad ha) a3⟩
    · obtain ⟨a1, a2, a3⟩ := hqB hn ad ha
      exact ⟨a1, a2, hvn _ (reads_lt hq.2.2.1 hn ad ha) a3⟩
end
end
end Go.Proofs.Ytflolnilagogpaa
