/-
  Bytes of a string as a row; clear of it; the image that the law DiskLoads makes.
-/
import Derived.Test.YtcpbkaeilmabaaaDw
import Derived.Test.YtcpbkaeilmabaaaDu
import Derived.Lib.ConvBytes
import Derived.Lib.SliceRun
import Derived.Deep.Upon
namespace Go.Proofs.Ytcpbkaeilmabaaa
open Go.RowKit

/-- What '[]byte(s)' makes: a new row that reads as s, whose cells can be written. -/
structure Fresh (w w' : World) (l : List UInt8) (c : Nat) : Prop where
  reads : Reads w' w'.heap.size 1 (some ⟨w.heap.size, 0, none⟩) l.length (bL l)
  below : Below w.heap.size w w'
  size : w'.heap.size = w.heap.size + 1
  isC : ∀ j, j < l.length → (w'.cell? ⟨w.heap.size, j, none⟩).isSome = true
  free : ∀ j, j < l.length → w'.frozen? ⟨w.heap.size, j, none⟩ = false
theorem bytes_of_str (w : World) (l : List UInt8) : ∃ w' c, (convert 9 37 (.string (str l))).run Try.prog w = .ok (.slice (some ⟨w.heap.size, 0, none⟩) l.length c) w' ∧ Fresh w w' l c := by
  refine ⟨Lib.bytesWorld w 5 (str l), grownCap w (str l).size 0 5, ?_, ?_⟩
  · have h := Lib.run_convert_string_bytes (P := Try.prog) w 9 37 5 (str l) Try.underlying9 Try.underlying37 Try.underlying5
    rw [h, str_size]
  · have hcell : ∀ j, j < l.length → (Lib.bytesWorld w 5 (str l)).cell? ⟨w.heap.size, j, none⟩ = some (.int .u8 ((l.getD j 0).toNat : Int)) := by
      intro j hj
      rw [Lib.bytesWorld_cell w _ (str l) j (by rw [str_size]; exact hj), str_data]
    have hz := Lib.bytesWorld_size w 5 (str l)
    refine ⟨⟨by rw [bL_len]; omega, fun _ => ⟨_, rfl, by simp [hz], fun j u hu => ?_⟩⟩, ⟨rfl, rfl, rfl, by omega, fun k hk => Lib.bytesWorld_at_old _ _ _ _ hk⟩, hz, fun j hj => by rw [hcell j hj]; rfl, fun j hj => ?_⟩
    · have hj := lt_of_at hu
      rw [bL_len] at hj
      rw [add_head, hcell j hj, ← hu]
      simp [bL, hj, List.getD]
    · have hs : (str l).size = l.length := str_size l
      simp only [World.frozen?, Lib.bytesWorld_at_new]
      have : (Lib.bytesCells w 5 (str l)).size ≥ l.length := by simp [Lib.bytesCells, str]
      simp; omega
theorem bel_setCells {B g : Nat} {w0 : World} (hB : B ≤ g) : ∀ (vs : List Value) (o : Nat) (wx : World), Below B w0 wx → Below B w0 (wx.setCells g o vs)
  | [], _, _, h => h
  | v :: r, o, _, h => bel_setCells hB r (o + 1) _ (h.setCell hB v)
theorem siz_setCells (g : Nat) : ∀ (vs : List Value) (o : Nat) (w : World), (w.setCells g o vs).heap.size = w.heap.size
  | [], _, _ => rfl
  | v :: r, o, w => (siz_setCells g r (o + 1) _).trans (by simp [World.setCell])
theorem Try.zeroB8 (w : World) : (zeroValue 5).run Try.prog w = .ok (.int .u8 0) w := by kernel_rfl
/-- clear of such a row. -/
theorem clear_row' {w : World} (g o n c : Nat) (hc : ∀ j, j < n → (w.cell? ⟨g, o + j, none⟩).isSome = true) (hf : ∀ j, j < n → w.frozen? ⟨g, o + j, none⟩ = false) :
    ∃ w', (∀ ty, (Builtin.clear_ #[37] ty #[.slice (some ⟨g, o, none⟩) n c]).run Try.prog w = .ok (.tuple #[]) w') ∧ (∀ B w0, B ≤ g → Below B w0 w → Below B w0 w') ∧ (∀ g', g' < w.heap.size → g' ≠ g → w'.heap[g']? = w.heap[g']?) ∧ w'.heap.size = w.heap.size := by
  rcases Nat.eq_zero_or_pos n with h0 | h0
  · subst h0
    refine ⟨w, fun ty => ?_, fun _ _ _ k => k, fun _ _ _ => rfl, rfl⟩
    have ht : Try.prog.underlying 37 = some (.slice 5) := Try.underlying37
    simp [Builtin.clear_, run_underlying ht, Sem.run_pure]
  · refine ⟨w.setCells g o (List.replicate n (.int .u8 0)), fun ty => ?_, fun B w0 hB hb => bel_setCells hB _ _ _ hb, fun g' hg' hne => World.heap_setCells_other w g o _ hg' hne, siz_setCells g _ _ _⟩
    refine Lib.run_clear_slice w _ _ ty _ Try.underlying37 Try.zeroB8 rfl rfl g o n c h0 (fun j hj => hc j hj) (fun j hj => hf j hj)
theorem clear_row {w : World} (g n c : Nat) (hc : ∀ j, j < n → (w.cell? ⟨g, j, none⟩).isSome = true) (hf : ∀ j, j < n → w.frozen? ⟨g, j, none⟩ = false) :
    ∃ w', (∀ ty, (Builtin.clear_ #[37] ty #[.slice (some ⟨g, 0, none⟩) n c]).run Try.prog w = .ok (.tuple #[]) w') ∧ (∀ B w0, B ≤ g → Below B w0 w → Below B w0 w') ∧ (∀ g', g' < w.heap.size → g' ≠ g → w'.heap[g']? = w.heap[g']?) ∧ w'.heap.size = w.heap.size :=
  clear_row' g 0 n c (fun j hj => by rw [Nat.zero_add]; exact hc j hj) (fun j hj => by rw [Nat.zero_add]; exact hf j hj)
theorem Blk.same_ {w w' : World} {g : Nat} {t : TypeId} {cs : Array Value} (h : Blk w g t cs) (e : w'.heap[g]? = w.heap[g]?) : Blk w' g t cs := e.trans h
theorem Reads.same_ {w w' : World} {B size n : Nat} {A : Option Addr} {xs : List Value} (h : Reads w B size A n xs) (e : ∀ ad, A = some ad → ad.block < B → w'.heap[ad.block]? = w.heap[ad.block]?) : Reads w' B size A n xs :=
  ⟨h.1, fun hn => by
    obtain ⟨ad, hA, hb, hc⟩ := h.2 hn
    exact ⟨ad, hA, hb, fun j u hu => (World.cell?_of_block (by rw [block_of_add]; exact e ad hA hb)).trans (hc j u hu)⟩⟩

theorem reads_blk {w : World} {g : Nat} {t : TypeId} {l : List UInt8} (h : Blk w g t (bV l)) {n : Nat} (hn : l.length = n) : Reads w (g + 1) 1 (some ⟨g, 0, none⟩) n (bL l) := by
  refine ⟨by rw [bL_len]; omega, fun _ => ⟨_, rfl, Nat.lt_succ_self _, fun j u hu => ?_⟩⟩
  rw [add_head, h.cell, bV, List.getElem?_toArray]
  exact hu
theorem conv_tail {w : World} {g : Nat} {t : TypeId} {l : List UInt8} (h : Blk w g t (bV l)) (hl : l.length = 512) : (convert 37 9 (.slice (some ⟨g, 1, none⟩) 511 511)).run Try.prog w = .ok (.string (str (l.drop 1))) w := by
  refine conv_reads (P := Try.prog) (B := g + 1) (l := l.drop 1) ⟨by rw [bL_len, List.length_drop, hl], fun _ => ⟨_, rfl, Nat.lt_succ_self _, fun j u hu => ?_⟩⟩ 37 5 9 Try.underlying37 Try.underlying5 Try.underlying9 511
  have e : (⟨g, 1, none⟩ : Addr).add j = ⟨g, 1 + j, none⟩ := by unfold Addr.add; split <;> simp_all
  rw [e, h.cell, bV, List.getElem?_toArray]
  have e2 : bL (l.drop 1) = (bL l).drop 1 := by simp [bL]
  rw [e2, List.getElem?_drop] at hu
  exact hu
/-- The image behind the first k bytes. -/
def fl5 (b : UInt8) : List UInt8 := List.replicate 511 b
theorem fl5_len (b : UInt8) : (fl5 b).length = 511 := List.length_replicate
def imgK (ks : List UInt8) (k : Nat) : List UInt8 := ((List.range k).map fun i => ks.getD i 0 :: fl5 (UInt8.ofNat i)).flatten
theorem imgK_snoc (ks : List UInt8) (k : Nat) : imgK ks (k + 1) = imgK ks k ++ (ks.getD k 0 :: fl5 (UInt8.ofNat k)) := by
  unfold imgK
  rw [List.range_succ, List.map_append, List.flatten_append, List.map_singleton, List.flatten_singleton]
theorem imgK_succ (ks : List UInt8) (k : Nat) (x : UInt8) (h : ks[k]? = some x) : imgK ks (k + 1) = imgK ks k ++ ([x] ++ fl5 (UInt8.ofNat k)) := by
  rw [imgK_snoc, List.getD_eq_getElem?_getD, h]
  rfl
theorem imgK_len (ks : List UInt8) (k : Nat) : (imgK ks k).length = k * 512 := by
  induction k with
  | zero => rfl
  | succ k ih =>
    rw [imgK_snoc, List.length_append, ih, List.length_cons, fl5_len]
    omega
end Go.Proofs.Ytcpbkaeilmabaaa
