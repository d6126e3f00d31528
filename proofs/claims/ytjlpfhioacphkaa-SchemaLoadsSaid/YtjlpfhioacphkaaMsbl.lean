/-
  Several texts in one: Dx Ea Eb Ec Ed Ee.
-/
import Derived.Test.YtjlpfhioacphkaaMsbc
import Derived.Test.YtjlpfhioacphkaaMsaz
import Derived.Test.YtjlpfhioacphkaaMsab
import Derived.Lib.ConvBytes
import Derived.Lib.SliceRun
import Derived.Deep.Upon
/-
  Bytes of a string as a row; clear of it; the image that the law DiskLoads makes.
-/
namespace Go.Proofs.Ytjlpfhioacphkaa
section
set_option linter.unusedSimpArgs false
set_option linter.unusedVariables false
open Go.RowKit

/-- What '[]byte(s)' makes: a new row that reads as s, whose cells can be written. -/
structure Fresh (w w' : World) (l : List UInt8) (c : Nat) : Prop where
  reads : Reads w' w'.heap.size 1 (some ⟨w.heap.size, 0, none⟩) l.length (bL l)
  below : Below w.heap.size w w'
  size : w'.heap.size = w.heap.size + 1
  isC : ∀ j, j < l.length → (w'.cell? ⟨w.heap.size, j, none⟩).isSome = true
  free : ∀ j, j < l.length → w'.frozen? ⟨w.heap.size, j, none⟩ = false
theorem bytes_of_str (w : World) (l : List UInt8) : ∃ w' c, (convert 9 27 (.string (str l))).run Try.prog w = .ok (.slice (some ⟨w.heap.size, 0, none⟩) l.length c) w' ∧ Fresh w w' l c := by
  refine ⟨Lib.bytesWorld w 5 (str l), grownCap w (str l).size 0 5, ?_, ?_⟩
  · have h := Lib.run_convert_string_bytes (P := Try.prog) w 9 27 5 (str l) Try.underlying9 Try.underlying27 Try.underlying5
    rw [h, str_size]
  · have hcell : ∀ j, j < l.length → (Lib.bytesWorld w 5 (str l)).cell? ⟨w.heap.size, j, none⟩ = some (.int .u8 ((l.getD j 0).toNat : Int)) := by
      intro j hj
      rw [Lib.bytesWorld_cell w _ (str l) j (by rw [str_size]; exact hj), str_data]
    have hz := Lib.bytesWorld_size w 5 (str l)
    refine ⟨⟨by rw [bL_len]; omega, fun _ => ⟨_, rfl, by simp [hz], fun j u hu => ?_⟩⟩, ⟨rfl, rfl, rfl, by omega, fun k hk => Lib.bytesWorld_at_old _ _ _ _ hk⟩, hz, fun j hj => by rw [hcell j hj]; rfl, fun j hj => ?_⟩
    · have hj := lt_of_at hu
      rw [bL_len] at hj
      rw [add_head, hcell j hj, ← hu]
      simp [bL, hj, List.getD]
    · have hs : (str l).size = l.length := str_size l
      simp only [World.frozen?, Lib.bytesWorld_at_new]
      have : (Lib.bytesCells w 5 (str l)).size ≥ l.length := by simp [Lib.bytesCells, str]
      simp; omega
theorem bel_setCells {B g : Nat} {w0 : World} (hB : B ≤ g) : ∀ (vs : List Value) (o : Nat) (wx : World), Below B w0 wx → Below B w0 (wx.setCells g o vs)
  | [], _, _, h => h
  | v :: r, o, _, h => bel_setCells hB r (o + 1) _ (h.setCell hB v)
theorem siz_setCells (g : Nat) : ∀ (vs : List Value) (o : Nat) (w : World), (w.setCells g o vs).heap.size = w.heap.size
  | [], _, _ => rfl
  | v :: r, o, w => (siz_setCells g r (o + 1) _).trans (by simp [World.setCell])
theorem Try.zeroB8 (w : World) : (zeroValue 5).run Try.prog w = .ok (.int .u8 0) w := by kernel_rfl
/-- clear of such a row. -/
theorem clear_row' {w : World} (g o n c : Nat) (hc : ∀ j, j < n → (w.cell? ⟨g, o + j, none⟩).isSome = true) (hf : ∀ j, j < n → w.frozen? ⟨g, o + j, none⟩ = false) :
    ∃ w', (∀ ty, (Builtin.clear_ #[27] ty #[.slice (some ⟨g, o, none⟩) n c]).run Try.prog w = .ok (.tuple #[]) w') ∧ (∀ B w0, B ≤ g → Below B w0 w → Below B w0 w') ∧ (∀ g', g' < w.heap.size → g' ≠ g → w'.heap[g']? = w.heap[g']?) ∧ w'.heap.size = w.heap.size := by
  rcases Nat.eq_zero_or_pos n with h0 | h0
  · subst h0
    refine ⟨w, fun ty => ?_, fun _ _ _ k => k, fun _ _ _ => rfl, rfl⟩
    have ht : Try.prog.underlying 27 = some (.slice 5) := Try.underlying27
    simp [Builtin.clear_, run_underlying ht, Sem.run_pure]
  · refine ⟨w.setCells g o (List.replicate n (.int .u8 0)), fun ty => ?_, fun B w0 hB hb => bel_setCells hB _ _ _ hb, fun g' hg' hne => World.heap_setCells_other w g o _ hg' hne, siz_setCells g _ _ _⟩
    refine Lib.run_clear_slice w _ _ ty _ Try.underlying27 Try.zeroB8 rfl rfl g o n c h0 (fun j hj => hc j hj) (fun j hj => hf j hj)
theorem clear_row {w : World} (g n c : Nat) (hc : ∀ j, j < n → (w.cell? ⟨g, j, none⟩).isSome = true) (hf : ∀ j, j < n → w.frozen? ⟨g, j, none⟩ = false) :
    ∃ w', (∀ ty, (Builtin.clear_ #[27] ty #[.slice (some ⟨g, 0, none⟩) n c]).run Try.prog w = .ok (.tuple #[]) w') ∧ (∀ B w0, B ≤ g → Below B w0 w → Below B w0 w') ∧ (∀ g', g' < w.heap.size → g' ≠ g → w'.heap[g']? = w.heap[g']?) ∧ w'.heap.size = w.heap.size :=
  clear_row' g 0 n c (fun j hj => by rw [Nat.zero_add]; exact hc j hj) (fun j hj => by rw [Nat.zero_add]; exact hf j hj)
theorem Blk.same_ {w w' : World} {g : Nat} {t : TypeId} {cs : Array Value} (h : Blk w g t cs) (e : w'.heap[g]? = w.heap[g]?) : Blk w' g t cs := e.trans h
theorem Reads.same_ {w w' : World} {B size n : Nat} {A : Option Addr} {xs : List Value} (h : Reads w B size A n xs) (e : ∀ ad, A = some ad → ad.block < B → w'.heap[ad.block]? = w.heap[ad.block]?) : Reads w' B size A n xs :=
  ⟨h.1, fun hn => by
    obtain ⟨ad, hA, hb, hc⟩ := h.2 hn
    exact ⟨ad, hA, hb, fun j u hu => (World.cell?_of_block (by rw [block_of_add]; exact e ad hA hb)).trans (hc j u hu)⟩⟩

theorem reads_blk {w : World} {g : Nat} {t : TypeId} {l : List UInt8} (h : Blk w g t (bV l)) {n : Nat} (hn : l.length = n) : Reads w (g + 1) 1 (some ⟨g, 0, none⟩) n (bL l) := by
  refine ⟨by rw [bL_len]; omega, fun _ => ⟨_, rfl, Nat.lt_succ_self _, fun j u hu => ?_⟩⟩
  rw [add_head, h.cell, bV, List.getElem?_toArray]
  exact hu
theorem conv_tail {w : World} {g : Nat} {t : TypeId} {l : List UInt8} (h : Blk w g t (bV l)) (hl : l.length = 512) : (convert 27 9 (.slice (some ⟨g, 1, none⟩) 511 511)).run Try.prog w = .ok (.string (str (l.drop 1))) w := by
  refine conv_reads (P := Try.prog) (B := g + 1) (l := l.drop 1) ⟨by rw [bL_len, List.length_drop, hl], fun _ => ⟨_, rfl, Nat.lt_succ_self _, fun j u hu => ?_⟩⟩ 27 5 9 Try.underlying27 Try.underlying5 Try.underlying9 511
  have e : (⟨g, 1, none⟩ : Addr).add j = ⟨g, 1 + j, none⟩ := by unfold Addr.add; split <;> simp_all
  rw [e, h.cell, bV, List.getElem?_toArray]
  have e2 : bL (l.drop 1) = (bL l).drop 1 := by simp [bL]
  rw [e2, List.getElem?_drop] at hu
  exact hu
/-- The image behind the first k bytes. -/
def fl5 (b : UInt8) : List UInt8 := List.replicate 511 b
theorem fl5_len (b : UInt8) : (fl5 b).length = 511 := List.length_replicate
def imgK (ks : List UInt8) (k : Nat) : List UInt8 := ((List.range k).map fun i => ks.getD i 0 :: fl5 (UInt8.ofNat i)).flatten
theorem imgK_snoc (ks : List UInt8) (k : Nat) : imgK ks (k + 1) = imgK ks k ++ (ks.getD k 0 :: fl5 (UInt8.ofNat k)) := by
  unfold imgK
  rw [List.range_succ, List.map_append, List.flatten_append, List.map_singleton, List.flatten_singleton]
theorem imgK_succ (ks : List UInt8) (k : Nat) (x : UInt8) (h : ks[k]? = some x) : imgK ks (k + 1) = imgK ks k ++ ([x] ++ fl5 (UInt8.ofNat k)) := by
  rw [imgK_snoc, List.getD_eq_getElem?_getD, h]
  rfl
theorem imgK_len (ks : List UInt8) (k : Nat) : (imgK ks k).length = k * 512 := by
  induction k with
  | zero => rfl
  | succ k ih =>
    rw [imgK_snoc, List.length_append, ih, List.length_cons, fl5_len]
    omega
end
end Go.Proofs.Ytjlpfhioacphkaa
/-
  The reference's disk: take, Write, Take.
-/
namespace Go.Proofs.Ytjlpfhioacphkaa
section
set_option linter.unusedSimpArgs false
set_option linter.unusedVariables false
open Go.RowKit

theorem tL_set (T : List Bool) (i : Nat) (b : Bool) : (tL T).set i (.bool b) = tL (T.set i b) := by simp [tL, List.map_set]
theorem sL_set (ps : List (List UInt8)) (i : Nat) (p : List UInt8) : (sL ps).set i (.string (str p)) = sL (ps.set i p) := by simp [sL, List.map_set]
/-- A row of the call's own that has elements: its head, a cell, a store. -/
theorem own_at {w : World} {base : Nat} {e : TypeId} {n c : Nat} {A : Option Addr} {xs : List Value} (h : w.ownsRow base e 1 (.slice A n c) n xs) (i : Nat) (hi : i < n) :
    ∃ g u, A = some ⟨g, 0, none⟩ ∧ base ≤ g ∧ g < w.heap.size ∧ w.cell? ⟨g, i, none⟩ = some u ∧ w.frozen? ⟨g, i, none⟩ = false ∧ ∀ u, (w.setCell ⟨g, i, none⟩ u).ownsRow base e 1 (.slice A n c) n (xs.set i u) := by
  obtain ⟨g, cap, hv, hb, hlt⟩ := World.ownsRow.form h (by omega)
  injection hv with hA _ hc
  subst hA; subst hc
  have hxl : xs.length = n * 1 := h.1
  exact ⟨g, xs[i]'(by omega), rfl, hb, hlt, by rw [h.cellAt i (by omega), List.getElem?_eq_getElem (by omega)], h.frozenAt i, fun u => (h.stored i u).1⟩
theorem own_far2 {w : World} {base : Nat} {e : TypeId} {size n : Nat} {v : Value} {xs : List Value} (h : w.ownsRow base e size v n xs) (g : Nat) (hg : g < base) (j : Nat) (u : Value) : (w.setCell ⟨g, j, none⟩ u).ownsRow base e size v n xs := by
  refine h.kept (row := some g) ⟨rfl, rfl, rfl, by simp [World.setCell], fun k hk hkg => Below.heap_setCell w _ u k (fun e' => hkg (by rw [e'])) ⟩ (.inr fun e' => ?_)
  have := (h.lt g e').1
  omega
theorem blk_far_grown {w w' : World} {base : Nat} {e : TypeId} {size n : Nat} {v : Value} {xs : List Value} {g : Nat} {t : TypeId} {cs : Array Value} (h : w.ownsRow base e size v n xs) (hb : Blk w g t cs) (hg : w.grownBy w' v.ownBlock) (hlt : g < base) : Blk w' g t cs :=
  hb.grown hg fun e' => by have := (h.lt g e'.symm).1; omega
/-- What take leaves: the pages as they were; new marks. -/
def RetTake (w : World) (A : Option Addr) (n c : Nat) (T : List Bool) (e : Ending) (w' : World) : Prop :=
  ∃ A2 c2, e = .returned (.agg #[.slice A n c, .slice A2 n c2]) ∧ Reads w' w'.heap.size 1 A2 n (tL T) ∧ n ≤ c2 ∧ (∀ ad, A2 = some ad → w.heap.size ≤ ad.block) ∧ Below w.heap.size w w'
end
end Go.Proofs.Ytjlpfhioacphkaa
/-
  The disk's Write, Take, with its pages as lists; the reference's Write, Take.
-/
namespace Go.Proofs.Ytjlpfhioacphkaa
section
set_option linter.unusedSimpArgs false
set_option linter.unusedVariables false
open Go.RowKit

/-- What an operation leaves: the disk with these pages and marks; every other block as it was. -/
def Left (w w' : World) (g gb gt n : Nat) (ps : List (List UInt8)) (T : List Bool) : Prop :=
  DP w' g gb gt n ps T ∧ (∀ B, B ≤ gb → B ≤ gt → Below B w w') ∧ (∀ g', g' ≠ gb → g' ≠ gt → w'.heap[g']? = w.heap[g']?) ∧ w'.heap.size = w.heap.size
theorem writeDP {w : World} {g gb gt n : Nat} {ps : List (List UInt8)} {T : List Bool} (h : DP w g gb gt n ps T) (p : Nat) (hp : p < n) (hn : n ≤ 1000000) (ad : Addr) (c B : Nat) (q : List UInt8) (hr : Reads w B 1 (some ad) 512 (bL q)) :
    Calls Try.prog 22 #[.pointer (some ⟨g, 0, none⟩), .int .u32 p, .slice (some ad) 512 c] w fun e w' => e = .returned (.int .i64 0) ∧ Left w w' g gb gt n (ps.set p q) (T.set p true) := by
  have hT := h.hT
  have hql : q.length = 512 := hr.bytes_len
  refine (write_ok h.dk p hp hn ad c B (bL q) hr (bL_one q) (.bool (T[p]'(by omega))) (tV_at (List.getElem?_eq_getElem (by omega)))).mono ?_
  rintro e w' ⟨rfl, rfl⟩
  have hfl := pflat_len ps h.full
  rw [splice_bV, pflat_set ps h.full p q (by rw [h.hp]; exact hp) hql]
  have hf2 := full_set h.full p hql
  have h1 := h.dk.wrote (new := bV (ps.set p q).flatten) (by rw [bV_size, pflat_len _ hf2, List.length_set, h.hp])
  refine ⟨rfl, ⟨by rw [← tV_set]; exact h1.mark p _, hf2, by rw [List.length_set, h.hp]⟩, ?_, ?_, ?_⟩
  · intro B h1 h2
    exact (below_setRow (Below.refl _ _) h1 _).setCell h2 _
  · intro g' h1 h2
    exact (Below.heap_setCell _ _ _ _ h2).trans (setRow_other _ _ _ _ h1)
  · simp [World.setCell, World.setRow]
theorem write_outDP {w : World} {g gb gt n : Nat} {ps : List (List UInt8)} {T : List Bool} (h : DP w g gb gt n ps T) (p : Nat) (hp : n ≤ p) (hp2 : (p : Int) ≤ 4294967295) (hn : n ≤ 1000000) (v : Value) :
    Calls Try.prog 22 #[.pointer (some ⟨g, 0, none⟩), .int .u32 p, v] w fun e w' => e = .returned (.int .i64 8) ∧ w = w' := write_out h.dk p hp (by omega) hn v
theorem write_short {w : World} {g gb gt n : Nat} {ps : List (List UInt8)} {T : List Bool} (h : DP w g gb gt n ps T) (p : Nat) (hp : p < n) (hn : n ≤ 1000000) (A : Option Addr) (c : Nat) :
    Calls Try.prog 22 #[.pointer (some ⟨g, 0, none⟩), .int .u32 p, .slice A 511 c] w fun e w' => e = .returned (.int .i64 1) ∧ w = w' := by
  have HB := Lib.hid (has_any h.dk p (by omega) (by omega) hn)
  have hd : decide (p < n) = true := decide_eq_true hp
  clear h
  go_enter Try.func22, Try.ntmps22
  go_wp2_with (go_at_call 42; refine HB.out.mono ?_; rintro e w' ⟨rfl, rfl⟩)
  go_ret
  exact ⟨rfl, rfl⟩
theorem takeDP {w : World} {g gb gt n : Nat} {ps : List (List UInt8)} {T : List Bool} (h : DP w g gb gt n ps T) (hn : n ≤ 1000000) (i : Nat) (hi : T[i]? = some false) (hj : ∀ j : Nat, j < i → T[j]? = some true) :
    Calls Try.prog 20 #[.pointer (some ⟨g, 0, none⟩)] w fun e w' => e = .returned (.tuple #[.int .u32 i, .int .i64 0]) ∧ Left w w' g gb gt n ps (T.set i true) := by
  refine (take_at h.dk hn i (tV_at hi) (fun j h => tV_at (hj j h))).mono ?_
  rintro e w' ⟨rfl, rfl⟩
  refine ⟨rfl, h.mark i true, ?_, ?_, ?_⟩
  · intro B h1 h2
    exact (Below.refl _ _).setCell h2 _
  · intro g' h1 h2
    exact Below.heap_setCell _ _ _ _ h2
  · simp [World.setCell]
theorem take_fullDP {w : World} {g gb gt n : Nat} {ps : List (List UInt8)} {T : List Bool} (h : DP w g gb gt n ps T) (hn : n ≤ 1000000) (hj : ∀ j : Nat, j < n → T[j]? = some true) :
    Calls Try.prog 20 #[.pointer (some ⟨g, 0, none⟩)] w fun e w' => e = .returned (.tuple #[.int .u32 0, .int .i64 7]) ∧ w = w' :=
  take_full h.dk hn (fun j h => tV_at (hj j h))

theorem reads_far {w : World} {size n : Nat} {A : Option Addr} {xs : List Value} (h : Reads w w.heap.size size A n xs) {p : Addr} (hp : ∀ ad, A = some ad → ad.block ≠ p.block) (u : Value) : Reads (w.setCell p u) (w.setCell p u).heap.size size A n xs := by
  have e : (w.setCell p u).heap.size = w.heap.size := by simp [World.setCell]
  rw [e]
  exact h.same_ fun ad hA _ => Below.heap_setCell _ _ _ _ (hp ad hA)
/-- What the reference's Take leaves. -/
def RetTk (w : World) (A : Option Addr) (n c : Nat) (i : Nat) (T : List Bool) (e : Ending) (w' : World) : Prop :=
  ∃ A2 c2, e = .returned (.tuple #[.int .u32 i, .int .i64 0, .agg #[.slice A n c, .slice A2 n c2]]) ∧ Reads w' w'.heap.size 1 A2 n (tL T) ∧ n ≤ c2 ∧ (∀ ad, A2 = some ad → w.heap.size ≤ ad.block) ∧ Below w.heap.size w w'
end
end Go.Proofs.Ytjlpfhioacphkaa
/-
  The reference's Write.
-/
namespace Go.Proofs.Ytjlpfhioacphkaa
section
set_option linter.unusedSimpArgs false
set_option linter.unusedVariables false
open Go.RowKit

theorem own_kept_below {w w' : World} {base : Nat} {e : TypeId} {size n : Nat} {v : Value} {xs : List Value} (h : w.ownsRow base e size v n xs) (hb : Below w.heap.size w w') : w'.ownsRow base e size v n xs :=
  World.ownsRow.kept h (row := none) ⟨hb.os, hb.tape, hb.output, hb.size, fun i hi _ => hb.block i hi⟩ (by cases h' : v.ownBlock <;> simp)
/-- What the reference's Write leaves. -/
def RetWr (w : World) (n : Nat) (ps : List (List UInt8)) (T : List Bool) (e : Ending) (w' : World) : Prop :=
  ∃ A c A2 c2, e = .returned (.tuple #[.int .i64 0, .agg #[.slice A n c, .slice A2 n c2]]) ∧ Reads w' w'.heap.size 1 A n (sL ps) ∧ Reads w' w'.heap.size 1 A2 n (tL T) ∧ n ≤ c ∧ n ≤ c2 ∧
    (∀ ad, A = some ad → w.heap.size ≤ ad.block) ∧ (∀ ad, A2 = some ad → w.heap.size ≤ ad.block) ∧ Below w.heap.size w w'
end
end Go.Proofs.Ytjlpfhioacphkaa
/-
  New, both sides, with its pages as lists.
-/
namespace Go.Proofs.Ytjlpfhioacphkaa
section
set_option linter.unusedSimpArgs false
set_option linter.unusedVariables false
open Go.RowKit

/-- The bytes of a new disk. -/
def zb (n : Nat) : List UInt8 := List.replicate (n * 512) 0
theorem zb_len (n : Nat) : (zb n).length = n * 512 := List.length_replicate
theorem zb_marks (n : Nat) (h : 1 ≤ n) : marksOf (zb n) n = true :: List.replicate (n - 1) false := by
  apply List.ext_getElem
  · rw [marksOf_len, List.length_cons, List.length_replicate]; omega
  · intro i h1 h2
    rw [marksOf_len] at h1
    have hm : (marksOf (zb n) n)[i] = mark (zb n) i := by simp [marksOf]
    rw [hm]
    have hz : (zb n)[i * 512]? = some 0 := by
      unfold zb
      rw [List.getElem?_replicate, if_pos (by omega)]
    unfold mark
    rw [hz]
    cases i with
    | zero => rfl
    | succ i => simp
theorem newDP (n : Nat) (h1 : 1 ≤ n) (h2 : n ≤ 4096) (w : World) : Calls Try.prog 6 #[.int .i64 n] w (RetDP w n (pagesOf (zb n) n) (marksOf (zb n) n)) := by
  refine (new_any n h1 h2 w).mono ?_
  rintro e w' ⟨g, gb, gt, rfl, hd, k1, k2, k3, hb⟩
  rw [newMarks_eq (zb n) n h1] at hd
  have e1 : marksP (zb n) n 0 = marksOf (zb n) n := by rw [zb_marks n h1]; rfl
  rw [e1, zero_rep] at hd
  have hfl := pagesOf_all (zb n) n (zb_len n)
  exact ⟨g, gb, gt, rfl, ⟨by rw [hfl]; exact hd, pagesOf_full _ _ (by rw [zb_len]; exact Nat.le_refl _), pagesOf_len _ _⟩, k1, k2, k3, hb⟩
end
end Go.Proofs.Ytjlpfhioacphkaa
/-
  The law DiskPlays: what the loop holds.
-/
namespace Go.Proofs.Ytjlpfhioacphkaa
section
set_option linter.unusedSimpArgs false
set_option linter.unusedVariables false
open Go.RowKit

/-- The reference's disk in its variable: what it reads as, and that the program's disk lies elsewhere. -/
structure RP (w : World) (B M n gb gt : Nat) (ps : List (List UInt8)) (T : List Bool) (A : Option Addr) (c : Nat) (A2 : Option Addr) (c2 : Nat) : Prop where
  m : Blk w M 47 #[.slice A n c, .slice A2 n c2]
  r1 : Reads w w.heap.size 1 A n (sL ps)
  r2 : Reads w w.heap.size 1 A2 n (tL T)
  c1 : n ≤ c
  c2 : n ≤ c2
  f1 : ∀ ad, A = some ad → ad.block ≠ gb ∧ ad.block ≠ gt ∧ ad.block ≠ M
  f2 : ∀ ad, A2 = some ad → ad.block ≠ gb ∧ ad.block ≠ gt ∧ ad.block ≠ M
  lo : B ≤ M
  o1 : M ≠ gb
  o2 : M ≠ gt
section
variable {w w' : World} {B M n g gb gt : Nat} {ps ps' : List (List UInt8)} {T T' : List Bool} {A A2 : Option Addr} {c c2 : Nat}
theorem RP.below (h : RP w B M n gb gt ps T A c A2 c2) (hb : Below w.heap.size w w') : RP w' B M n gb gt ps T A c A2 c2 :=
  ⟨h.m.below hb h.m.lt, (h.r1.below hb).more hb.size, (h.r2.below hb).more hb.size, h.c1, h.c2, h.f1, h.f2, h.lo, h.o1, h.o2⟩
theorem RP.left (h : RP w B M n gb gt ps T A c A2 c2) (hl : Left w w' g gb gt n ps' T') : RP w' B M n gb gt ps T A c A2 c2 := by
  obtain ⟨_, _, h2, h3⟩ := hl
  refine ⟨h.m.same_ (h2 M h.o1 h.o2), ?_, ?_, h.c1, h.c2, h.f1, h.f2, h.lo, h.o1, h.o2⟩
  · rw [h3]; exact h.r1.same_ fun ad hA _ => h2 _ (h.f1 ad hA).1 (h.f1 ad hA).2.1
  · rw [h3]; exact h.r2.same_ fun ad hA _ => h2 _ (h.f2 ad hA).1 (h.f2 ad hA).2.1
/-- Another disk of the program's, made later. -/
theorem RP.other (h : RP w B M n gb gt ps T A c A2 c2) (hn : 1 ≤ n) {gb' gt' : Nat} (h1 : w.heap.size ≤ gb') (h2 : w.heap.size ≤ gt') : RP w B M n gb' gt' ps T A c A2 c2 := by
  have hm := h.m.lt
  refine ⟨h.m, h.r1, h.r2, h.c1, h.c2, fun ad hA => ?_, fun ad hA => ?_, h.lo, by omega, by omega⟩
  · obtain ⟨ad', e, hb, _⟩ := h.r1.2 (by omega)
    rw [hA] at e; injection e with e; subst e
    exact ⟨by omega, by omega, (h.f1 ad hA).2.2⟩
  · obtain ⟨ad', e, hb, _⟩ := h.r2.2 (by omega)
    rw [hA] at e; injection e with e; subst e
    exact ⟨by omega, by omega, (h.f2 ad hA).2.2⟩
theorem RP.start {L : Nat} (hn : 1 ≤ n) (h1 : Reads w w.heap.size 1 A n (sL ps)) (h2 : Reads w w.heap.size 1 A2 n (tL T)) (c1 : n ≤ c) (c2' : n ≤ c2) (l1 : ∀ ad, A = some ad → L ≤ ad.block) (l2 : ∀ ad, A2 = some ad → L ≤ ad.block) (hB : B ≤ w.heap.size) (hb : gb < L) (ht : gt < L) (hL : L ≤ w.heap.size) :
    RP (w.alloc (.cells #[.slice A n c, .slice A2 n c2] 47)) B w.heap.size n gb gt ps T A c A2 c2 := by
  have hz : (w.alloc (.cells #[.slice A n c, .slice A2 n c2] 47)).heap.size = w.heap.size + 1 := by simp
  refine ⟨Blk.new _ _ _, (h1.alloc (Nat.le_refl _) _).more (by omega), (h2.alloc (Nat.le_refl _) _).more (by omega), c1, c2', fun ad hA => ?_, fun ad hA => ?_, hB, by omega, by omega⟩
  · obtain ⟨ad', e, hb, _⟩ := h1.2 (by omega)
    rw [hA] at e; injection e with e; subst e
    have := l1 ad hA
    exact ⟨by omega, by omega, by omega⟩
  · obtain ⟨ad', e, hb, _⟩ := h2.2 (by omega)
    rw [hA] at e; injection e with e; subst e
    have := l2 ad hA
    exact ⟨by omega, by omega, by omega⟩
/-- The variable is written anew: new pages, new marks. -/
theorem RP.stored (h : Blk w M 47 #[.slice A n c, .slice A2 n c2]) {A' A2' : Option Addr} {c' c2' : Nat} (hr1 : Reads w w.heap.size 1 A' n (sL ps')) (hr2 : Reads w w.heap.size 1 A2' n (tL T')) (hc1 : n ≤ c') (hc2 : n ≤ c2')
    (hf1 : ∀ ad, A' = some ad → ad.block ≠ gb ∧ ad.block ≠ gt ∧ ad.block ≠ M) (hf2 : ∀ ad, A2' = some ad → ad.block ≠ gb ∧ ad.block ≠ gt ∧ ad.block ≠ M) (lo : B ≤ M) (o1 : M ≠ gb) (o2 : M ≠ gt) :
    RP ((w.setCell ⟨M, 0, none⟩ (.slice A' n c')).setCell ⟨M, 1, none⟩ (.slice A2' n c2')) B M n gb gt ps' T' A' c' A2' c2' :=
  ⟨(h.set_ 0 _).set_ 1 _, reads_far (reads_far hr1 (p := ⟨M, 0, none⟩) (fun ad h => (hf1 ad h).2.2) _) (p := ⟨M, 1, none⟩) (fun ad h => (hf1 ad h).2.2) _, reads_far (reads_far hr2 (p := ⟨M, 0, none⟩) (fun ad h => (hf2 ad h).2.2) _) (p := ⟨M, 1, none⟩) (fun ad h => (hf2 ad h).2.2) _, hc1, hc2, hf1, hf2, lo, o1, o2⟩
theorem DP.store {p : Addr} (h : DP w g gb gt n ps T) (h1 : g ≠ p.block) (h2 : gb ≠ p.block) (h3 : gt ≠ p.block) (u : Value) : DP (w.setCell p u) g gb gt n ps T :=
  ⟨⟨h.dk.d.far h1 u, h.dk.b.far h2 u, h.dk.t.far h3 u, h.dk.hb, h.dk.ht⟩, h.full, h.hp⟩
end
theorem clear_blk {w : World} {g n c : Nat} {l : List UInt8} (h : Blk w g 5 (bV l)) (hn : l.length = n) :
    ∃ w', (∀ ty, (Builtin.clear_ #[27] ty #[.slice (some ⟨g, 0, none⟩) n c]).run Try.prog w = .ok (.tuple #[]) w') ∧ (∀ B w0, B ≤ g → Below B w0 w → Below B w0 w') ∧ (∀ g', g' < w.heap.size → g' ≠ g → w'.heap[g']? = w.heap[g']?) ∧ w'.heap.size = w.heap.size :=
  clear_row g n c (fun j hj => by rw [h.cell, Array.getElem?_eq_getElem (by rw [bV_size]; omega)]; rfl) (fun j _ => h.frozen j)
theorem RP.turn {w : World} {B M n gb gt gb' gt' : Nat} {ps : List (List UInt8)} {T : List Bool} {A A2 : Option Addr} {c c2 : Nat} (h : RP w B M n gb gt ps T A c A2 c2) (h1 : ∀ ad, A = some ad → ad.block ≠ gb' ∧ ad.block ≠ gt') (h2 : ∀ ad, A2 = some ad → ad.block ≠ gb' ∧ ad.block ≠ gt') (o1 : M ≠ gb') (o2 : M ≠ gt') : RP w B M n gb' gt' ps T A c A2 c2 :=
  ⟨h.m, h.r1, h.r2, h.c1, h.c2, fun ad hA => ⟨(h1 ad hA).1, (h1 ad hA).2, (h.f1 ad hA).2.2⟩, fun ad hA => ⟨(h2 ad hA).1, (h2 ad hA).2, (h.f2 ad hA).2.2⟩, h.lo, o1, o2⟩
theorem DP.beside {w w' : World} {n g gb gt g' gb' gt' : Nat} {ps ps2 : List (List UInt8)} {T T2 : List Bool} (h : DP w g' gb' gt' n ps T) (hl : Left w w' g gb gt n ps2 T2) (h1 : g' ≠ gb ∧ g' ≠ gt) (h2 : gb' ≠ gb ∧ gb' ≠ gt) (h3 : gt' ≠ gb ∧ gt' ≠ gt) : DP w' g' gb' gt' n ps T :=
  ⟨⟨h.dk.d.same_ (hl.2.2.1 g' h1.1 h1.2), h.dk.b.same_ (hl.2.2.1 gb' h2.1 h2.2), h.dk.t.same_ (hl.2.2.1 gt' h3.1 h3.2), h.dk.hb, h.dk.ht⟩, h.full, h.hp⟩
/-- Behind a clear of another block. -/
theorem RP.cleared {w w' : World} {B M n gb gt gc : Nat} {ps : List (List UInt8)} {T : List Bool} {A A2 : Option Addr} {c c2 : Nat} (h : RP w B M n gb gt ps T A c A2 c2) (hch : ∀ g', g' < w.heap.size → g' ≠ gc → w'.heap[g']? = w.heap[g']?) (hs : w'.heap.size = w.heap.size) (hM : M ≠ gc) (ha : ∀ ad, A = some ad → ad.block ≠ gc) (ha2 : ∀ ad, A2 = some ad → ad.block ≠ gc) : RP w' B M n gb gt ps T A c A2 c2 :=
  ⟨h.m.same_ (hch M h.m.lt hM), by rw [hs]; exact h.r1.same_ fun ad hA hb => hch _ hb (ha ad hA), by rw [hs]; exact h.r2.same_ fun ad hA hb => hch _ hb (ha2 ad hA), h.c1, h.c2, h.f1, h.f2, h.lo, h.o1, h.o2⟩
theorem DP.cleared {w w' : World} {n g gb gt gc : Nat} {ps : List (List UInt8)} {T : List Bool} (h : DP w g gb gt n ps T) (hch : ∀ g', g' < w.heap.size → g' ≠ gc → w'.heap[g']? = w.heap[g']?) (h1 : g ≠ gc) (h2 : gb ≠ gc) (h3 : gt ≠ gc) : DP w' g gb gt n ps T :=
  ⟨⟨h.dk.d.same_ (hch g h.dk.d.lt h1), h.dk.b.same_ (hch gb h.dk.b.lt h2), h.dk.t.same_ (hch gt h.dk.t.lt h3), h.dk.hb, h.dk.ht⟩, h.full, h.hp⟩
theorem RP.under {w : World} {B M n gb gt : Nat} {ps : List (List UInt8)} {T : List Bool} {A A2 : Option Addr} {c c2 : Nat} (h : RP w B M n gb gt ps T A c A2 c2) (hn : 1 ≤ n) : (∀ ad, A = some ad → ad.block < w.heap.size) ∧ (∀ ad, A2 = some ad → ad.block < w.heap.size) := by
  refine ⟨fun ad hA => ?_, fun ad hA => ?_⟩
  · obtain ⟨ad', e, hb, _⟩ := h.r1.2 (by omega)
    rw [hA] at e; injection e with e; subst e
    exact hb
  · obtain ⟨ad', e, hb, _⟩ := h.r2.2 (by omega)
    rw [hA] at e; injection e with e; subst e
    exact hb
theorem slice1 (g : Nat) (W : World) : (Instr.slice 27 (.slice (some ⟨g, 0, none⟩) 512 512) (some (.int .i64 1)) none none).run Try.prog W = .ok (.slice (some ⟨g, 1, none⟩) 511 511) W := by
  rw [run_slice_l W 27 (some ⟨g, 0, none⟩) 512 512 Try.sliceB .i64 1 (by omega) (by omega), Try.elemB, Try.sizeB]
  simp [sliced, Result.andThen, Addr.add]
theorem clear_nil (w : World) (c : Nat) (ty : TypeId) : (Builtin.clear_ #[27] ty #[.slice none 0 c]).run Try.prog w = .ok (.tuple #[]) w := by
  have ht : Try.prog.underlying 27 = some (.slice 5) := Try.underlying27
  simp [Builtin.clear_, run_underlying ht, Sem.run_pure]
end
end Go.Proofs.Ytjlpfhioacphkaa
