/-
  Several texts in one: Dx Ea Eb Zd Ec Ed.
-/
import Derived.Test.YtebobcbaloddaaaMuax
import Derived.Test.YtebobcbaloddaaaMuau
import Derived.Test.YtebobcbaloddaaaMuac
import Derived.Test.YtebobcbaloddaaaMuak
import Derived.Lib.ConvBytes
import Derived.Lib.SliceRun
import Derived.Deep.Upon
/-
  Bytes of a string as a row; clear of it; the image that the law DiskLoads makes.
-/
namespace Go.Proofs.Ytebobcbaloddaaa
section
set_option linter.unusedSimpArgs false
set_option linter.unusedVariables false
open Go.RowKit

/-- What '[]byte(s)' makes: a new row that reads as s, whose cells can be written. -/
structure Fresh (w w' : World) (l : List UInt8) (c : Nat) : Prop where
  reads : Reads w' w'.heap.size 1 (some ⟨w.heap.size, 0, none⟩) l.length (bL l)
  below : Below w.heap.size w w'
  size : w'.heap.size = w.heap.size + 1
  isC : ∀ j, j < l.length → (w'.cell? ⟨w.heap.size, j, none⟩).isSome = true
  free : ∀ j, j < l.length → w'.frozen? ⟨w.heap.size, j, none⟩ = false
theorem bytes_of_str (w : World) (l : List UInt8) : ∃ w' c, (convert 9 50 (.string (str l))).run Try.prog w = .ok (.slice (some ⟨w.heap.size, 0, none⟩) l.length c) w' ∧ Fresh w w' l c := by
  refine ⟨Lib.bytesWorld w 5 (str l), grownCap w (str l).size 0 5, ?_, ?_⟩
  · have h := Lib.run_convert_string_bytes (P := Try.prog) w 9 50 5 (str l) Try.underlying9 Try.underlying50 Try.underlying5
    rw [h, str_size]
  · have hcell : ∀ j, j < l.length → (Lib.bytesWorld w 5 (str l)).cell? ⟨w.heap.size, j, none⟩ = some (.int .u8 ((l.getD j 0).toNat : Int)) := by
      intro j hj
      rw [Lib.bytesWorld_cell w _ (str l) j (by rw [str_size]; exact hj), str_data]
    have hz := Lib.bytesWorld_size w 5 (str l)
    refine ⟨⟨by rw [bL_len]; omega, fun _ => ⟨_, rfl, by simp [hz], fun j u hu => ?_⟩⟩, ⟨rfl, rfl, rfl, by omega, fun k hk => Lib.bytesWorld_at_old _ _ _ _ hk⟩, hz, fun j hj => by rw [hcell j hj]; rfl, fun j hj => ?_⟩
    · have hj := lt_of_at hu
      rw [bL_len] at hj
      rw [add_head, hcell j hj, ← hu]
      simp [bL, hj, List.getD]
    · have hs : (str l).size = l.length := str_size l
      simp only [World.frozen?, Lib.bytesWorld_at_new]
      have : (Lib.bytesCells w 5 (str l)).size ≥ l.length := by simp [Lib.bytesCells, str]
      simp; omega
theorem bel_setCells {B g : Nat} {w0 : World} (hB : B ≤ g) : ∀ (vs : List Value) (o : Nat) (wx : World), Below B w0 wx → Below B w0 (wx.setCells g o vs)
  | [], _, _, h => h
  | v :: r, o, _, h => bel_setCells hB r (o + 1) _ (h.setCell hB v)
theorem siz_setCells (g : Nat) : ∀ (vs : List Value) (o : Nat) (w : World), (w.setCells g o vs).heap.size = w.heap.size
  | [], _, _ => rfl
  | v :: r, o, w => (siz_setCells g r (o + 1) _).trans (by simp [World.setCell])
theorem Try.zeroB8 (w : World) : (zeroValue 5).run Try.prog w = .ok (.int .u8 0) w := by kernel_rfl
/-- clear of such a row. -/
theorem clear_row' {w : World} (g o n c : Nat) (hc : ∀ j, j < n → (w.cell? ⟨g, o + j, none⟩).isSome = true) (hf : ∀ j, j < n → w.frozen? ⟨g, o + j, none⟩ = false) :
    ∃ w', (∀ ty, (Builtin.clear_ #[50] ty #[.slice (some ⟨g, o, none⟩) n c]).run Try.prog w = .ok (.tuple #[]) w') ∧ (∀ B w0, B ≤ g → Below B w0 w → Below B w0 w') ∧ (∀ g', g' < w.heap.size → g' ≠ g → w'.heap[g']? = w.heap[g']?) ∧ w'.heap.size = w.heap.size := by
  rcases Nat.eq_zero_or_pos n with h0 | h0
  · subst h0
    refine ⟨w, fun ty => ?_, fun _ _ _ k => k, fun _ _ _ => rfl, rfl⟩
    have ht : Try.prog.underlying 50 = some (.slice 5) := Try.underlying50
    simp [Builtin.clear_, run_underlying ht, Sem.run_pure]
  · refine ⟨w.setCells g o (List.replicate n (.int .u8 0)), fun ty => ?_, fun B w0 hB hb => bel_setCells hB _ _ _ hb, fun g' hg' hne => World.heap_setCells_other w g o _ hg' hne, siz_setCells g _ _ _⟩
    refine Lib.run_clear_slice w _ _ ty _ Try.underlying50 Try.zeroB8 rfl rfl g o n c h0 (fun j hj => hc j hj) (fun j hj => hf j hj)
theorem clear_row {w : World} (g n c : Nat) (hc : ∀ j, j < n → (w.cell? ⟨g, j, none⟩).isSome = true) (hf : ∀ j, j < n → w.frozen? ⟨g, j, none⟩ = false) :
    ∃ w', (∀ ty, (Builtin.clear_ #[50] ty #[.slice (some ⟨g, 0, none⟩) n c]).run Try.prog w = .ok (.tuple #[]) w') ∧ (∀ B w0, B ≤ g → Below B w0 w → Below B w0 w') ∧ (∀ g', g' < w.heap.size → g' ≠ g → w'.heap[g']? = w.heap[g']?) ∧ w'.heap.size = w.heap.size :=
  clear_row' g 0 n c (fun j hj => by rw [Nat.zero_add]; exact hc j hj) (fun j hj => by rw [Nat.zero_add]; exact hf j hj)
theorem Blk.same_ {w w' : World} {g : Nat} {t : TypeId} {cs : Array Value} (h : Blk w g t cs) (e : w'.heap[g]? = w.heap[g]?) : Blk w' g t cs := e.trans h
theorem Reads.same_ {w w' : World} {B size n : Nat} {A : Option Addr} {xs : List Value} (h : Reads w B size A n xs) (e : ∀ ad, A = some ad → ad.block < B → w'.heap[ad.block]? = w.heap[ad.block]?) : Reads w' B size A n xs :=
  ⟨h.1, fun hn => by
    obtain ⟨ad, hA, hb, hc⟩ := h.2 hn
    exact ⟨ad, hA, hb, fun j u hu => (World.cell?_of_block (by rw [block_of_add]; exact e ad hA hb)).trans (hc j u hu)⟩⟩

theorem reads_blk {w : World} {g : Nat} {t : TypeId} {l : List UInt8} (h : Blk w g t (bV l)) {n : Nat} (hn : l.length = n) : Reads w (g + 1) 1 (some ⟨g, 0, none⟩) n (bL l) := by
  refine ⟨by rw [bL_len]; omega, fun _ => ⟨_, rfl, Nat.lt_succ_self _, fun j u hu => ?_⟩⟩
  rw [add_head, h.cell, bV, List.getElem?_toArray]
  exact hu
theorem conv_tail {w : World} {g : Nat} {t : TypeId} {l : List UInt8} (h : Blk w g t (bV l)) (hl : l.length = 512) : (convert 50 9 (.slice (some ⟨g, 1, none⟩) 511 511)).run Try.prog w = .ok (.string (str (l.drop 1))) w := by
  refine conv_reads (P := Try.prog) (B := g + 1) (l := l.drop 1) ⟨by rw [bL_len, List.length_drop, hl], fun _ => ⟨_, rfl, Nat.lt_succ_self _, fun j u hu => ?_⟩⟩ 50 5 9 Try.underlying50 Try.underlying5 Try.underlying9 511
  have e : (⟨g, 1, none⟩ : Addr).add j = ⟨g, 1 + j, none⟩ := by unfold Addr.add; split <;> simp_all
  rw [e, h.cell, bV, List.getElem?_toArray]
  have e2 : bL (l.drop 1) = (bL l).drop 1 := by simp [bL]
  rw [e2, List.getElem?_drop] at hu
  exact hu
/-- The image behind the first k bytes. -/
def fl5 (b : UInt8) : List UInt8 := List.replicate 511 b
theorem fl5_len (b : UInt8) : (fl5 b).length = 511 := List.length_replicate
def imgK (ks : List UInt8) (k : Nat) : List UInt8 := ((List.range k).map fun i => ks.getD i 0 :: fl5 (UInt8.ofNat i)).flatten
theorem imgK_snoc (ks : List UInt8) (k : Nat) : imgK ks (k + 1) = imgK ks k ++ (ks.getD k 0 :: fl5 (UInt8.ofNat k)) := by
  unfold imgK
  rw [List.range_succ, List.map_append, List.flatten_append, List.map_singleton, List.flatten_singleton]
theorem imgK_succ (ks : List UInt8) (k : Nat) (x : UInt8) (h : ks[k]? = some x) : imgK ks (k + 1) = imgK ks k ++ ([x] ++ fl5 (UInt8.ofNat k)) := by
  rw [imgK_snoc, List.getD_eq_getElem?_getD, h]
  rfl
theorem imgK_len (ks : List UInt8) (k : Nat) : (imgK ks k).length = k * 512 := by
  induction k with
  | zero => rfl
  | succ k ih =>
    rw [imgK_snoc, List.length_append, ih, List.length_cons, fl5_len]
    omega
end
end Go.Proofs.Ytebobcbaloddaaa
/-
  The reference's disk: take, Write, Take.
-/
namespace Go.Proofs.Ytebobcbaloddaaa
section
set_option linter.unusedSimpArgs false
set_option linter.unusedVariables false
open Go.RowKit

theorem tL_set (T : List Bool) (i : Nat) (b : Bool) : (tL T).set i (.bool b) = tL (T.set i b) := by simp [tL, List.map_set]
theorem sL_set (ps : List (List UInt8)) (i : Nat) (p : List UInt8) : (sL ps).set i (.string (str p)) = sL (ps.set i p) := by simp [sL, List.map_set]
/-- A row of the call's own that has elements: its head, a cell, a store. -/
theorem own_at {w : World} {base : Nat} {e : TypeId} {n c : Nat} {A : Option Addr} {xs : List Value} (h : w.ownsRow base e 1 (.slice A n c) n xs) (i : Nat) (hi : i < n) :
    ∃ g u, A = some ⟨g, 0, none⟩ ∧ base ≤ g ∧ g < w.heap.size ∧ w.cell? ⟨g, i, none⟩ = some u ∧ w.frozen? ⟨g, i, none⟩ = false ∧ ∀ u, (w.setCell ⟨g, i, none⟩ u).ownsRow base e 1 (.slice A n c) n (xs.set i u) := by
  obtain ⟨g, cap, hv, hb, hlt⟩ := World.ownsRow.form h (by omega)
  injection hv with hA _ hc
  subst hA; subst hc
  have hxl : xs.length = n * 1 := h.1
  exact ⟨g, xs[i]'(by omega), rfl, hb, hlt, by rw [h.cellAt i (by omega), List.getElem?_eq_getElem (by omega)], h.frozenAt i, fun u => (h.stored i u).1⟩
theorem own_far2 {w : World} {base : Nat} {e : TypeId} {size n : Nat} {v : Value} {xs : List Value} (h : w.ownsRow base e size v n xs) (g : Nat) (hg : g < base) (j : Nat) (u : Value) : (w.setCell ⟨g, j, none⟩ u).ownsRow base e size v n xs := by
  refine h.kept (row := some g) ⟨rfl, rfl, rfl, by simp [World.setCell], fun k hk hkg => Below.heap_setCell w _ u k (fun e' => hkg (by rw [e'])) ⟩ (.inr fun e' => ?_)
  have := (h.lt g e').1
  omega
theorem blk_far_grown {w w' : World} {base : Nat} {e : TypeId} {size n : Nat} {v : Value} {xs : List Value} {g : Nat} {t : TypeId} {cs : Array Value} (h : w.ownsRow base e size v n xs) (hb : Blk w g t cs) (hg : w.grownBy w' v.ownBlock) (hlt : g < base) : Blk w' g t cs :=
  hb.grown hg fun e' => by have := (h.lt g e'.symm).1; omega
/-- What take leaves: the pages as they were; new marks. -/
def RetTake (w : World) (A : Option Addr) (n c : Nat) (T : List Bool) (e : Ending) (w' : World) : Prop :=
  ∃ A2 c2, e = .returned (.agg #[.slice A n c, .slice A2 n c2]) ∧ Reads w' w'.heap.size 1 A2 n (tL T) ∧ n ≤ c2 ∧ (∀ ad, A2 = some ad → w.heap.size ≤ ad.block) ∧ Below w.heap.size w w'
end
end Go.Proofs.Ytebobcbaloddaaa
/-
  The disk's Write, Take, with its pages as lists; the reference's Write, Take.
-/
namespace Go.Proofs.Ytebobcbaloddaaa
section
set_option linter.unusedSimpArgs false
set_option linter.unusedVariables false
open Go.RowKit

/-- What an operation leaves: the disk with these pages and marks; every other block as it was. -/
def Left (w w' : World) (g gb gt n : Nat) (ps : List (List UInt8)) (T : List Bool) : Prop :=
  DP w' g gb gt n ps T ∧ (∀ B, B ≤ gb → B ≤ gt → Below B w w') ∧ (∀ g', g' ≠ gb → g' ≠ gt → w'.heap[g']? = w.heap[g']?) ∧ w'.heap.size = w.heap.size
theorem writeDP {w : World} {g gb gt n : Nat} {ps : List (List UInt8)} {T : List Bool} (h : DP w g gb gt n ps T) (p : Nat) (hp : p < n) (hn : n ≤ 1000000) (ad : Addr) (c B : Nat) (q : List UInt8) (hr : Reads w B 1 (some ad) 512 (bL q)) :
    Calls Try.prog 36 #[.pointer (some ⟨g, 0, none⟩), .int .u32 p, .slice (some ad) 512 c] w fun e w' => e = .returned (.int .i64 0) ∧ Left w w' g gb gt n (ps.set p q) (T.set p true) := by
  have hT := h.hT
  have hql : q.length = 512 := hr.bytes_len
  refine (write_ok h.dk p hp hn ad c B (bL q) hr (bL_one q) (.bool (T[p]'(by omega))) (tV_at (List.getElem?_eq_getElem (by omega)))).mono ?_
  rintro e w' ⟨rfl, rfl⟩
  have hfl := pflat_len ps h.full
  rw [splice_bV, pflat_set ps h.full p q (by rw [h.hp]; exact hp) hql]
  have hf2 := full_set h.full p hql
  have h1 := h.dk.wrote (new := bV (ps.set p q).flatten) (by rw [bV_size, pflat_len _ hf2, List.length_set, h.hp])
  refine ⟨rfl, ⟨by rw [← tV_set]; exact h1.mark p _, hf2, by rw [List.length_set, h.hp]⟩, ?_, ?_, ?_⟩
  · intro B h1 h2
    exact (below_setRow (Below.refl _ _) h1 _).setCell h2 _
  · intro g' h1 h2
    exact (Below.heap_setCell _ _ _ _ h2).trans (setRow_other _ _ _ _ h1)
  · simp [World.setCell, World.setRow]
theorem write_outDP {w : World} {g gb gt n : Nat} {ps : List (List UInt8)} {T : List Bool} (h : DP w g gb gt n ps T) (p : Nat) (hp : n ≤ p) (hp2 : (p : Int) ≤ 4294967295) (hn : n ≤ 1000000) (v : Value) :
    Calls Try.prog 36 #[.pointer (some ⟨g, 0, none⟩), .int .u32 p, v] w fun e w' => e = .returned (.int .i64 8) ∧ w = w' := write_out h.dk p hp (by omega) hn v
theorem write_short {w : World} {g gb gt n : Nat} {ps : List (List UInt8)} {T : List Bool} (h : DP w g gb gt n ps T) (p : Nat) (hp : p < n) (hn : n ≤ 1000000) (A : Option Addr) (c : Nat) :
    Calls Try.prog 36 #[.pointer (some ⟨g, 0, none⟩), .int .u32 p, .slice A 511 c] w fun e w' => e = .returned (.int .i64 1) ∧ w = w' := by
  have HB := Lib.hid (has_any h.dk p (by omega) (by omega) hn)
  have hd : decide (p < n) = true := decide_eq_true hp
  clear h
  go_enter Try.func36, Try.ntmps36
  go_wp2_with (go_at_call 56; refine HB.out.mono ?_; rintro e w' ⟨rfl, rfl⟩)
  go_ret
  exact ⟨rfl, rfl⟩
theorem takeDP {w : World} {g gb gt n : Nat} {ps : List (List UInt8)} {T : List Bool} (h : DP w g gb gt n ps T) (hn : n ≤ 1000000) (i : Nat) (hi : T[i]? = some false) (hj : ∀ j : Nat, j < i → T[j]? = some true) :
    Calls Try.prog 51 #[.pointer (some ⟨g, 0, none⟩)] w fun e w' => e = .returned (.tuple #[.int .u32 i, .int .i64 0]) ∧ Left w w' g gb gt n ps (T.set i true) := by
  refine (take_at h.dk hn i (tV_at hi) (fun j h => tV_at (hj j h))).mono ?_
  rintro e w' ⟨rfl, rfl⟩
  refine ⟨rfl, h.mark i true, ?_, ?_, ?_⟩
  · intro B h1 h2
    exact (Below.refl _ _).setCell h2 _
  · intro g' h1 h2
    exact Below.heap_setCell _ _ _ _ h2
  · simp [World.setCell]
theorem take_fullDP {w : World} {g gb gt n : Nat} {ps : List (List UInt8)} {T : List Bool} (h : DP w g gb gt n ps T) (hn : n ≤ 1000000) (hj : ∀ j : Nat, j < n → T[j]? = some true) :
    Calls Try.prog 51 #[.pointer (some ⟨g, 0, none⟩)] w fun e w' => e = .returned (.tuple #[.int .u32 0, .int .i64 7]) ∧ w = w' :=
  take_full h.dk hn (fun j h => tV_at (hj j h))

theorem reads_far {w : World} {size n : Nat} {A : Option Addr} {xs : List Value} (h : Reads w w.heap.size size A n xs) {p : Addr} (hp : ∀ ad, A = some ad → ad.block ≠ p.block) (u : Value) : Reads (w.setCell p u) (w.setCell p u).heap.size size A n xs := by
  have e : (w.setCell p u).heap.size = w.heap.size := by simp [World.setCell]
  rw [e]
  exact h.same_ fun ad hA _ => Below.heap_setCell _ _ _ _ (hp ad hA)
/-- What the reference's Take leaves. -/
def RetTk (w : World) (A : Option Addr) (n c : Nat) (i : Nat) (T : List Bool) (e : Ending) (w' : World) : Prop :=
  ∃ A2 c2, e = .returned (.tuple #[.int .u32 i, .int .i64 0, .agg #[.slice A n c, .slice A2 n c2]]) ∧ Reads w' w'.heap.size 1 A2 n (tL T) ∧ n ≤ c2 ∧ (∀ ad, A2 = some ad → w.heap.size ≤ ad.block) ∧ Below w.heap.size w w'
end
end Go.Proofs.Ytebobcbaloddaaa
/-
  Bytes of a string as a row of its own; clear of a row of the call's own.
-/
namespace Go.Proofs.Ytebobcbaloddaaa
section
set_option linter.unusedSimpArgs false
set_option linter.unusedVariables false
set_option linter.unusedSimpArgs false
set_option linter.unusedVariables false
open Go.RowKit

theorem below_setCells {B g : Nat} {w0 : World} (hB : B ≤ g) : ∀ (vs : List Value) (o : Nat) (w : World), Below B w0 w → Below B w0 (w.setCells g o vs)
  | [], _, _, h => h
  | v :: r, o, w, h => below_setCells hB r (o + 1) _ (h.setCell hB v)
theorem size_setCells (g : Nat) : ∀ (vs : List Value) (o : Nat) (w : World), (w.setCells g o vs).heap.size = w.heap.size
  | [], _, _ => rfl
  | v :: r, o, w => (size_setCells g r (o + 1) _).trans (by simp [World.setCell])
theorem Try.zeroB (w : World) : (zeroValue 5).run Try.prog w = .ok (.int .u8 0) w := by kernel_rfl
/-- clear(own). -/
theorem Own.clear_ {w : World} {base : Nat} {A : Option Addr} {n c : Nat} {l : List UInt8} (h : Own w base (.slice A n c) l) :
    ∃ w', (∀ ty, (Builtin.clear_ #[50] ty #[.slice A n c]).run Try.prog w = .ok (.tuple #[]) w') ∧ (∀ B w0, B ≤ base → Below B w0 w → Below B w0 w') ∧
      (∀ g, g < w.heap.size → (Value.slice A n c).ownBlock ≠ some g → w'.heap[g]? = w.heap[g]?) ∧ w.heap.size ≤ w'.heap.size := by
  rcases Nat.eq_zero_or_pos n with h0 | h0
  · subst h0
    refine ⟨w, fun ty => ?_, fun _ _ _ k => k, fun _ _ _ => rfl, Nat.le_refl _⟩
    have ht : Try.prog.underlying 50 = some (.slice 5) := Try.underlying50
    cases A <;> simp [Builtin.clear_, run_underlying ht, Sem.run_pure]
  · obtain ⟨A', c', e, _⟩ := h.form
    have hn : n = l.length := h.reads.2
    obtain ⟨g, cap, hv, hbase, hlt⟩ := World.ownsRow.form h (by omega)
    have hA : A = some ⟨g, 0, none⟩ := by injection hv
    have hcc : c = cap := by injection hv
    subst hA; subst hcc
    have h' : w.ownsRow base 5 1 (.slice (some ⟨g, 0, none⟩) l.length c) l.length (bL l) := by rw [hn] at h; exact h
    refine ⟨w.setCells g 0 (List.replicate n (.int .u8 0)), fun ty => ?_, ?_, ?_, by rw [size_setCells]; exact Nat.le_refl _⟩
    · refine Lib.run_clear_slice w _ _ ty _ Try.underlying50 Try.zeroB rfl rfl g 0 n c h0 (fun j hj => ?_) (fun j hj => ?_)
      · rw [Nat.zero_add, h'.cellAt j (by omega), List.getElem?_eq_getElem (by rw [bL_len]; omega)]
        rfl
      · rw [Nat.zero_add]
        exact h'.frozenAt j
    · intro B w0 hB hb
      exact below_setCells (by omega) _ _ _ hb
    · intro g' hg' hne
      refine World.heap_setCells_other w g 0 _ hg' (fun e => hne ?_)
      subst e
      rfl
theorem own_base {w : World} {base sz n m c : Nat} {t : TypeId} {A : Option Addr} {ad : Addr} {xs : List Value} (h : w.ownsRow base t sz (.slice A m c) n xs) (hA : A = some ad) : base ≤ ad.block := by
  rcases h.2 with ⟨hv, _⟩ | ⟨g, cap, cur, hv, hb, _⟩
  · injection hv with h1; rw [hA] at h1; cases h1
  · injection hv with h1; rw [hA] at h1; injection h1 with h1; subst h1; exact hb
end
end Go.Proofs.Ytebobcbaloddaaa
/-
  The reference's Write.
-/
namespace Go.Proofs.Ytebobcbaloddaaa
section
set_option linter.unusedSimpArgs false
set_option linter.unusedVariables false
open Go.RowKit

theorem own_kept_below {w w' : World} {base : Nat} {e : TypeId} {size n : Nat} {v : Value} {xs : List Value} (h : w.ownsRow base e size v n xs) (hb : Below w.heap.size w w') : w'.ownsRow base e size v n xs :=
  World.ownsRow.kept h (row := none) ⟨hb.os, hb.tape, hb.output, hb.size, fun i hi _ => hb.block i hi⟩ (by cases h' : v.ownBlock <;> simp)
/-- What the reference's Write leaves. -/
def RetWr (w : World) (n : Nat) (ps : List (List UInt8)) (T : List Bool) (e : Ending) (w' : World) : Prop :=
  ∃ A c A2 c2, e = .returned (.tuple #[.int .i64 0, .agg #[.slice A n c, .slice A2 n c2]]) ∧ Reads w' w'.heap.size 1 A n (sL ps) ∧ Reads w' w'.heap.size 1 A2 n (tL T) ∧ n ≤ c ∧ n ≤ c2 ∧
    (∀ ad, A = some ad → w.heap.size ≤ ad.block) ∧ (∀ ad, A2 = some ad → w.heap.size ≤ ad.block) ∧ Below w.heap.size w w'
end
end Go.Proofs.Ytebobcbaloddaaa
/-
  New, both sides, with its pages as lists.
-/
namespace Go.Proofs.Ytebobcbaloddaaa
section
set_option linter.unusedSimpArgs false
set_option linter.unusedVariables false
open Go.RowKit

/-- The bytes of a new disk. -/
def zb (n : Nat) : List UInt8 := List.replicate (n * 512) 0
theorem zb_len (n : Nat) : (zb n).length = n * 512 := List.length_replicate
theorem zb_marks (n : Nat) (h : 1 ≤ n) : marksOf (zb n) n = true :: List.replicate (n - 1) false := by
  apply List.ext_getElem
  · rw [marksOf_len, List.length_cons, List.length_replicate]; omega
  · intro i h1 h2
    rw [marksOf_len] at h1
    have hm : (marksOf (zb n) n)[i] = mark (zb n) i := by simp [marksOf]
    rw [hm]
    have hz : (zb n)[i * 512]? = some 0 := by
      unfold zb
      rw [List.getElem?_replicate, if_pos (by omega)]
    unfold mark
    rw [hz]
    cases i with
    | zero => rfl
    | succ i => simp
theorem newDP (n : Nat) (h1 : 1 ≤ n) (h2 : n ≤ 4096) (w : World) : Calls Try.prog 7 #[.int .i64 n] w (RetDP w n (pagesOf (zb n) n) (marksOf (zb n) n)) := by
  refine (new_any n h1 h2 w).mono ?_
  rintro e w' ⟨g, gb, gt, rfl, hd, k1, k2, k3, hb⟩
  rw [newMarks_eq (zb n) n h1] at hd
  have e1 : marksP (zb n) n 0 = marksOf (zb n) n := by rw [zb_marks n h1]; rfl
  rw [e1, zero_rep] at hd
  have hfl := pagesOf_all (zb n) n (zb_len n)
  exact ⟨g, gb, gt, rfl, ⟨by rw [hfl]; exact hd, pagesOf_full _ _ (by rw [zb_len]; exact Nat.le_refl _), pagesOf_len _ _⟩, k1, k2, k3, hb⟩
end
end Go.Proofs.Ytebobcbaloddaaa
