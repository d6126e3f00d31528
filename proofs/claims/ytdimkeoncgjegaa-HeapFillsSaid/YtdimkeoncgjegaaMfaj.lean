/-
  Several texts in one: Dx Ea Eb Ec.
-/
import Derived.Test.YtdimkeoncgjegaaMfai
import Derived.Test.YtdimkeoncgjegaaMfae
import Derived.Test.YtdimkeoncgjegaaMfac
import Derived.Lib.ConvBytes
import Derived.Lib.SliceRun
import Derived.Deep.Upon
/-
  Bytes of a string as a row; clear of it; the image that the law DiskLoads makes.
-/
namespace Go.Proofs.Ytdimkeoncgjegaa
section
open Go.RowKit

/-- What '[]byte(s)' makes: a new row that reads as s, whose cells can be written. -/
structure Fresh (w w' : World) (l : List UInt8) (c : Nat) : Prop where
  reads : Reads w' w'.heap.size 1 (some ⟨w.heap.size, 0, none⟩) l.length (bL l)
  below : Below w.heap.size w w'
  size : w'.heap.size = w.heap.size + 1
  isC : ∀ j, j < l.length → (w'.cell? ⟨w.heap.size, j, none⟩).isSome = true
  free : ∀ j, j < l.length → w'.frozen? ⟨w.heap.size, j, none⟩ = false
theorem bytes_of_str (w : World) (l : List UInt8) : ∃ w' c, (convert 9 59 (.string (str l))).run Try.prog w = .ok (.slice (some ⟨w.heap.size, 0, none⟩) l.length c) w' ∧ Fresh w w' l c := by
  refine ⟨Lib.bytesWorld w 5 (str l), grownCap w (str l).size 0 5, ?_, ?_⟩
  · have h := Lib.run_convert_string_bytes (P := Try.prog) w 9 59 5 (str l) Try.underlying9 Try.underlying59 Try.underlying5
    rw [h, str_size]
  · have hcell : ∀ j, j < l.length → (Lib.bytesWorld w 5 (str l)).cell? ⟨w.heap.size, j, none⟩ = some (.int .u8 ((l.getD j 0).toNat : Int)) := by
      intro j hj
      rw [Lib.bytesWorld_cell w _ (str l) j (by rw [str_size]; exact hj), str_data]
    have hz := Lib.bytesWorld_size w 5 (str l)
    refine ⟨⟨by rw [bL_len]; omega, fun _ => ⟨_, rfl, by simp [hz], fun j u hu => ?_⟩⟩, ⟨rfl, rfl, rfl, by omega, fun k hk => Lib.bytesWorld_at_old _ _ _ _ hk⟩, hz, fun j hj => by rw [hcell j hj]; rfl, fun j hj => ?_⟩
    · have hj := lt_of_at hu
      rw [bL_len] at hj
      rw [add_head, hcell j hj, ← hu]
      simp [bL, hj, List.getD]
    · have hs : (str l).size = l.length := str_size l
      simp only [World.frozen?, Lib.bytesWorld_at_new]
      have : (Lib.bytesCells w 5 (str l)).size ≥ l.length := by simp [Lib.bytesCells, str]
      simp; omega
theorem bel_setCells {B g : Nat} {w0 : World} (hB : B ≤ g) : ∀ (vs : List Value) (o : Nat) (wx : World), Below B w0 wx → Below B w0 (wx.setCells g o vs)
  | [], _, _, h => h
  | v :: r, o, _, h => bel_setCells hB r (o + 1) _ (h.setCell hB v)
theorem siz_setCells (g : Nat) : ∀ (vs : List Value) (o : Nat) (w : World), (w.setCells g o vs).heap.size = w.heap.size
  | [], _, _ => rfl
  | v :: r, o, w => (siz_setCells g r (o + 1) _).trans (by simp [World.setCell])
theorem Try.zeroB8 (w : World) : (zeroValue 5).run Try.prog w = .ok (.int .u8 0) w := by kernel_rfl
/-- clear of such a row. -/
theorem clear_row' {w : World} (g o n c : Nat) (hc : ∀ j, j < n → (w.cell? ⟨g, o + j, none⟩).isSome = true) (hf : ∀ j, j < n → w.frozen? ⟨g, o + j, none⟩ = false) :
    ∃ w', (∀ ty, (Builtin.clear_ #[59] ty #[.slice (some ⟨g, o, none⟩) n c]).run Try.prog w = .ok (.tuple #[]) w') ∧ (∀ B w0, B ≤ g → Below B w0 w → Below B w0 w') ∧ (∀ g', g' < w.heap.size → g' ≠ g → w'.heap[g']? = w.heap[g']?) ∧ w'.heap.size = w.heap.size := by
  rcases Nat.eq_zero_or_pos n with h0 | h0
  · subst h0
    refine ⟨w, fun ty => ?_, fun _ _ _ k => k, fun _ _ _ => rfl, rfl⟩
    have ht : Try.prog.underlying 59 = some (.slice 5) := Try.underlying59
    simp [Builtin.clear_, run_underlying ht, Sem.run_pure]
  · refine ⟨w.setCells g o (List.replicate n (.int .u8 0)), fun ty => ?_, fun B w0 hB hb => bel_setCells hB _ _ _ hb, fun g' hg' hne => World.heap_setCells_other w g o _ hg' hne, siz_setCells g _ _ _⟩
    refine Lib.run_clear_slice w _ _ ty _ Try.underlying59 Try.zeroB8 rfl rfl g o n c h0 (fun j hj => hc j hj) (fun j hj => hf j hj)
theorem clear_row {w : World} (g n c : Nat) (hc : ∀ j, j < n → (w.cell? ⟨g, j, none⟩).isSome = true) (hf : ∀ j, j < n → w.frozen? ⟨g, j, none⟩ = false) :
    ∃ w', (∀ ty, (Builtin.clear_ #[59] ty #[.slice (some ⟨g, 0, none⟩) n c]).run Try.prog w = .ok (.tuple #[]) w') ∧ (∀ B w0, B ≤ g → Below B w0 w → Below B w0 w') ∧ (∀ g', g' < w.heap.size → g' ≠ g → w'.heap[g']? = w.heap[g']?) ∧ w'.heap.size = w.heap.size :=
  clear_row' g 0 n c (fun j hj => by rw [Nat.zero_add]; exact hc j hj) (fun j hj => by rw [Nat.zero_add]; exact hf j hj)
theorem Blk.same_ {w w' : World} {g : Nat} {t : TypeId} {cs : Array Value} (h : Blk w g t cs) (e : w'.heap[g]? = w.heap[g]?) : Blk w' g t cs := e.trans h
theorem Reads.same_ {w w' : World} {B size n : Nat} {A : Option Addr} {xs : List Value} (h : Reads w B size A n xs) (e : ∀ ad, A = some ad → ad.block < B → w'.heap[ad.block]? = w.heap[ad.block]?) : Reads w' B size A n xs :=
  ⟨h.1, fun hn => by
    obtain ⟨ad, hA, hb, hc⟩ := h.2 hn
    exact ⟨ad, hA, hb, fun j u hu => (World.cell?_of_block (by rw [block_of_add]; exact e ad hA hb)).trans (hc j u hu)⟩⟩

theorem reads_blk {w : World} {g : Nat} {t : TypeId} {l : List UInt8} (h : Blk w g t (bV l)) {n : Nat} (hn : l.length = n) : Reads w (g + 1) 1 (some ⟨g, 0, none⟩) n (bL l) := by
  refine ⟨by rw [bL_len]; omega, fun _ => ⟨_, rfl, Nat.lt_succ_self _, fun j u hu => ?_⟩⟩
  rw [add_head, h.cell, bV, List.getElem?_toArray]
  exact hu
theorem conv_tail {w : World} {g : Nat} {t : TypeId} {l : List UInt8} (h : Blk w g t (bV l)) (hl : l.length = 512) : (convert 59 9 (.slice (some ⟨g, 1, none⟩) 511 511)).run Try.prog w = .ok (.string (str (l.drop 1))) w := by
  refine conv_reads (P := Try.prog) (B := g + 1) (l := l.drop 1) ⟨by rw [bL_len, List.length_drop, hl], fun _ => ⟨_, rfl, Nat.lt_succ_self _, fun j u hu => ?_⟩⟩ 59 5 9 Try.underlying59 Try.underlying5 Try.underlying9 511
  have e : (⟨g, 1, none⟩ : Addr).add j = ⟨g, 1 + j, none⟩ := by unfold Addr.add; split <;> simp_all
  rw [e, h.cell, bV, List.getElem?_toArray]
  have e2 : bL (l.drop 1) = (bL l).drop 1 := by simp [bL]
  rw [e2, List.getElem?_drop] at hu
  exact hu
/-- The image behind the first k bytes. -/
def fl5 (b : UInt8) : List UInt8 := List.replicate 511 b
theorem fl5_len (b : UInt8) : (fl5 b).length = 511 := List.length_replicate
def imgK (ks : List UInt8) (k : Nat) : List UInt8 := ((List.range k).map fun i => ks.getD i 0 :: fl5 (UInt8.ofNat i)).flatten
theorem imgK_snoc (ks : List UInt8) (k : Nat) : imgK ks (k + 1) = imgK ks k ++ (ks.getD k 0 :: fl5 (UInt8.ofNat k)) := by
  unfold imgK
  rw [List.range_succ, List.map_append, List.flatten_append, List.map_singleton, List.flatten_singleton]
theorem imgK_succ (ks : List UInt8) (k : Nat) (x : UInt8) (h : ks[k]? = some x) : imgK ks (k + 1) = imgK ks k ++ ([x] ++ fl5 (UInt8.ofNat k)) := by
  rw [imgK_snoc, List.getD_eq_getElem?_getD, h]
  rfl
theorem imgK_len (ks : List UInt8) (k : Nat) : (imgK ks k).length = k * 512 := by
  induction k with
  | zero => rfl
  | succ k ih =>
    rw [imgK_snoc, List.length_append, ih, List.length_cons, fl5_len]
    omega
end
end Go.Proofs.Ytdimkeoncgjegaa
/-
  The reference's disk: take, Write, Take.
-/
namespace Go.Proofs.Ytdimkeoncgjegaa
section
open Go.RowKit

theorem tL_set (T : List Bool) (i : Nat) (b : Bool) : (tL T).set i (.bool b) = tL (T.set i b) := by simp [tL, List.map_set]
theorem sL_set (ps : List (List UInt8)) (i : Nat) (p : List UInt8) : (sL ps).set i (.string (str p)) = sL (ps.set i p) := by simp [sL, List.map_set]
/-- A row of the call's own that has elements: its head, a cell, a store. -/
theorem own_at {w : World} {base : Nat} {e : TypeId} {n c : Nat} {A : Option Addr} {xs : List Value} (h : w.ownsRow base e 1 (.slice A n c) n xs) (i : Nat) (hi : i < n) :
    ∃ g u, A = some ⟨g, 0, none⟩ ∧ base ≤ g ∧ g < w.heap.size ∧ w.cell? ⟨g, i, none⟩ = some u ∧ w.frozen? ⟨g, i, none⟩ = false ∧ ∀ u, (w.setCell ⟨g, i, none⟩ u).ownsRow base e 1 (.slice A n c) n (xs.set i u) := by
  obtain ⟨g, cap, hv, hb, hlt⟩ := World.ownsRow.form h (by omega)
  injection hv with hA _ hc
  subst hA; subst hc
  have hxl : xs.length = n * 1 := h.1
  exact ⟨g, xs[i]'(by omega), rfl, hb, hlt, by rw [h.cellAt i (by omega), List.getElem?_eq_getElem (by omega)], h.frozenAt i, fun u => (h.stored i u).1⟩
theorem own_far2 {w : World} {base : Nat} {e : TypeId} {size n : Nat} {v : Value} {xs : List Value} (h : w.ownsRow base e size v n xs) (g : Nat) (hg : g < base) (j : Nat) (u : Value) : (w.setCell ⟨g, j, none⟩ u).ownsRow base e size v n xs := by
  refine h.kept (row := some g) ⟨rfl, rfl, rfl, by simp [World.setCell], fun k hk hkg => Below.heap_setCell w _ u k (fun e' => hkg (by rw [e'])) ⟩ (.inr fun e' => ?_)
  have := (h.lt g e').1
  omega
theorem blk_far_grown {w w' : World} {base : Nat} {e : TypeId} {size n : Nat} {v : Value} {xs : List Value} {g : Nat} {t : TypeId} {cs : Array Value} (h : w.ownsRow base e size v n xs) (hb : Blk w g t cs) (hg : w.grownBy w' v.ownBlock) (hlt : g < base) : Blk w' g t cs :=
  hb.grown hg fun e' => by have := (h.lt g e'.symm).1; omega
/-- What take leaves: the pages as they were; new marks. -/
def RetTake (w : World) (A : Option Addr) (n c : Nat) (T : List Bool) (e : Ending) (w' : World) : Prop :=
  ∃ A2 c2, e = .returned (.agg #[.slice A n c, .slice A2 n c2]) ∧ Reads w' w'.heap.size 1 A2 n (tL T) ∧ n ≤ c2 ∧ (∀ ad, A2 = some ad → w.heap.size ≤ ad.block) ∧ Below w.heap.size w w'

set_option maxRecDepth 100000 in
set_option maxHeartbeats 2000000 in
theorem rtake_any {w : World} {n : Nat} (A : Option Addr) (c : Nat) (A2 : Option Addr) (c2 : Nat) (T : List Bool) (hr : Reads w w.heap.size 1 A2 n (tL T)) (hn : n ≤ 1000000) (i : Nat) (hi : i < n) :
    Calls Try.prog 66 #[.agg #[.slice A n c, .slice A2 n c2], .int .i64 i] w (RetTake w A n c (T.set i true)) := by
  obtain ⟨i1, hi1, hz1, hs1, hy1⟩ := int_info8 Try.infoBool
  have hX := Blk.new w 32 #[.slice A n c, .slice A2 n c2]
  have hX2 := (hX.alloc (.cells #[.slice none 0 0, .slice none 0 0] 32)).alloc (.cells #[] 4)
  have hR : Blk (((w.alloc (.cells #[.slice A n c, .slice A2 n c2] 32)).alloc (.cells #[.slice none 0 0, .slice none 0 0] 32)).alloc (.cells #[] 4)) (w.heap.size + 1) 32 #[.slice none 0 0, .slice none 0 0] := (Blk.newAt (by simp)).alloc _
  have hb := ball (ball (ball (Below.refl w.heap.size w) (.cells #[.slice A n c, .slice A2 n c2] 32)) (.cells #[.slice none 0 0, .slice none 0 0] 32)) (.cells #[] 4)
  have hown : (((w.alloc (.cells #[.slice A n c, .slice A2 n c2] 32)).alloc (.cells #[.slice none 0 0, .slice none 0 0] 32)).alloc (.cells #[] 4)).ownsRow (w.heap.size + 2) 4 1 (.slice (some ⟨w.heap.size + 1 + 1, 0, none⟩) 0 0) 0 [] := by
    have := own_empty ((w.alloc (.cells #[.slice A n c, .slice A2 n c2] 32)).alloc (.cells #[.slice none 0 0, .slice none 0 0] 32)) 4 1 (g := w.heap.size + 1 + 1) (by simp)
    simpa using this
  have hrr := hr.below hb
  have hz : (((w.alloc (.cells #[.slice A n c, .slice A2 n c2] 32)).alloc (.cells #[.slice none 0 0, .slice none 0 0] 32)).alloc (.cells #[] 4)).heap.size = w.heap.size + 3 := by simp
  obtain ⟨W3, hW3⟩ : ∃ W3, (((w.alloc (.cells #[.slice A n c, .slice A2 n c2] 32)).alloc (.cells #[.slice none 0 0, .slice none 0 0] 32)).alloc (.cells #[] 4)) = W3 := ⟨_, rfl⟩
  rw [hW3] at hX2 hR hb hown hrr hz
  have HW3 := Lib.hid hW3
  have HH := Lib.hid (And.intro hX2 (And.intro hR hb))
  have h3 : w.heap.size + 2 ≤ W3.heap.size := by omega
  have hiI : (i : Int) < (n : Int) := by omega
  have hi0 : (0 : Int) ≤ (i : Int) := by omega
  clear hW3 hX hr hX2 hR hb hz
  go_enter Try.func66, Try.ntmps66
  go_wp2_with (at_builtin; rw [HW3.out]; refine wpList_append_any _ rfl (.tmp 7) (.tmp 9) 30 rfl (w.heap.size + 2) 4 i1 (.bool false) 1 1 Try.underlying30 hi1 hz1 hs1 hy1 rfl (by decide) _ 0 [] rfl hown w.heap.size A2 n c2 (tL T) rfl hrr (tL_one T) (by unfold maxLen; omega) (by omega) h3 ?_; intro v' w4 hown4 hg4 _; simp only [Nat.zero_add, List.nil_append] at hown4; obtain ⟨A4, c4, rfl, hc4⟩ := own_form hown4; obtain ⟨g4, u4, rfl, hlo4, hlt4, d4, f4, hst4⟩ := own_at hown4 i hi; have X4 := blk_far_grown hown HH.out.1 hg4 (by omega); have R4 := blk_far_grown hown HH.out.2.1 hg4 (by omega); have x40 := X4.cell 0; have x41 := X4.cell 1; have xf1 := X4.frozen 1; have r40 := R4.cell 0; have r41 := R4.cell 1; have rf0 := R4.frozen 0; have rf1 := R4.frozen 1)
  have b4 : Below w.heap.size w w4 := HH.out.2.2.grown hg4 (by omega) fun k hk => by have := (hown.lt k hk).1; omega
  have q := own_far2 (own_far2 (own_far2 (hst4 (.bool true)) w.heap.size (by omega) 1 (.slice (some ⟨g4, 0, none⟩) n c4)) (w.heap.size + 1) (by omega) 0 (.slice A n c)) (w.heap.size + 1) (by omega) 1 (.slice (some ⟨g4, 0, none⟩) n c4)
  rw [tL_set] at q
  have ne1 : ¬ g4 = w.heap.size + 1 := by omega
  have ne2 : ¬ w.heap.size = w.heap.size + 1 := by omega
  exact bodyPost_ret (v := .agg #[.slice A n c, .slice (some ⟨g4, 0, none⟩) n c4]) (by simp [results, Try.results66, go_sem, r40, r41]) rfl
    ⟨_, c4, rfl, Reads.of_own q, hc4, fun ad h => by cases h; show w.heap.size ≤ g4; omega, (((b4.setCell (show w.heap.size ≤ (⟨g4, i, none⟩ : Addr).block from (by show w.heap.size ≤ g4; omega)) _).setCell (show w.heap.size ≤ (⟨w.heap.size, 1, none⟩ : Addr).block by simp) _).setCell (show w.heap.size ≤ (⟨w.heap.size + 1, 0, none⟩ : Addr).block by simp) _).setCell (show w.heap.size ≤ (⟨w.heap.size + 1, 1, none⟩ : Addr).block by simp) _⟩
end
end Go.Proofs.Ytdimkeoncgjegaa
/-
  The disk's Write, Take, with its pages as lists; the reference's Write, Take.
-/
namespace Go.Proofs.Ytdimkeoncgjegaa
section
open Go.RowKit

/-- What an operation leaves: the disk with these pages and marks; every other block as it was. -/
def Left (w w' : World) (g gb gt n : Nat) (ps : List (List UInt8)) (T : List Bool) : Prop :=
  DP w' g gb gt n ps T ∧ (∀ B, B ≤ gb → B ≤ gt → Below B w w') ∧ (∀ g', g' ≠ gb → g' ≠ gt → w'.heap[g']? = w.heap[g']?) ∧ w'.heap.size = w.heap.size
theorem writeDP {w : World} {g gb gt n : Nat} {ps : List (List UInt8)} {T : List Bool} (h : DP w g gb gt n ps T) (p : Nat) (hp : p < n) (hn : n ≤ 1000000) (ad : Addr) (c B : Nat) (q : List UInt8) (hr : Reads w B 1 (some ad) 512 (bL q)) :
    Calls Try.prog 28 #[.pointer (some ⟨g, 0, none⟩), .int .u32 p, .slice (some ad) 512 c] w fun e w' => e = .returned (.int .i64 0) ∧ Left w w' g gb gt n (ps.set p q) (T.set p true) := by
  have hT := h.hT
  have hql : q.length = 512 := hr.bytes_len
  refine (write_ok h.dk p hp hn ad c B (bL q) hr (bL_one q) (.bool (T[p]'(by omega))) (tV_at (List.getElem?_eq_getElem (by omega)))).mono ?_
  rintro e w' ⟨rfl, rfl⟩
  have hfl := pflat_len ps h.full
  rw [splice_bV, pflat_set ps h.full p q (by rw [h.hp]; exact hp) hql]
  have hf2 := full_set h.full p hql
  have h1 := h.dk.wrote (new := bV (ps.set p q).flatten) (by rw [bV_size, pflat_len _ hf2, List.length_set, h.hp])
  refine ⟨rfl, ⟨by rw [← tV_set]; exact h1.mark p _, hf2, by rw [List.length_set, h.hp]⟩, ?_, ?_, ?_⟩
  · intro B h1 h2
    exact (below_setRow (Below.refl _ _) h1 _).setCell h2 _
  · intro g' h1 h2
    exact (Below.heap_setCell _ _ _ _ h2).trans (setRow_other _ _ _ _ h1)
  · simp [World.setCell, World.setRow]
theorem write_outDP {w : World} {g gb gt n : Nat} {ps : List (List UInt8)} {T : List Bool} (h : DP w g gb gt n ps T) (p : Nat) (hp : n ≤ p) (hp2 : (p : Int) ≤ 4294967295) (hn : n ≤ 1000000) (v : Value) :
    Calls Try.prog 28 #[.pointer (some ⟨g, 0, none⟩), .int .u32 p, v] w fun e w' => e = .returned (.int .i64 8) ∧ w = w' := write_out h.dk p hp (by omega) hn v
theorem write_short {w : World} {g gb gt n : Nat} {ps : List (List UInt8)} {T : List Bool} (h : DP w g gb gt n ps T) (p : Nat) (hp : p < n) (hn : n ≤ 1000000) (A : Option Addr) (c : Nat) :
    Calls Try.prog 28 #[.pointer (some ⟨g, 0, none⟩), .int .u32 p, .slice A 511 c] w fun e w' => e = .returned (.int .i64 1) ∧ w = w' := by
  have HB := Lib.hid (has_any h.dk p (by omega) (by omega) hn)
  have hd : decide (p < n) = true := decide_eq_true hp
  clear h
  go_enter Try.func28, Try.ntmps28
  go_wp2_with (go_at_call 49; refine HB.out.mono ?_; rintro e w' ⟨rfl, rfl⟩)
  go_ret
  exact ⟨rfl, rfl⟩
theorem takeDP {w : World} {g gb gt n : Nat} {ps : List (List UInt8)} {T : List Bool} (h : DP w g gb gt n ps T) (hn : n ≤ 1000000) (i : Nat) (hi : T[i]? = some false) (hj : ∀ j : Nat, j < i → T[j]? = some true) :
    Calls Try.prog 23 #[.pointer (some ⟨g, 0, none⟩)] w fun e w' => e = .returned (.tuple #[.int .u32 i, .int .i64 0]) ∧ Left w w' g gb gt n ps (T.set i true) := by
  refine (take_at h.dk hn i (tV_at hi) (fun j h => tV_at (hj j h))).mono ?_
  rintro e w' ⟨rfl, rfl⟩
  refine ⟨rfl, h.mark i true, ?_, ?_, ?_⟩
  · intro B h1 h2
    exact (Below.refl _ _).setCell h2 _
  · intro g' h1 h2
    exact Below.heap_setCell _ _ _ _ h2
  · simp [World.setCell]
theorem take_fullDP {w : World} {g gb gt n : Nat} {ps : List (List UInt8)} {T : List Bool} (h : DP w g gb gt n ps T) (hn : n ≤ 1000000) (hj : ∀ j : Nat, j < n → T[j]? = some true) :
    Calls Try.prog 23 #[.pointer (some ⟨g, 0, none⟩)] w fun e w' => e = .returned (.tuple #[.int .u32 0, .int .i64 7]) ∧ w = w' :=
  take_full h.dk hn (fun j h => tV_at (hj j h))

theorem reads_far {w : World} {size n : Nat} {A : Option Addr} {xs : List Value} (h : Reads w w.heap.size size A n xs) {p : Addr} (hp : ∀ ad, A = some ad → ad.block ≠ p.block) (u : Value) : Reads (w.setCell p u) (w.setCell p u).heap.size size A n xs := by
  have e : (w.setCell p u).heap.size = w.heap.size := by simp [World.setCell]
  rw [e]
  exact h.same_ fun ad hA _ => Below.heap_setCell _ _ _ _ (hp ad hA)
/-- What the reference's Take leaves. -/
def RetTk (w : World) (A : Option Addr) (n c : Nat) (i : Nat) (T : List Bool) (e : Ending) (w' : World) : Prop :=
  ∃ A2 c2, e = .returned (.tuple #[.int .u32 i, .int .i64 0, .agg #[.slice A n c, .slice A2 n c2]]) ∧ Reads w' w'.heap.size 1 A2 n (tL T) ∧ n ≤ c2 ∧ (∀ ad, A2 = some ad → w.heap.size ≤ ad.block) ∧ Below w.heap.size w w'
set_option maxRecDepth 100000 in
set_option maxHeartbeats 2000000 in
theorem rTake_at {w : World} {n : Nat} (A : Option Addr) (c : Nat) (A2 : Option Addr) (c2 : Nat) (T : List Bool) (hr : Reads w w.heap.size 1 A2 n (tL T)) (hn : n ≤ 1000000) (i : Nat) (hi : T[i]? = some false) (hj : ∀ j : Nat, j < i → T[j]? = some true) :
    Calls Try.prog 51 #[.agg #[.slice A n c, .slice A2 n c2]] w (RetTk w A n c i (T.set i true)) := by
  have hT : T.length = n := by have := hr.1; rw [tL_len] at this; omega
  have hin : i < n := by rw [← hT]; exact lt_of_at hi
  have HJ := Lib.hid (And.intro hi hj)
  have hX := (Blk.new w 32 #[.slice A n c, .slice A2 n c2]).alloc (.cells #[.slice none 0 0, .slice none 0 0] 32)
  have hR : Blk ((w.alloc (.cells #[.slice A n c, .slice A2 n c2] 32)).alloc (.cells #[.slice none 0 0, .slice none 0 0] 32)) (w.heap.size + 1) 32 #[.slice none 0 0, .slice none 0 0] := Blk.newAt (by simp)
  have hb := ball (ball (Below.refl w.heap.size w) (.cells #[.slice A n c, .slice A2 n c2] 32)) (.cells #[.slice none 0 0, .slice none 0 0] 32)
  have hrr := hr.below hb
  have hz : ((w.alloc (.cells #[.slice A n c, .slice A2 n c2] 32)).alloc (.cells #[.slice none 0 0, .slice none 0 0] 32)).heap.size = w.heap.size + 2 := by simp
  clear hi hj hr
  go_enter Try.func51, Try.ntmps51
  go_wp2_with fail
  obtain ⟨W2, hW2⟩ : ∃ W2, ((w.alloc (.cells #[.slice A n c, .slice A2 n c2] 32)).alloc (.cells #[.slice none 0 0, .slice none 0 0] 32)) = W2 := ⟨_, rfl⟩
  rw [hW2] at hX hR hb hrr hz ⊢
  clear hW2
  have c0 : W2.cell? ⟨w.heap.size, 0, none⟩ = some (.slice A n c) := hX.cell 0
  have c1 : W2.cell? ⟨w.heap.size, 1, none⟩ = some (.slice A2 n c2) := hX.cell 1
  have TK := Lib.hid (rtake_any A c A2 c2 T (hrr.more (by omega)) hn i hin)
  go_loop [9] (fun v => ∃ k : Nat, v = .int .i64 k ∧ k ≤ i) (fun v => i - (intOf v).toNat)
  case atStart => exact ⟨0, rfl, by omega⟩
  case round =>
    obtain ⟨k, rfl, hk⟩ := hrel
    have g1 : (0 : Int) ≤ (k : Int) := by omega
    have g2 : (k : Int) < (n : Int) := by omega
    obtain ⟨ad, b, rfl, _, hb1, d1⟩ := hrr.bit (k := k) (by omega)
    by_cases hki : k < i
    · obtain rfl : b = true := by
        have := HJ.out.2 k hki
        rw [hb1] at this
        exact Option.some.inj this
      clear hb1
      go_wp2
      go_round
      case rel => exact ⟨k + 1, by go_num, by omega⟩
      case measure => simp [intOf]; omega
    · obtain rfl : i = k := by omega
      obtain rfl : b = false := by
        have := HJ.out.1
        rw [hb1] at this
        exact Option.some.inj this
      clear hb1
      go_wp2_with fail
      refine TK.out.mono ?_
      rintro e w3 ⟨A3, c3, rfl, hr3, hc3, hlo3, hb3⟩
      have R3 := hR.below hb3 hR.lt
      have r0 : w3.cell? ⟨w.heap.size + 1, 0, none⟩ = some (.slice none 0 0) := R3.cell 0
      have r1 : w3.cell? ⟨w.heap.size + 1, 1, none⟩ = some (.slice none 0 0) := R3.cell 1
      have f0 := R3.frozen 0
      have f1 := R3.frozen 1
      have HF := Lib.hid (And.intro hr3 (And.intro hlo3 hb3))
      clear hr3 hlo3 hb3 R3
      go_wp2
      have q := reads_far (reads_far HF.out.1 (p := ⟨w.heap.size + 1, 0, none⟩) (fun ad h => by have := HF.out.2.1 ad h; show ad.block ≠ w.heap.size + 1; omega) (.slice A n c)) (p := ⟨w.heap.size + 1, 1, none⟩) (fun ad h => by have := HF.out.2.1 ad h; show ad.block ≠ w.heap.size + 1; omega) (.slice A3 n c3)
      exact bodyPost_ret (v := .tuple #[.int .u32 i, .int .i64 0, .agg #[.slice A n c, .slice A3 n c3]]) (by simp [results, Try.results51, go_sem, r0, r1]) rfl
        ⟨A3, c3, rfl, q, hc3, fun ad h => by have := HF.out.2.1 ad h; omega, ((bto0 hb HF.out.2.2).setCell (show w.heap.size ≤ (⟨w.heap.size + 1, 0, none⟩ : Addr).block by simp) _).setCell (show w.heap.size ≤ (⟨w.heap.size + 1, 1, none⟩ : Addr).block by simp) _⟩

set_option maxRecDepth 100000 in
set_option maxHeartbeats 2000000 in
theorem rTake_full {w : World} {n : Nat} (A : Option Addr) (c : Nat) (A2 : Option Addr) (c2 : Nat) (T : List Bool) (hr : Reads w w.heap.size 1 A2 n (tL T)) (hn : n ≤ 1000000) (hj : ∀ j : Nat, j < n → T[j]? = some true) :
    Calls Try.prog 51 #[.agg #[.slice A n c, .slice A2 n c2]] w (RetB w (.tuple #[.int .u32 0, .int .i64 7, .agg #[.slice A n c, .slice A2 n c2]])) := by
  have HJ := Lib.hid hj
  have hX := (Blk.new w 32 #[.slice A n c, .slice A2 n c2]).alloc (.cells #[.slice none 0 0, .slice none 0 0] 32)
  have hR : Blk ((w.alloc (.cells #[.slice A n c, .slice A2 n c2] 32)).alloc (.cells #[.slice none 0 0, .slice none 0 0] 32)) (w.heap.size + 1) 32 #[.slice none 0 0, .slice none 0 0] := Blk.newAt (by simp)
  have hb := ball (ball (Below.refl w.heap.size w) (.cells #[.slice A n c, .slice A2 n c2] 32)) (.cells #[.slice none 0 0, .slice none 0 0] 32)
  have hrr := hr.below hb
  clear hj hr
  go_enter Try.func51, Try.ntmps51
  go_wp2_with fail
  obtain ⟨W2, hW2⟩ : ∃ W2, ((w.alloc (.cells #[.slice A n c, .slice A2 n c2] 32)).alloc (.cells #[.slice none 0 0, .slice none 0 0] 32)) = W2 := ⟨_, rfl⟩
  rw [hW2] at hX hR hb hrr ⊢
  clear hW2
  have c0 : W2.cell? ⟨w.heap.size, 0, none⟩ = some (.slice A n c) := hX.cell 0
  have c1 : W2.cell? ⟨w.heap.size, 1, none⟩ = some (.slice A2 n c2) := hX.cell 1
  have r0 : W2.cell? ⟨w.heap.size + 1, 0, none⟩ = some (.slice none 0 0) := hR.cell 0
  have r1 : W2.cell? ⟨w.heap.size + 1, 1, none⟩ = some (.slice none 0 0) := hR.cell 1
  have f0 := hR.frozen 0
  have f1 := hR.frozen 1
  go_loop [9] (fun v => ∃ k : Nat, v = .int .i64 k ∧ k ≤ n) (fun v => n - (intOf v).toNat)
  case atStart => exact ⟨0, rfl, by omega⟩
  case round =>
    obtain ⟨k, rfl, hk⟩ := hrel
    have g1 : (0 : Int) ≤ (k : Int) := by omega
    by_cases hki : k < n
    · have g2 : (k : Int) < (n : Int) := by omega
      obtain ⟨ad, b, rfl, _, hb1, d1⟩ := hrr.bit (k := k) (by omega)
      obtain rfl : b = true := by
        have := HJ.out k hki
        rw [hb1] at this
        exact Option.some.inj this
      clear hb1
      go_wp2
      go_round
      case rel => exact ⟨k + 1, by go_num, by omega⟩
      case measure => simp [intOf]; omega
    · obtain rfl : n = k := by omega
      go_wp2_with fail
      go_region
      go_wp2
      exact bodyPost_ret (v := .tuple #[.int .u32 0, .int .i64 7, .agg #[.slice A n c, .slice A2 n c2]]) (by simp [results, Try.results51, go_sem, r0, r1]) rfl
        ⟨rfl, ((hb.setCell (show w.heap.size ≤ (⟨w.heap.size + 1, 0, none⟩ : Addr).block by simp) _).setCell (show w.heap.size ≤ (⟨w.heap.size + 1, 1, none⟩ : Addr).block by simp) _).drew⟩
end
end Go.Proofs.Ytdimkeoncgjegaa
/-
  The reference's Write.
-/
namespace Go.Proofs.Ytdimkeoncgjegaa
section
open Go.RowKit

theorem own_kept_below {w w' : World} {base : Nat} {e : TypeId} {size n : Nat} {v : Value} {xs : List Value} (h : w.ownsRow base e size v n xs) (hb : Below w.heap.size w w') : w'.ownsRow base e size v n xs :=
  World.ownsRow.kept h (row := none) ⟨hb.os, hb.tape, hb.output, hb.size, fun i hi _ => hb.block i hi⟩ (by cases h' : v.ownBlock <;> simp)
set_option maxRecDepth 100000 in
set_option maxHeartbeats 2000000 in
theorem rwrite_bad {w : World} {n : Nat} (A : Option Addr) (c : Nat) (A2 : Option Addr) (c2 : Nat) (hn : n ≤ 1000000) (p : Nat) (hp : p ≤ 4294967295) (s : ByteArray) (m : Nat) (hs : s.size = m) (E : Int) (h : (n ≤ p ∧ E = 8) ∨ (p < n ∧ m ≠ 512 ∧ E = 1)) :
    Calls Try.prog 53 #[.agg #[.slice A n c, .slice A2 n c2], .int .u32 p, .string s] w (RetB w (.tuple #[.int .i64 E, .agg #[.slice A n c, .slice A2 n c2]])) := by
  have hX := (Blk.new w 32 #[.slice A n c, .slice A2 n c2]).alloc (.cells #[.slice none 0 0, .slice none 0 0] 32)
  have hR : Blk ((w.alloc (.cells #[.slice A n c, .slice A2 n c2] 32)).alloc (.cells #[.slice none 0 0, .slice none 0 0] 32)) (w.heap.size + 1) 32 #[.slice none 0 0, .slice none 0 0] := Blk.newAt (by simp)
  have hb := ball (ball (Below.refl w.heap.size w) (.cells #[.slice A n c, .slice A2 n c2] 32)) (.cells #[.slice none 0 0, .slice none 0 0] 32)
  have hnI : (n : Int) ≤ 1000000 := by omega
  rcases h with ⟨h1, rfl⟩ | ⟨h1, h2, rfl⟩
  · have g1 : (n : Int) ≤ (p : Int) := by omega
    have g3 : (p : Int) ≤ 4294967295 := by omega
    clear h1 hp
    go_enter Try.func53, Try.ntmps53
    go_wp2_with fail
    obtain ⟨W2, hW2⟩ : ∃ W2, ((w.alloc (.cells #[.slice A n c, .slice A2 n c2] 32)).alloc (.cells #[.slice none 0 0, .slice none 0 0] 32)) = W2 := ⟨_, rfl⟩
    rw [hW2] at hX hR hb ⊢
    clear hW2
    have c0 : W2.cell? ⟨w.heap.size, 0, none⟩ = some (.slice A n c) := hX.cell 0
    have c1 : W2.cell? ⟨w.heap.size, 1, none⟩ = some (.slice A2 n c2) := hX.cell 1
    have r0 : W2.cell? ⟨w.heap.size + 1, 0, none⟩ = some (.slice none 0 0) := hR.cell 0
    have r1 : W2.cell? ⟨w.heap.size + 1, 1, none⟩ = some (.slice none 0 0) := hR.cell 1
    have f0 := hR.frozen 0
    have f1 := hR.frozen 1
    go_region
    go_wp2
    exact bodyPost_ret (v := .tuple #[.int .i64 8, .agg #[.slice A n c, .slice A2 n c2]]) (by simp [results, Try.results53, go_sem, r0, r1]) rfl
      ⟨rfl, ((hb.setCell (show w.heap.size ≤ (⟨w.heap.size + 1, 0, none⟩ : Addr).block by simp) _).setCell (show w.heap.size ≤ (⟨w.heap.size + 1, 1, none⟩ : Addr).block by simp) _).drew⟩
  · have g1 : (p : Int) < (n : Int) := by omega
    have g2 : ((m : Int) != 512) = true := by simp; omega
    have g3 : (p : Int) ≤ 4294967295 := by omega
    clear h1 h2 hp
    go_enter Try.func53, Try.ntmps53
    go_wp2_with fail
    obtain ⟨W2, hW2⟩ : ∃ W2, ((w.alloc (.cells #[.slice A n c, .slice A2 n c2] 32)).alloc (.cells #[.slice none 0 0, .slice none 0 0] 32)) = W2 := ⟨_, rfl⟩
    rw [hW2] at hX hR hb ⊢
    clear hW2
    have c0 : W2.cell? ⟨w.heap.size, 0, none⟩ = some (.slice A n c) := hX.cell 0
    have c1 : W2.cell? ⟨w.heap.size, 1, none⟩ = some (.slice A2 n c2) := hX.cell 1
    have r0 : W2.cell? ⟨w.heap.size + 1, 0, none⟩ = some (.slice none 0 0) := hR.cell 0
    have r1 : W2.cell? ⟨w.heap.size + 1, 1, none⟩ = some (.slice none 0 0) := hR.cell 1
    have f0 := hR.frozen 0
    have f1 := hR.frozen 1
    go_region
    go_wp2
    exact bodyPost_ret (v := .tuple #[.int .i64 1, .agg #[.slice A n c, .slice A2 n c2]]) (by simp [results, Try.results53, go_sem, r0, r1]) rfl
      ⟨rfl, ((hb.setCell (show w.heap.size ≤ (⟨w.heap.size + 1, 0, none⟩ : Addr).block by simp) _).setCell (show w.heap.size ≤ (⟨w.heap.size + 1, 1, none⟩ : Addr).block by simp) _).drew⟩

/-- What the reference's Write leaves. -/
def RetWr (w : World) (n : Nat) (ps : List (List UInt8)) (T : List Bool) (e : Ending) (w' : World) : Prop :=
  ∃ A c A2 c2, e = .returned (.tuple #[.int .i64 0, .agg #[.slice A n c, .slice A2 n c2]]) ∧ Reads w' w'.heap.size 1 A n (sL ps) ∧ Reads w' w'.heap.size 1 A2 n (tL T) ∧ n ≤ c ∧ n ≤ c2 ∧
    (∀ ad, A = some ad → w.heap.size ≤ ad.block) ∧ (∀ ad, A2 = some ad → w.heap.size ≤ ad.block) ∧ Below w.heap.size w w'
set_option maxRecDepth 100000 in
set_option maxHeartbeats 2000000 in
theorem rwrite_ok {w : World} {n : Nat} (A : Option Addr) (c : Nat) (A2 : Option Addr) (c2 : Nat) (ps : List (List UInt8)) (T : List Bool) (hr1 : Reads w w.heap.size 1 A n (sL ps)) (hr : Reads w w.heap.size 1 A2 n (tL T)) (hn : n ≤ 1000000) (p : Nat) (hp : p < n) (q : List UInt8) (hq : q.length = 512) :
    Calls Try.prog 53 #[.agg #[.slice A n c, .slice A2 n c2], .int .u32 p, .string (str q)] w (RetWr w n (ps.set p q) (T.set p true)) := by
  obtain ⟨i1, hi1, hz1, hs1, hy1⟩ := int_info8 Try.infoS
  have hX := Blk.new w 32 #[.slice A n c, .slice A2 n c2]
  have hX2 := (hX.alloc (.cells #[.slice none 0 0, .slice none 0 0] 32)).alloc (.cells #[] 9)
  have hR : Blk (((w.alloc (.cells #[.slice A n c, .slice A2 n c2] 32)).alloc (.cells #[.slice none 0 0, .slice none 0 0] 32)).alloc (.cells #[] 9)) (w.heap.size + 1) 32 #[.slice none 0 0, .slice none 0 0] := (Blk.newAt (by simp)).alloc _
  have hb := ball (ball (ball (Below.refl w.heap.size w) (.cells #[.slice A n c, .slice A2 n c2] 32)) (.cells #[.slice none 0 0, .slice none 0 0] 32)) (.cells #[] 9)
  have hown : (((w.alloc (.cells #[.slice A n c, .slice A2 n c2] 32)).alloc (.cells #[.slice none 0 0, .slice none 0 0] 32)).alloc (.cells #[] 9)).ownsRow (w.heap.size + 2) 9 1 (.slice (some ⟨w.heap.size + 1 + 1, 0, none⟩) 0 0) 0 [] := by
    have := own_empty ((w.alloc (.cells #[.slice A n c, .slice A2 n c2] 32)).alloc (.cells #[.slice none 0 0, .slice none 0 0] 32)) 9 1 (g := w.heap.size + 1 + 1) (by simp)
    simpa using this
  have hrX := hr
  have hrr1 := hr1.below hb
  have hrr := hr.below hb
  have hz : (((w.alloc (.cells #[.slice A n c, .slice A2 n c2] 32)).alloc (.cells #[.slice none 0 0, .slice none 0 0] 32)).alloc (.cells #[] 9)).heap.size = w.heap.size + 3 := by simp
  obtain ⟨W3, hW3⟩ : ∃ W3, (((w.alloc (.cells #[.slice A n c, .slice A2 n c2] 32)).alloc (.cells #[.slice none 0 0, .slice none 0 0] 32)).alloc (.cells #[] 9)) = W3 := ⟨_, rfl⟩
  rw [hW3] at hX2 hR hb hown hrr1 hrr hz
  have HW3 := Lib.hid hW3
  have HH := Lib.hid (And.intro hX2 (And.intro hR hb))
  have h3 : w.heap.size + 2 ≤ W3.heap.size := by omega
  have hpI : (p : Int) < (n : Int) := by omega
  have hp0 : (0 : Int) ≤ (p : Int) := by omega
  have hqz : (str q).size = 512 := by rw [str_size, hq]
  clear hW3 hX hr hr1 hX2 hR hb hz
  go_enter Try.func53, Try.ntmps53
  go_wp2_with (at_builtin; rw [HW3.out]; refine wpList_append_any _ rfl (.tmp 21) (.tmp 23) 29 rfl (w.heap.size + 2) 9 i1 (.string ⟨#[]⟩) 1 16 Try.underlying29 hi1 hz1 hs1 hy1 rfl (by decide) _ 0 [] rfl hown w.heap.size A n c (sL ps) rfl hrr1 (sL_one ps) (by unfold maxLen; omega) (by omega) h3 ?_; intro v' w4 hown4 hg4 _; simp only [Nat.zero_add, List.nil_append] at hown4; obtain ⟨A4, c4, rfl, hc4⟩ := own_form hown4; obtain ⟨g4, u4, rfl, hlo4, hlt4, d4, f4, hst4⟩ := own_at hown4 p hp; have X4 := blk_far_grown hown HH.out.1 hg4 (by omega); have R4 := blk_far_grown hown HH.out.2.1 hg4 (by omega); have x40 := X4.cell 0; have x41 := X4.cell 1; have xf0 := X4.frozen 0)
  have b4 : Below w.heap.size w w4 := HH.out.2.2.grown hg4 (by omega) fun k hk => by have := (hown.lt k hk).1; omega
  have o5 := own_far2 (hst4 (.string (str q))) w.heap.size (by omega) 0 (.slice (some ⟨g4, 0, none⟩) n c4)
  have b5 := (b4.setCell (show w.heap.size ≤ (⟨g4, p, none⟩ : Addr).block from (by show w.heap.size ≤ g4; omega)) (.string (str q))).setCell (show w.heap.size ≤ (⟨w.heap.size, 0, none⟩ : Addr).block by simp) (.slice (some ⟨g4, 0, none⟩) n c4)
  have R5 := (R4.far (p := ⟨g4, p, none⟩) (by show w.heap.size + 1 ≠ g4; omega) (.string (str q))).far (p := ⟨w.heap.size, 0, none⟩) (by show w.heap.size + 1 ≠ w.heap.size; omega) (.slice (some ⟨g4, 0, none⟩) n c4)
  have z5 : ((w4.setCell ⟨g4, p, none⟩ (.string (str q))).setCell ⟨w.heap.size, 0, none⟩ (.slice (some ⟨g4, 0, none⟩) n c4)).heap.size = w4.heap.size := by simp [World.setCell]
  obtain ⟨W5, hW5⟩ : ∃ W5, (w4.setCell ⟨g4, p, none⟩ (.string (str q))).setCell ⟨w.heap.size, 0, none⟩ (.slice (some ⟨g4, 0, none⟩) n c4) = W5 := ⟨_, rfl⟩
  rw [hW5] at o5 b5 R5 z5 ⊢
  clear hW5
  have TK := Lib.hid (rtake_any (some ⟨g4, 0, none⟩) c4 A2 c2 T (((hrX.below b5).more (by omega))) hn p hp)
  rw [sL_set] at o5
  have s5 : w.heap.size + 2 ≤ W5.heap.size := by omega
  clear x40 x41 xf0 X4 R4 d4 f4 hown4 hg4 hst4 b4 z5 hrr hrr1
  refine TK.out.mono ?_
  rintro e w6 ⟨A6, c6, rfl, hr6, hc6, hlo6, hb6⟩
  have R6 := R5.below hb6 (by omega)
  have r0 := R6.cell 0
  have r1 := R6.cell 1
  have f0 := R6.frozen 0
  have f1 := R6.frozen 1
  have HF := Lib.hid (And.intro hr6 (And.intro hlo6 hb6))
  have o6 := own_kept_below o5 hb6
  clear hr6 hlo6 hb6 R6
  go_wp2
  have q1 := reads_far (reads_far HF.out.1 (p := ⟨w.heap.size + 1, 0, none⟩) (fun ad h => by have := HF.out.2.1 ad h; show ad.block ≠ w.heap.size + 1; omega) (.slice (some ⟨g4, 0, none⟩) n c4)) (p := ⟨w.heap.size + 1, 1, none⟩) (fun ad h => by have := HF.out.2.1 ad h; show ad.block ≠ w.heap.size + 1; omega) (.slice A6 n c6)
  have q2 := own_far2 (own_far2 o6 (w.heap.size + 1) (by omega) 0 (.slice (some ⟨g4, 0, none⟩) n c4)) (w.heap.size + 1) (by omega) 1 (.slice A6 n c6)
  exact bodyPost_ret (v := .tuple #[.int .i64 0, .agg #[.slice (some ⟨g4, 0, none⟩) n c4, .slice A6 n c6]]) (by simp [results, Try.results53, go_sem, r0, r1]) rfl
    ⟨_, c4, A6, c6, rfl, Reads.of_own q2, q1, hc4, hc6, fun ad h => by cases h; show w.heap.size ≤ g4; omega, fun ad h => by have := HF.out.2.1 ad h; omega, ((bto0 b5 HF.out.2.2).setCell (show w.heap.size ≤ (⟨w.heap.size + 1, 0, none⟩ : Addr).block by simp) _).setCell (show w.heap.size ≤ (⟨w.heap.size + 1, 1, none⟩ : Addr).block by simp) _⟩
end
end Go.Proofs.Ytdimkeoncgjegaa
