/-
  Several texts in one: Dv Dw Dx Ea.
-/
import Derived.Test.YtdimkeoncgjegaaMbad
import Derived.Test.YtdimkeoncgjegaaMbag
import Derived.Test.YtdimkeoncgjegaaMbae
import Derived.Test.YtdimkeoncgjegaaMbaf
import Derived.Test.YtdimkeoncgjegaaMbac
import Derived.BigGuardPart
import Derived.Lib.ConvBytes
import Derived.Lib.SliceRun
import Derived.Deep.Upon
/-
  The disk's Load.
-/
namespace Go.Proofs.Ytdimkeoncgjegaa
section
open Go.RowKit

theorem new_bad (n : Int) (h : n < 1 ∨ 4096 < n) (w : World) : Calls Try.prog 8 #[.int .i64 n] w fun e w' => e = .returned (.tuple #[.pointer none, .int .i64 1]) ∧ w = w' := by
  by_cases h1 : n < 1
  · go_enter Try.func8, Try.ntmps8
    go_wp2
    go_ret2
    exact ⟨rfl, rfl⟩
  · have h2 : 4096 < n := by omega
    go_enter Try.func8, Try.ntmps8
    go_wp2
    go_ret2
    exact ⟨rfl, rfl⟩
theorem Dk.drew_ {w : World} {g gb gt n : Nat} {bs ts : Array Value} (h : Dk w g gb gt n bs ts) : Dk w.drew g gb gt n bs ts := ⟨h.d.drew, h.b.drew, h.t.drew, h.hb, h.ht⟩
theorem newMarks_eq (L : List UInt8) (n : Nat) (h : 1 ≤ n) : newMarks n = tV (marksP L n 0) := by
  obtain ⟨k, rfl⟩ : ∃ k, n = k + 1 := ⟨n - 1, by omega⟩
  unfold newMarks marksP tV tL
  have : madeCells #[.bool false] (k + 1) = ((List.replicate (k + 1) (Value.bool false))).toArray := by
    apply Array.ext
    · simp [size_madeCells]
    · intro j h1 h2
      simp [madeCells, Nat.mod_one]
  rw [this, List.setIfInBounds_toArray]
  congr 1
  simp [marksOf, List.replicate_succ]
theorem dload_bad (A : Option Addr) (m c : Nat) (h : m % 512 ≠ 0 ∨ m = 0) (h2 : m ≤ 1000000) (w : World) :
    Calls Try.prog 18 #[.slice A m c] w fun e w' => e = .returned (.tuple #[.pointer none, .int .i64 1]) ∧ w = w' := by
  by_cases h5 : m % 512 = 0
  · obtain rfl : m = 0 := by omega
    have N := Lib.hid (new_bad 0 (.inl (by omega)))
    clear h h2 h5
    go_enter Try.func18, Try.ntmps18
    go_wp2_with (go_at_call 8; refine (N.out _).mono ?_; rintro e w' ⟨rfl, rfl⟩)
    go_ret2
    exact ⟨rfl, rfl⟩
  · have e1 : ((m : Int) % 512 != 0) = true := by simp; omega
    go_enter Try.func18, Try.ntmps18
    go_wp2
    go_ret2
    exact ⟨rfl, rfl⟩
def RetDP (w : World) (n : Nat) (ps : List (List UInt8)) (T : List Bool) (e : Ending) (w' : World) : Prop :=
  ∃ g gb gt, e = .returned (.tuple #[.pointer (some ⟨g, 0, none⟩), .int .i64 0]) ∧ DP w' g gb gt n ps T ∧ w.heap.size ≤ g ∧ w.heap.size ≤ gb ∧ w.heap.size ≤ gt ∧ Below w.heap.size w w'

set_option maxRecDepth 100000 in
set_option maxHeartbeats 2000000 in
theorem dload_ok (A : Option Addr) (n c B : Nat) (L : List UInt8) (w : World) (hr : Reads w B 1 A (n * 512) (bL L)) (hB : B ≤ w.heap.size) (h1 : 1 ≤ n) (h2 : n ≤ 4096) :
    Calls Try.prog 18 #[.slice A (n * 512) c] w (RetDP w n (pagesOf L n) (marksOf L n)) := by
  have hL := hr.bytes_len
  obtain ⟨ad, _, rfl, hab, _⟩ := hr.byte (k := 0) (by omega)
  have N := Lib.hid fun W => new_any n h1 h2 W
  rw [newMarks_eq L n h1] at N
  go_enter Try.func18, Try.ntmps18
  go_wp2_with fail
  refine (N.out _).mono ?_
  rintro e w1 ⟨g, gb, gt, rfl, hd, k1, k2, k3, hb1⟩
  have hfit : 0 + (bL L).length ≤ (zeroBytes n).size := by rw [bL_len, hL]; simp [zeroBytes, size_madeCells]
  have hsrc : ∀ j v, (bL L)[j]? = some v → w1.cell? (ad.add j) = some v := by
    obtain ⟨ad', e, _, hc⟩ := (hr.below (hb1.mono hB)).2 (by omega)
    injection e with e
    subst e
    exact hc
  have hdb := hd.b
  have hd2 := hd.wrote (new := bV L) (by rw [bV_size, hL])
  have hb2 := below_setRow hb1 k2 (bV L)
  have hne : (splice (zeroBytes n).toList 0 (bL L)).toArray = bV L := by
    rw [splice_all _ _ (by rw [bL_len, hL]; simp [zeroBytes, size_madeCells])]
    rfl
  have c0 : w1.cell? ⟨g, 0, none⟩ = some (.slice (some ⟨gb, 0, none⟩) (n * 512) (n * 512)) := hd.d.cell 0
  have hinfo : (Try.prog.info? 5).map (·.size) = some 1 := by kernel_rfl
  have HI := Lib.hid hinfo; clear hinfo
  have HF := Lib.hid hfit; clear hfit
  have HSR := Lib.hid hsrc; clear hsrc
  have HN := Lib.hid hne; clear hne
  have HD := Lib.hid (And.intro hd2 hb2); clear hd2 hb2 hd
  have HL := Lib.hid hL; clear hL
  obtain ⟨W2, hW2⟩ : ∃ W2, w1.setRow gb (bV L) = W2 := ⟨_, rfl⟩
  rw [hW2] at HD
  have HW := Lib.hid hW2; clear hW2
  have c1 : W2.cell? ⟨g, 1, none⟩ = some (.slice (some ⟨gt, 0, none⟩) n n) := HD.out.1.d.cell 1
  go_wp2_with (refine wpList_copy_own rfl _ _ 59 59 rfl 5 Try.underlying59 HI.out gb 0 (n * 512) (n * 512) ad (n * 512) c rfl rfl (zeroBytes n) 5 hdb (bL L) (by rw [bL_len, HL.out]; simp) HSR.out HF.out (bL_one L) ?_; (show wpList _ _ _ _ _ (w1.setRow gb (splice (zeroBytes n).toList 0 (bL L)).toArray)); rw [HN.out, HW.out])
  have hrw := Lib.hid hr
  clear hr hdb N
  go_loopw [32] (fun v wr => ∃ k : Nat, v = .int .i64 k ∧ k ≤ n ∧ Dk wr g gb gt n (bV L) (tV (marksP L n k)) ∧ Below w.heap.size w wr) (fun v _ => n - (intOf v).toNat)
  case atStart => exact ⟨0, rfl, by omega, HD.out.1, HD.out.2⟩
  case round =>
    obtain ⟨k, rfl, hk, hD, hb⟩ := hrel
    have q0 : (0 : Int) ≤ (k : Int) := by omega
    have d1 : wr.cell? ⟨g, 1, none⟩ = some (.slice (some ⟨gt, 0, none⟩) n n) := hD.d.cell 1
    by_cases hlt : k < n
    · have q1 : (k : Int) < (n : Int) := by omega
      obtain ⟨b, hbk⟩ := marksP_at L n k hlt
      have d2 : wr.cell? ⟨gt, k, none⟩ = some (.bool b) := (hD.t.cell k).trans (tV_at hbk)
      have f2 := hD.t.frozen k
      obtain ⟨ad', x, e, _, hx, d3⟩ := (hrw.out.below (hb.mono hB)).byte (k := k * 512) (by omega)
      injection e with e
      subst e
      have HD2 := Lib.hid (And.intro hD hb)
      clear hD hb hbk
      by_cases hk0 : k = 0
      · have HM : Hid (mark L k = true) := by unfold mark Hid; simp [hk0]
        have hkb : ((k : Int) == 0) = true := by simp; omega
        clear hk0 hx d3
        go_wp2
        go_region
        go_wp2
        go_roundw
        case rel => exact ⟨k + 1, by go_num, by omega, by rw [← marksP_set L n k hlt, HM.out, ← tV_set]; exact (HD2.out.1.mark k _).drew_, (HD2.out.2.setCell (p := ⟨gt, k, none⟩) k3 _).drew⟩
        case measure => simp [intOf]; omega
      · have hkb : ((k : Int) == 0) = false := by simp; omega
        have HM : Hid (mark L k = !decide (x = 0)) := by
          unfold mark Hid
          rw [hx]
          simp [hk0]
        have hne : ((x.toNat : Int) != 0) = !decide (x = 0) := by
          by_cases h : x = 0
          · subst h; rfl
          · have : ¬ x.toNat = 0 := fun e => h (UInt8.toNat_inj.1 e)
            simp [h]; omega
        obtain ⟨mk, hmk⟩ : ∃ mk, (!decide (x = 0)) = mk := ⟨_, rfl⟩
        rw [hmk] at HM hne
        have g1 : (0 : Int) ≤ (k : Int) * 512 := by omega
        have g2 : (k : Int) * 512 < (n : Int) * 512 := by omega
        clear hk0 hx hmk
        go_wp2
        go_region
        go_wp2
        go_roundw
        case rel => exact ⟨k + 1, by go_num, by omega, by rw [← marksP_set L n k hlt, HM.out, ← tV_set]; exact (HD2.out.1.mark k _).drew_, (HD2.out.2.setCell (p := ⟨gt, k, none⟩) k3 _).drew⟩
        case measure => simp [intOf]; omega
    · obtain rfl : k = n := by omega
      go_wp2
      go_ret2
      rw [marksP_end L k h1] at hD
      have hfl := pagesOf_all L k HL.out
      exact ⟨g, gb, gt, rfl, ⟨by rw [hfl]; exact hD, pagesOf_full L k (by rw [HL.out]; exact Nat.le_refl _), pagesOf_len L k⟩, k1, k2, k3, hb⟩
end
end Go.Proofs.Ytdimkeoncgjegaa
/-
  The law's same: a disk that shows the reference's.
-/
namespace Go.Proofs.Ytdimkeoncgjegaa
section
open Go.RowKit

theorem str_app (a b : List UInt8) : str a ++ str b = str (a ++ b) := by
  apply ByteArray.ext
  apply Array.toList_inj.1
  simp [str]
theorem flat_take (ps : List (List UInt8)) (k : Nat) (p : List UInt8) (h : ps[k]? = some p) : (ps.take (k + 1)).flatten = (ps.take k).flatten ++ p := by
  rw [List.take_add_one, h]; simp
end
end Go.Proofs.Ytdimkeoncgjegaa
/-
  Bytes of a string as a row; clear of it; the image that the law DiskLoads makes.
-/
namespace Go.Proofs.Ytdimkeoncgjegaa
section
open Go.RowKit

/-- What '[]byte(s)' makes: a new row that reads as s, whose cells can be written. -/
structure Fresh (w w' : World) (l : List UInt8) (c : Nat) : Prop where
  reads : Reads w' w'.heap.size 1 (some ⟨w.heap.size, 0, none⟩) l.length (bL l)
  below : Below w.heap.size w w'
  size : w'.heap.size = w.heap.size + 1
  isC : ∀ j, j < l.length → (w'.cell? ⟨w.heap.size, j, none⟩).isSome = true
  free : ∀ j, j < l.length → w'.frozen? ⟨w.heap.size, j, none⟩ = false
theorem bytes_of_str (w : World) (l : List UInt8) : ∃ w' c, (convert 9 59 (.string (str l))).run Try.prog w = .ok (.slice (some ⟨w.heap.size, 0, none⟩) l.length c) w' ∧ Fresh w w' l c := by
  refine ⟨Lib.bytesWorld w 5 (str l), grownCap w (str l).size 0 5, ?_, ?_⟩
  · have h := Lib.run_convert_string_bytes (P := Try.prog) w 9 59 5 (str l) Try.underlying9 Try.underlying59 Try.underlying5
    rw [h, str_size]
  · have hcell : ∀ j, j < l.length → (Lib.bytesWorld w 5 (str l)).cell? ⟨w.heap.size, j, none⟩ = some (.int .u8 ((l.getD j 0).toNat : Int)) := by
      intro j hj
      rw [Lib.bytesWorld_cell w _ (str l) j (by rw [str_size]; exact hj), str_data]
    have hz := Lib.bytesWorld_size w 5 (str l)
    refine ⟨⟨by rw [bL_len]; omega, fun _ => ⟨_, rfl, by simp [hz], fun j u hu => ?_⟩⟩, ⟨rfl, rfl, rfl, by omega, fun k hk => Lib.bytesWorld_at_old _ _ _ _ hk⟩, hz, fun j hj => by rw [hcell j hj]; rfl, fun j hj => ?_⟩
    · have hj := lt_of_at hu
      rw [bL_len] at hj
      rw [add_head, hcell j hj, ← hu]
      simp [bL, hj, List.getD]
    · have hs : (str l).size = l.length := str_size l
      simp only [World.frozen?, Lib.bytesWorld_at_new]
      have : (Lib.bytesCells w 5 (str l)).size ≥ l.length := by simp [Lib.bytesCells, str]
      simp; omega
theorem bel_setCells {B g : Nat} {w0 : World} (hB : B ≤ g) : ∀ (vs : List Value) (o : Nat) (wx : World), Below B w0 wx → Below B w0 (wx.setCells g o vs)
  | [], _, _, h => h
  | v :: r, o, _, h => bel_setCells hB r (o + 1) _ (h.setCell hB v)
theorem siz_setCells (g : Nat) : ∀ (vs : List Value) (o : Nat) (w : World), (w.setCells g o vs).heap.size = w.heap.size
  | [], _, _ => rfl
  | v :: r, o, w => (siz_setCells g r (o + 1) _).trans (by simp [World.setCell])
theorem Try.zeroB8 (w : World) : (zeroValue 5).run Try.prog w = .ok (.int .u8 0) w := by kernel_rfl
/-- clear of such a row. -/
theorem clear_row' {w : World} (g o n c : Nat) (hc : ∀ j, j < n → (w.cell? ⟨g, o + j, none⟩).isSome = true) (hf : ∀ j, j < n → w.frozen? ⟨g, o + j, none⟩ = false) :
    ∃ w', (∀ ty, (Builtin.clear_ #[59] ty #[.slice (some ⟨g, o, none⟩) n c]).run Try.prog w = .ok (.tuple #[]) w') ∧ (∀ B w0, B ≤ g → Below B w0 w → Below B w0 w') ∧ (∀ g', g' < w.heap.size → g' ≠ g → w'.heap[g']? = w.heap[g']?) ∧ w'.heap.size = w.heap.size := by
  rcases Nat.eq_zero_or_pos n with h0 | h0
  · subst h0
    refine ⟨w, fun ty => ?_, fun _ _ _ k => k, fun _ _ _ => rfl, rfl⟩
    have ht : Try.prog.underlying 59 = some (.slice 5) := Try.underlying59
    simp [Builtin.clear_, run_underlying ht, Sem.run_pure]
  · refine ⟨w.setCells g o (List.replicate n (.int .u8 0)), fun ty => ?_, fun B w0 hB hb => bel_setCells hB _ _ _ hb, fun g' hg' hne => World.heap_setCells_other w g o _ hg' hne, siz_setCells g _ _ _⟩
    refine Lib.run_clear_slice w _ _ ty _ Try.underlying59 Try.zeroB8 rfl rfl g o n c h0 (fun j hj => hc j hj) (fun j hj => hf j hj)
theorem clear_row {w : World} (g n c : Nat) (hc : ∀ j, j < n → (w.cell? ⟨g, j, none⟩).isSome = true) (hf : ∀ j, j < n → w.frozen? ⟨g, j, none⟩ = false) :
    ∃ w', (∀ ty, (Builtin.clear_ #[59] ty #[.slice (some ⟨g, 0, none⟩) n c]).run Try.prog w = .ok (.tuple #[]) w') ∧ (∀ B w0, B ≤ g → Below B w0 w → Below B w0 w') ∧ (∀ g', g' < w.heap.size → g' ≠ g → w'.heap[g']? = w.heap[g']?) ∧ w'.heap.size = w.heap.size :=
  clear_row' g 0 n c (fun j hj => by rw [Nat.zero_add]; exact hc j hj) (fun j hj => by rw [Nat.zero_add]; exact hf j hj)
theorem Blk.same_ {w w' : World} {g : Nat} {t : TypeId} {cs : Array Value} (h : Blk w g t cs) (e : w'.heap[g]? = w.heap[g]?) : Blk w' g t cs := e.trans h
theorem Reads.same_ {w w' : World} {B size n : Nat} {A : Option Addr} {xs : List Value} (h : Reads w B size A n xs) (e : ∀ ad, A = some ad → ad.block < B → w'.heap[ad.block]? = w.heap[ad.block]?) : Reads w' B size A n xs :=
  ⟨h.1, fun hn => by
    obtain ⟨ad, hA, hb, hc⟩ := h.2 hn
    exact ⟨ad, hA, hb, fun j u hu => (World.cell?_of_block (by rw [block_of_add]; exact e ad hA hb)).trans (hc j u hu)⟩⟩

theorem reads_blk {w : World} {g : Nat} {t : TypeId} {l : List UInt8} (h : Blk w g t (bV l)) {n : Nat} (hn : l.length = n) : Reads w (g + 1) 1 (some ⟨g, 0, none⟩) n (bL l) := by
  refine ⟨by rw [bL_len]; omega, fun _ => ⟨_, rfl, Nat.lt_succ_self _, fun j u hu => ?_⟩⟩
  rw [add_head, h.cell, bV, List.getElem?_toArray]
  exact hu
theorem conv_tail {w : World} {g : Nat} {t : TypeId} {l : List UInt8} (h : Blk w g t (bV l)) (hl : l.length = 512) : (convert 59 9 (.slice (some ⟨g, 1, none⟩) 511 511)).run Try.prog w = .ok (.string (str (l.drop 1))) w := by
  refine conv_reads (P := Try.prog) (B := g + 1) (l := l.drop 1) ⟨by rw [bL_len, List.length_drop, hl], fun _ => ⟨_, rfl, Nat.lt_succ_self _, fun j u hu => ?_⟩⟩ 59 5 9 Try.underlying59 Try.underlying5 Try.underlying9 511
  have e : (⟨g, 1, none⟩ : Addr).add j = ⟨g, 1 + j, none⟩ := by unfold Addr.add; split <;> simp_all
  rw [e, h.cell, bV, List.getElem?_toArray]
  have e2 : bL (l.drop 1) = (bL l).drop 1 := by simp [bL]
  rw [e2, List.getElem?_drop] at hu
  exact hu
/-- The image behind the first k bytes. -/
def fl5 (b : UInt8) : List UInt8 := List.replicate 511 b
theorem fl5_len (b : UInt8) : (fl5 b).length = 511 := List.length_replicate
def imgK (ks : List UInt8) (k : Nat) : List UInt8 := ((List.range k).map fun i => ks.getD i 0 :: fl5 (UInt8.ofNat i)).flatten
theorem imgK_snoc (ks : List UInt8) (k : Nat) : imgK ks (k + 1) = imgK ks k ++ (ks.getD k 0 :: fl5 (UInt8.ofNat k)) := by
  unfold imgK
  rw [List.range_succ, List.map_append, List.flatten_append, List.map_singleton, List.flatten_singleton]
theorem imgK_succ (ks : List UInt8) (k : Nat) (x : UInt8) (h : ks[k]? = some x) : imgK ks (k + 1) = imgK ks k ++ ([x] ++ fl5 (UInt8.ofNat k)) := by
  rw [imgK_snoc, List.getD_eq_getElem?_getD, h]
  rfl
theorem imgK_len (ks : List UInt8) (k : Nat) : (imgK ks k).length = k * 512 := by
  induction k with
  | zero => rfl
  | succ k ih =>
    rw [imgK_snoc, List.length_append, ih, List.length_cons, fl5_len]
    omega
end
end Go.Proofs.Ytdimkeoncgjegaa
/-
  The reference's disk: take, Write, Take.
-/
namespace Go.Proofs.Ytdimkeoncgjegaa
section
open Go.RowKit

theorem tL_set (T : List Bool) (i : Nat) (b : Bool) : (tL T).set i (.bool b) = tL (T.set i b) := by simp [tL, List.map_set]
theorem sL_set (ps : List (List UInt8)) (i : Nat) (p : List UInt8) : (sL ps).set i (.string (str p)) = sL (ps.set i p) := by simp [sL, List.map_set]
/-- A row of the call's own that has elements: its head, a cell, a store. -/
theorem own_at {w : World} {base : Nat} {e : TypeId} {n c : Nat} {A : Option Addr} {xs : List Value} (h : w.ownsRow base e 1 (.slice A n c) n xs) (i : Nat) (hi : i < n) :
    ∃ g u, A = some ⟨g, 0, none⟩ ∧ base ≤ g ∧ g < w.heap.size ∧ w.cell? ⟨g, i, none⟩ = some u ∧ w.frozen? ⟨g, i, none⟩ = false ∧ ∀ u, (w.setCell ⟨g, i, none⟩ u).ownsRow base e 1 (.slice A n c) n (xs.set i u) := by
  obtain ⟨g, cap, hv, hb, hlt⟩ := World.ownsRow.form h (by omega)
  injection hv with hA _ hc
  subst hA; subst hc
  have hxl : xs.length = n * 1 := h.1
  exact ⟨g, xs[i]'(by omega), rfl, hb, hlt, by rw [h.cellAt i (by omega), List.getElem?_eq_getElem (by omega)], h.frozenAt i, fun u => (h.stored i u).1⟩
theorem own_far2 {w : World} {base : Nat} {e : TypeId} {size n : Nat} {v : Value} {xs : List Value} (h : w.ownsRow base e size v n xs) (g : Nat) (hg : g < base) (j : Nat) (u : Value) : (w.setCell ⟨g, j, none⟩ u).ownsRow base e size v n xs := by
  refine h.kept (row := some g) ⟨rfl, rfl, rfl, by simp [World.setCell], fun k hk hkg => Below.heap_setCell w _ u k (fun e' => hkg (by rw [e'])) ⟩ (.inr fun e' => ?_)
  have := (h.lt g e').1
  omega
theorem blk_far_grown {w w' : World} {base : Nat} {e : TypeId} {size n : Nat} {v : Value} {xs : List Value} {g : Nat} {t : TypeId} {cs : Array Value} (h : w.ownsRow base e size v n xs) (hb : Blk w g t cs) (hg : w.grownBy w' v.ownBlock) (hlt : g < base) : Blk w' g t cs :=
  hb.grown hg fun e' => by have := (h.lt g e'.symm).1; omega
/-- What take leaves: the pages as they were; new marks. -/
def RetTake (w : World) (A : Option Addr) (n c : Nat) (T : List Bool) (e : Ending) (w' : World) : Prop :=
  ∃ A2 c2, e = .returned (.agg #[.slice A n c, .slice A2 n c2]) ∧ Reads w' w'.heap.size 1 A2 n (tL T) ∧ n ≤ c2 ∧ (∀ ad, A2 = some ad → w.heap.size ≤ ad.block) ∧ Below w.heap.size w w'

set_option maxRecDepth 100000 in
set_option maxHeartbeats 2000000 in
theorem rtake_any {w : World} {n : Nat} (A : Option Addr) (c : Nat) (A2 : Option Addr) (c2 : Nat) (T : List Bool) (hr : Reads w w.heap.size 1 A2 n (tL T)) (hn : n ≤ 1000000) (i : Nat) (hi : i < n) :
    Calls Try.prog 66 #[.agg #[.slice A n c, .slice A2 n c2], .int .i64 i] w (RetTake w A n c (T.set i true)) := by
  obtain ⟨i1, hi1, hz1, hs1, hy1⟩ := int_info8 Try.infoBool
  have hX := Blk.new w 32 #[.slice A n c, .slice A2 n c2]
  have hX2 := (hX.alloc (.cells #[.slice none 0 0, .slice none 0 0] 32)).alloc (.cells #[] 4)
  have hR : Blk (((w.alloc (.cells #[.slice A n c, .slice A2 n c2] 32)).alloc (.cells #[.slice none 0 0, .slice none 0 0] 32)).alloc (.cells #[] 4)) (w.heap.size + 1) 32 #[.slice none 0 0, .slice none 0 0] := (Blk.newAt (by simp)).alloc _
  have hb := ball (ball (ball (Below.refl w.heap.size w) (.cells #[.slice A n c, .slice A2 n c2] 32)) (.cells #[.slice none 0 0, .slice none 0 0] 32)) (.cells #[] 4)
  have hown : (((w.alloc (.cells #[.slice A n c, .slice A2 n c2] 32)).alloc (.cells #[.slice none 0 0, .slice none 0 0] 32)).alloc (.cells #[] 4)).ownsRow (w.heap.size + 2) 4 1 (.slice (some ⟨w.heap.size + 1 + 1, 0, none⟩) 0 0) 0 [] := by
    have := own_empty ((w.alloc (.cells #[.slice A n c, .slice A2 n c2] 32)).alloc (.cells #[.slice none 0 0, .slice none 0 0] 32)) 4 1 (g := w.heap.size + 1 + 1) (by simp)
    simpa using this
  have hrr := hr.below hb
  have hz : (((w.alloc (.cells #[.slice A n c, .slice A2 n c2] 32)).alloc (.cells #[.slice none 0 0, .slice none 0 0] 32)).alloc (.cells #[] 4)).heap.size = w.heap.size + 3 := by simp
  obtain ⟨W3, hW3⟩ : ∃ W3, (((w.alloc (.cells #[.slice A n c, .slice A2 n c2] 32)).alloc (.cells #[.slice none 0 0, .slice none 0 0] 32)).alloc (.cells #[] 4)) = W3 := ⟨_, rfl⟩
  rw [hW3] at hX2 hR hb hown hrr hz
  have HW3 := Lib.hid hW3
  have HH := Lib.hid (And.intro hX2 (And.intro hR hb))
  have h3 : w.heap.size + 2 ≤ W3.heap.size := by omega
  have hiI : (i : Int) < (n : Int) := by omega
  have hi0 : (0 : Int) ≤ (i : Int) := by omega
  clear hW3 hX hr hX2 hR hb hz
  go_enter Try.func66, Try.ntmps66
  go_wp2_with (at_builtin; rw [HW3.out]; refine wpList_append_any _ rfl (.tmp 7) (.tmp 9) 30 rfl (w.heap.size + 2) 4 i1 (.bool false) 1 1 Try.underlying30 hi1 hz1 hs1 hy1 rfl (by decide) _ 0 [] rfl hown w.heap.size A2 n c2 (tL T) rfl hrr (tL_one T) (by unfold maxLen; omega) (by omega) h3 ?_; intro v' w4 hown4 hg4 _; simp only [Nat.zero_add, List.nil_append] at hown4; obtain ⟨A4, c4, rfl, hc4⟩ := own_form hown4; obtain ⟨g4, u4, rfl, hlo4, hlt4, d4, f4, hst4⟩ := own_at hown4 i hi; have X4 := blk_far_grown hown HH.out.1 hg4 (by omega); have R4 := blk_far_grown hown HH.out.2.1 hg4 (by omega); have x40 := X4.cell 0; have x41 := X4.cell 1; have xf1 := X4.frozen 1; have r40 := R4.cell 0; have r41 := R4.cell 1; have rf0 := R4.frozen 0; have rf1 := R4.frozen 1)
  have b4 : Below w.heap.size w w4 := HH.out.2.2.grown hg4 (by omega) fun k hk => by have := (hown.lt k hk).1; omega
  have q := own_far2 (own_far2 (own_far2 (hst4 (.bool true)) w.heap.size (by omega) 1 (.slice (some ⟨g4, 0, none⟩) n c4)) (w.heap.size + 1) (by omega) 0 (.slice A n c)) (w.heap.size + 1) (by omega) 1 (.slice (some ⟨g4, 0, none⟩) n c4)
  rw [tL_set] at q
  have ne1 : ¬ g4 = w.heap.size + 1 := by omega
  have ne2 : ¬ w.heap.size = w.heap.size + 1 := by omega
  exact bodyPost_ret (v := .agg #[.slice A n c, .slice (some ⟨g4, 0, none⟩) n c4]) (by simp [results, Try.results66, go_sem, r40, r41]) rfl
    ⟨_, c4, rfl, Reads.of_own q, hc4, fun ad h => by cases h; show w.heap.size ≤ g4; omega, (((b4.setCell (show w.heap.size ≤ (⟨g4, i, none⟩ : Addr).block from (by show w.heap.size ≤ g4; omega)) _).setCell (show w.heap.size ≤ (⟨w.heap.size, 1, none⟩ : Addr).block by simp) _).setCell (show w.heap.size ≤ (⟨w.heap.size + 1, 0, none⟩ : Addr).block by simp) _).setCell (show w.heap.size ≤ (⟨w.heap.size + 1, 1, none⟩ : Addr).block by simp) _⟩
end
end Go.Proofs.Ytdimkeoncgjegaa
