/-
  Several texts in one: Db Dc Dd De Df Dg Op Dh Dr.
-/
import Derived.Test.YtdimkeoncgjegaaMfab
import Derived.Laws.CopyOwn
import Derived.Deep.RegionHeld3
import Derived.BigGuardPart
import Derived.BigQuiet
/-
  Contracts of the disk: New, Take.
-/
namespace Go.Proofs.Ytdimkeoncgjegaa
section
open Go.RowKit

theorem Blk.newAt {w : World} {t : TypeId} {cs : Array Value} {g : Nat} (h : g = w.heap.size) : Blk (w.alloc (.cells cs t)) g t cs := by subst h; exact Blk.new _ _ _
/-- A disk's bytes, as a new one has them. -/
def zeroBytes (n : Nat) : Array Value := madeCells #[.int .u8 0] (n * 512)
def newMarks (n : Nat) : Array Value := (madeCells #[.bool false] n).setIfInBounds 0 (.bool true)
def RetDisk (w : World) (n : Nat) (bs ts : Array Value) (e : Ending) (w' : World) : Prop :=
  ∃ g gb gt, e = .returned (.tuple #[.pointer (some ⟨g, 0, none⟩), .int .i64 0]) ∧ Dk w' g gb gt n bs ts ∧ w.heap.size ≤ g ∧ w.heap.size ≤ gb ∧ w.heap.size ≤ gt ∧ Below w.heap.size w w'

set_option maxHeartbeats 1000000 in
theorem new_any (n : Nat) (h1 : 1 ≤ n) (h2 : n ≤ 4096) (w : World) : Calls Try.prog 8 #[.int .i64 n] w (RetDisk w n (zeroBytes n) (newMarks n)) := by
  obtain ⟨i0, hi0, hz0, hs0, hy0⟩ := int_info8 Try.infoU8
  obtain ⟨i1, hi1, hz1, hs1, hy1⟩ := int_info8 Try.infoBool
  have mk0 : ∀ W, (Instr.makeSlice 59 (.int .i64 ((n : Int) * 512)) (.int .i64 ((n : Int) * 512))).run Try.prog W = .ok (.slice (some ⟨W.heap.size, 0, none⟩) (n * 512) (n * 512)) (W.alloc (.cells (zeroBytes n) 5)) := by
    intro W
    have h := run_make (P := Try.prog) W 59 5 i0 (.int .u8 0) Try.underlying59 hi0 hz0 .i64 .i64 ((n : Int) * 512) ((n : Int) * 512) (by omega) (by omega) (by rw [hy0]; omega) (by omega)
    have e : ((n : Int) * 512).toNat = n * 512 := by omega
    rw [e, hs0, Nat.mul_one] at h
    exact h
  have mk1 : ∀ W, (Instr.makeSlice 30 (.int .i64 (n : Int)) (.int .i64 (n : Int))).run Try.prog W = .ok (.slice (some ⟨W.heap.size, 0, none⟩) n n) (W.alloc (.cells (madeCells #[.bool false] n) 4)) := by
    intro W
    have h := run_make (P := Try.prog) W 30 4 i1 (.bool false) Try.underlying30 hi1 hz1 .i64 .i64 (n : Int) (n : Int) (by omega) (by omega) (by rw [hy1]; omega) (by omega)
    rw [Int.toNat_natCast, hs1, Nat.mul_one] at h
    exact h
  have hc0 : (madeCells #[.bool false] n)[0]? = some (.bool false) := by
    rw [Array.getElem?_eq_getElem (by rw [size_madeCells]; omega)]
    simp [madeCells]
  have hpos : 0 < n := by omega
  have hpI : (0 : Int) < (n : Int) := by omega
  clear hi0 hz0 hs0 hy0 hi1 hz1 hs1 hy1
  go_enter Try.func8, Try.ntmps8
  go_wp2
  go_region
  all_goals go_wp2
  all_goals go_ret2
  · exact ⟨w.heap.size + 1 + 1, w.heap.size, w.heap.size + 1, rfl, ⟨(Blk.newAt (by simp)).drew, (((Blk.new _ _ _).alloc _).alloc _).drew, ((Blk.newAt (by simp)).alloc _).drew, by simp [zeroBytes, size_madeCells], by simp [newMarks, size_madeCells]⟩, by omega, by omega, by omega, (ball (ball (ball (Below.refl _ _) _) _) _).drew⟩
  · exact ⟨w.heap.size + 1 + 1, w.heap.size + 1, w.heap.size, rfl, ⟨(Blk.newAt (by simp)).drew, ((Blk.newAt (by simp)).alloc _).drew, (((Blk.new _ _ _).alloc _).alloc _).drew, by simp [zeroBytes, size_madeCells], by simp [newMarks, size_madeCells]⟩, by omega, by omega, by omega, (ball (ball (ball (Below.refl _ _) _) _) _).drew⟩
end
end Go.Proofs.Ytdimkeoncgjegaa
/-
  Contracts of the disk: Take; the chapter's example.
-/
namespace Go.Proofs.Ytdimkeoncgjegaa
section
open Go.RowKit

theorem take_at {w : World} {g gb gt n : Nat} {bs ts : Array Value} (h : Dk w g gb gt n bs ts) (hn : n ≤ 1000000) (i : Nat) (hi : ts[i]? = some (.bool false)) (hj : ∀ j, j < i → ts[j]? = some (.bool true)) :
    Calls Try.prog 23 #[.pointer (some ⟨g, 0, none⟩)] w fun e w' => e = .returned (.tuple #[.int .u32 i, .int .i64 0]) ∧ w.setCell ⟨gt, i, none⟩ (.bool true) = w' := by
  have L := Lib.hid (len_any h)
  have hin : i < n := by
    have := (Array.getElem?_eq_some_iff.1 hi).1
    rw [h.ht] at this; exact this
  have c1 : w.cell? ⟨g, 1, none⟩ = some (.slice (some ⟨gt, 0, none⟩) n n) := h.d.cell 1
  have ct := fun j => h.t.cell j
  have fz := fun j => h.t.frozen j
  have HJ := Lib.hid hj; clear hj
  have CT := Lib.hid ct; clear ct
  have FZ := Lib.hid fz; clear fz
  go_enter Try.func23, Try.ntmps23
  go_wp2_with (go_at_call 40; refine L.out.mono ?_; rintro e w' ⟨rfl, rfl⟩)
  go_loop [7] (fun v => ∃ k : Nat, v = .int .i64 k ∧ k ≤ i) (fun v => i - (intOf v).toNat)
  case atStart => exact ⟨0, rfl, by omega⟩
  case round =>
    obtain ⟨k, rfl, hk⟩ := hrel
    have g1 : (0 : Int) ≤ (k : Int) := by omega
    have g2 : (k : Int) < (n : Int) := by omega
    have g3 : k < n := by omega
    by_cases hki : k < i
    · have c2 : w.cell? ⟨gt, k, none⟩ = some (.bool true) := (CT.out k).trans (HJ.out k hki)
      go_wp2
      go_round
      case rel => exact ⟨k + 1, by go_num, by omega⟩
      case measure => simp [intOf]; omega
    · obtain rfl : i = k := by omega
      have c2 : w.cell? ⟨gt, i, none⟩ = some (.bool false) := (CT.out i).trans hi
      have f2 := FZ.out i
      clear hi
      go_wp2
      go_ret2
      exact ⟨rfl, rfl⟩
theorem take_full {w : World} {g gb gt n : Nat} {bs ts : Array Value} (h : Dk w g gb gt n bs ts) (hn : n ≤ 1000000) (hj : ∀ j, j < n → ts[j]? = some (.bool true)) :
    Calls Try.prog 23 #[.pointer (some ⟨g, 0, none⟩)] w fun e w' => e = .returned (.tuple #[.int .u32 0, .int .i64 7]) ∧ w = w' := by
  have L := Lib.hid (len_any h)
  have c1 : w.cell? ⟨g, 1, none⟩ = some (.slice (some ⟨gt, 0, none⟩) n n) := h.d.cell 1
  have ct := fun j => h.t.cell j
  have HJ := Lib.hid hj; clear hj
  have CT := Lib.hid ct; clear ct
  go_enter Try.func23, Try.ntmps23
  go_wp2_with (go_at_call 40; refine L.out.mono ?_; rintro e w' ⟨rfl, rfl⟩)
  go_loop [7] (fun v => ∃ k : Nat, v = .int .i64 k ∧ k ≤ n) (fun v => n - (intOf v).toNat)
  case atStart => exact ⟨0, rfl, by omega⟩
  case round =>
    obtain ⟨k, rfl, hk⟩ := hrel
    by_cases hki : k < n
    · have g1 : (0 : Int) ≤ (k : Int) := by omega
      have g2 : (k : Int) < (n : Int) := by omega
      have c2 : w.cell? ⟨gt, k, none⟩ = some (.bool true) := (CT.out k).trans (HJ.out k hki)
      go_wp2
      go_round
      case rel => exact ⟨k + 1, by go_num, by omega⟩
      case measure => simp [intOf]; omega
    · go_wp2
      go_ret2
      exact ⟨rfl, rfl⟩
end
end Go.Proofs.Ytdimkeoncgjegaa
/-
  The disk's chapter's example; the law DiskNil's walk.
-/
namespace Go.Proofs.Ytdimkeoncgjegaa
section
open Go.RowKit

theorem Dk.mark {w : World} {g gb gt n : Nat} {bs ts : Array Value} (h : Dk w g gb gt n bs ts) (i : Nat) (v : Value) : Dk (w.setCell ⟨gt, i, none⟩ v) g gb gt n bs (ts.setIfInBounds i v) :=
  ⟨h.d.far (Blk.ne_ h.d h.t (by decide)) _, h.b.far (Blk.ne_ h.b h.t (by decide)) _, h.t.set_ i v, h.hb, by rw [Array.size_setIfInBounds]; exact h.ht⟩
theorem Dk.below {w w' : World} {g gb gt n B : Nat} {bs ts : Array Value} (h : Dk w g gb gt n bs ts) (hb : Below B w w') (h1 : g < B) (h2 : gb < B) (h3 : gt < B) : Dk w' g gb gt n bs ts :=
  ⟨h.d.below hb h1, h.b.below hb h2, h.t.below hb h3, h.hb, h.ht⟩
theorem marks3 : newMarks 3 = #[.bool true, .bool false, .bool false] := by kernel_rfl
end
end Go.Proofs.Ytdimkeoncgjegaa
/-
  A page of bytes that are all the same.
-/
namespace Go.Proofs.Ytdimkeoncgjegaa
section
open Go.RowKit

/-- The first k bytes are c, the others 0. -/
def fillA (c : Int) (n k : Nat) : Array Value := Array.ofFn (n := n) fun j => if j.val < k then .int .u8 c else .int .u8 0
theorem fillA_set (c : Int) (n k : Nat) (_hk : k < n) : (fillA c n k).setIfInBounds k (.int .u8 c) = fillA c n (k + 1) := by
  apply Array.ext
  · simp [fillA]
  · intro j h1 h2
    rw [Array.getElem_setIfInBounds (by simpa [fillA] using h2)]
    simp only [fillA, Array.getElem_ofFn]
    by_cases h : k = j
    · subst h; simp
    · rw [if_neg h]
      by_cases h3 : j < k
      · rw [if_pos h3, if_pos (by omega)]
      · rw [if_neg h3, if_neg (by omega)]
theorem fillA_at (c : Int) (n k : Nat) (hk : k < n) : (fillA c n k)[k]? = some (.int .u8 0) := by
  rw [Array.getElem?_eq_getElem (by simpa [fillA] using hk)]
  simp [fillA]
theorem fillA_zero (c : Int) (n : Nat) : madeCells #[.int .u8 0] n = fillA c n 0 := by
  apply Array.ext
  · simp [fillA, madeCells]
  · intro j h1 h2
    simp [fillA, madeCells, Nat.mod_one]
def RetPage (w : World) (c : Int) (n : Nat) (e : Ending) (w' : World) : Prop := e = .returned (.slice (some ⟨w.heap.size, 0, none⟩) n n) ∧ Blk w' w.heap.size 5 (fillA c n n) ∧ Below w.heap.size w w'
end
end Go.Proofs.Ytdimkeoncgjegaa
/-
  Contracts of the disk: page, Write.
-/
namespace Go.Proofs.Ytdimkeoncgjegaa
section
open Go.RowKit

theorem ret_slice {A : Option Addr} {n n' c : Nat} (h : n = n') : Ending.returned (.slice A n c) = .returned (.slice A n' c) := by rw [h]
theorem dpage_any {w : World} {g gb gt n : Nat} {bs ts : Array Value} (h : Dk w g gb gt n bs ts) (p : Nat) (hp : p < n) (hn : n ≤ 1000000) :
    Calls Try.prog 50 #[.pointer (some ⟨g, 0, none⟩), .int .u32 p] w fun e w' => e = .returned (.slice (some ⟨gb, p * 512, none⟩) 512 (n * 512 - p * 512)) ∧ w = w' := by
  have c0 : w.cell? ⟨g, 0, none⟩ = some (.slice (some ⟨gb, 0, none⟩) (n * 512) (n * 512)) := h.d.cell 0
  have g1 : (0 : Int) ≤ (p : Int) * 512 := by omega
  have g2 : (p : Int) * 512 + 512 ≤ (n : Int) * 512 := by omega
  have g3 : ¬ n * 512 = p * 512 := by omega
  have g4 : p * 512 + 512 ≤ n * 512 := by omega
  clear h
  go_enter Try.func50, Try.ntmps50
  go_wp2
  go_ret
  exact ⟨ret_slice (by omega), rfl⟩

theorem setRow_far {w : World} {g gb : Nat} {t : TypeId} {cs new : Array Value} (h : Blk w g t cs) (hne : g ≠ gb) : Blk (w.setRow gb new) g t cs := (setRow_other w gb g new hne).trans h
theorem setRow_at {w : World} {g : Nat} {t : TypeId} {cs new : Array Value} (h : Blk w g t cs) : Blk (w.setRow g new) g t new := setRow_heap w g _ _ t _ h
theorem Dk.wrote {w : World} {g gb gt n : Nat} {bs ts new : Array Value} (h : Dk w g gb gt n bs ts) (hn : new.size = n * 512) : Dk (w.setRow gb new) g gb gt n new ts :=
  ⟨setRow_far h.d (Blk.ne_ h.d h.b (by decide)), setRow_at h.b, setRow_far h.t (Blk.ne_ h.t h.b (by decide)), hn, h.ht⟩

set_option maxHeartbeats 1000000 in
theorem write_ok {w : World} {g gb gt n : Nat} {bs ts : Array Value} (h : Dk w g gb gt n bs ts) (p : Nat) (hp : p < n) (hn : n ≤ 1000000) (ad : Addr) (c B : Nat) (cs : List Value) (hr : Reads w B 1 (some ad) 512 cs) (h1 : ∀ v ∈ cs, v.oneCell' = true) (u : Value) (hu : ts[p]? = some u) :
    Calls Try.prog 28 #[.pointer (some ⟨g, 0, none⟩), .int .u32 p, .slice (some ad) 512 c] w fun e w' => e = .returned (.int .i64 0) ∧ (w.setRow gb (splice bs.toList (p * 512) cs).toArray).setCell ⟨gt, p, none⟩ (.bool true) = w' := by
  have HB := Lib.hid (has_any h p (by omega) (by omega) hn)
  have HP := Lib.hid (dpage_any h p hp hn)
  have hlen : cs.length = 512 := by have := hr.1; omega
  have hfit : p * 512 + cs.length ≤ bs.size := by rw [h.hb, hlen]; omega
  have hsz : (splice bs.toList (p * 512) cs).toArray.size = n * 512 := by
    rw [List.size_toArray, length_splice _ _ _ (by simpa using hfit)]
    simpa using h.hb
  have h2 := h.wrote hsz
  have c1 : (w.setRow gb (splice bs.toList (p * 512) cs).toArray).cell? ⟨g, 1, none⟩ = some (.slice (some ⟨gt, 0, none⟩) n n) := h2.d.cell 1
  have c2 : (w.setRow gb (splice bs.toList (p * 512) cs).toArray).cell? ⟨gt, p, none⟩ = some u := (h2.t.cell p).trans hu
  have c3 := h2.t.frozen p
  have hg := h.b
  have hsrc : ∀ j v, cs[j]? = some v → w.cell? (ad.add j) = some v := by
    obtain ⟨ad', e, _, hc⟩ := hr.2 (by omega)
    injection e with e
    subst e
    exact hc
  have Hsrc := Lib.hid hsrc; clear hsrc
  have hd : decide ((p : Int) < (n : Int)) = true := decide_eq_true (by omega)
  have g1 : (0 : Int) ≤ (p : Int) := by omega
  have g2 : (p : Int) < (n : Int) := by omega
  have hinfo : (Try.prog.info? 5).map (·.size) = some 1 := by kernel_rfl
  have HI := Lib.hid hinfo; clear hinfo
  have Hlen := Lib.hid hlen; clear hlen
  clear hsz h2 hr hu
  obtain ⟨W2, hW2⟩ : ∃ W2, w.setRow gb (splice bs.toList (p * 512) cs).toArray = W2 := ⟨_, rfl⟩
  rw [hW2] at c1 c2 c3 ⊢
  have HW2 := Lib.hid hW2; clear hW2
  go_enter Try.func28, Try.ntmps28
  go_wp2_with (first
    | (go_at_call 49; refine HB.out.mono ?_; rintro e w' ⟨rfl, rfl⟩)
    | (go_at_call 50; refine HP.out.mono ?_; rintro e w' ⟨rfl, rfl⟩)
    | (refine wpList_copy_own rfl _ _ 59 59 rfl 5 Try.underlying59 HI.out gb (p * 512) 512 (n * 512 - p * 512) ad 512 c rfl rfl bs 5 hg cs (by rw [Hlen.out]; rfl) Hsrc.out hfit h1 ?_; (show wpList _ _ _ _ _ (w.setRow gb (splice bs.toList (p * 512) cs).toArray)); rw [HW2.out]))
  go_ret
  exact ⟨rfl, rfl⟩
end
end Go.Proofs.Ytdimkeoncgjegaa
/-
  Contracts of the disk: Write beyond the end, Image.
-/
namespace Go.Proofs.Ytdimkeoncgjegaa
section
open Go.RowKit

theorem write_out {w : World} {g gb gt n : Nat} {bs ts : Array Value} (h : Dk w g gb gt n bs ts) (p : Nat) (hp : n ≤ p) (hp2 : p ≤ 4294967295) (hn : n ≤ 1000000) (v : Value) :
    Calls Try.prog 28 #[.pointer (some ⟨g, 0, none⟩), .int .u32 p, v] w fun e w' => e = .returned (.int .i64 8) ∧ w = w' := by
  have HB := Lib.hid (has_any h p (by omega) (by omega) hn)
  have hd : decide (p < n) = false := decide_eq_false (by omega)
  clear h
  go_enter Try.func28, Try.ntmps28
  go_wp2_with (go_at_call 49; refine HB.out.mono ?_; rintro e w' ⟨rfl, rfl⟩)
  go_ret
  exact ⟨rfl, rfl⟩
def RetBytes (w : World) (m : Nat) (bs : Array Value) (e : Ending) (w' : World) : Prop := e = .returned (.slice (some ⟨w.heap.size, 0, none⟩) m m) ∧ Blk w' w.heap.size 5 bs ∧ Below w.heap.size w w'
theorem splice_all (a b : List Value) (h : a.length = b.length) : splice a 0 b = b := by simp [splice, h]

set_option maxHeartbeats 1000000 in
theorem image_any {w : World} {g gb gt n : Nat} {bs ts : Array Value} (h : Dk w g gb gt n bs ts) (hn : n ≤ 1000000) (h1n : 1 ≤ n) (h1 : ∀ v ∈ bs.toList, v.oneCell' = true) :
    Calls Try.prog 34 #[.pointer (some ⟨g, 0, none⟩)] w (RetBytes w (n * 512) bs) := by
  obtain ⟨i0, hi0, hz0, hs0, hy0⟩ := int_info8 Try.infoU8
  have mk0 : ∀ W, (Instr.makeSlice 59 (.int .i64 ((n : Int) * 512)) (.int .i64 ((n : Int) * 512))).run Try.prog W = .ok (.slice (some ⟨W.heap.size, 0, none⟩) (n * 512) (n * 512)) (W.alloc (.cells (zeroBytes n) 5)) := by
    intro W
    have h := run_make (P := Try.prog) W 59 5 i0 (.int .u8 0) Try.underlying59 hi0 hz0 .i64 .i64 ((n : Int) * 512) ((n : Int) * 512) (by omega) (by omega) (by rw [hy0]; omega) (by omega)
    have e : ((n : Int) * 512).toNat = n * 512 := by omega
    rw [e, hs0, Nat.mul_one] at h
    exact h
  clear hi0 hz0 hs0 hy0
  have c0 : w.cell? ⟨g, 0, none⟩ = some (.slice (some ⟨gb, 0, none⟩) (n * 512) (n * 512)) := h.d.cell 0
  have hgl := h.d.lt
  have hbl := h.b.lt
  have hbs : bs.toList.length = n * 512 := by simpa using h.hb
  have hZ : (zeroBytes n).size = n * 512 := by simp [zeroBytes, size_madeCells]
  have hsrc : Hid (∀ W, Below w.heap.size w W → ∀ j v, bs.toList[j]? = some v → W.cell? ((⟨gb, 0, none⟩ : Addr).add j) = some v) := by
    intro W hW j v hv
    rw [add_head, (h.b.below hW hbl).cell]
    simpa using hv
  have hinfo : (Try.prog.info? 5).map (·.size) = some 1 := by kernel_rfl
  have HI := Lib.hid hinfo; clear hinfo
  have Hbs := Lib.hid hbs; clear hbs
  have HZ := Lib.hid hZ; clear hZ
  have hne : ((w.alloc (.cells (zeroBytes n) 5)).setRow w.heap.size (splice (zeroBytes n).toList 0 bs.toList).toArray) = ((w.alloc (.cells (zeroBytes n) 5)).setRow w.heap.size bs) := by
    rw [splice_all _ _ (by rw [Hbs.out]; simpa using HZ.out)]
  have HNE := Lib.hid hne; clear hne
  have hB : Below w.heap.size w ((w.alloc (.cells (zeroBytes n) 5)).setRow w.heap.size bs) := below_setRow (ball (Below.refl _ _) _) (Nat.le_refl _) _
  have hBk : Blk ((w.alloc (.cells (zeroBytes n) 5)).setRow w.heap.size bs) w.heap.size 5 bs := setRow_at (Blk.new _ _ _)
  have HB := Lib.hid (And.intro hB hBk); clear hB hBk
  clear h
  obtain ⟨W2, hW2⟩ : ∃ W2, ((w.alloc (.cells (zeroBytes n) 5)).setRow w.heap.size bs) = W2 := ⟨_, rfl⟩
  rw [hW2] at HB HNE
  clear hW2
  go_enter Try.func34, Try.ntmps34
  go_wp2_with (refine wpList_copy_own rfl _ _ 59 59 rfl 5 Try.underlying59 HI.out w.heap.size 0 (n * 512) (n * 512) ⟨gb, 0, none⟩ (n * 512) (n * 512) rfl rfl (zeroBytes n) 5 (Blk.new _ _ _) bs.toList (by rw [Hbs.out]; simp) (hsrc.out _ (ball (Below.refl _ _) _)) (by rw [Hbs.out, HZ.out]; omega) h1 ?_; (show wpList _ _ _ _ _ ((w.alloc (.cells (zeroBytes n) 5)).setRow w.heap.size (splice (zeroBytes n).toList 0 bs.toList).toArray)); rw [HNE.out])
  go_ret
  exact ⟨rfl, HB.out.2, HB.out.1⟩
end
end Go.Proofs.Ytdimkeoncgjegaa
/-
  A slice of operations on disks that came in: a number, a page, a byte, a truth.
-/
namespace Go.Proofs.Ytdimkeoncgjegaa
section
open Go.RowKit Go.ChangeShapes Go.WideShapes Go.Deep

structure Op4 where
  k : Int
  p : Int
  b : Int
  s : Bool
def Op4.cells (v : Op4) : List Value := [.int .i64 v.k, .int .u32 v.p, .int .u8 v.b, .bool v.s]
def Op4.ok (v : Op4) : Prop := (-9223372036854775808 ≤ v.k ∧ v.k ≤ 9223372036854775807) ∧ (0 ≤ v.p ∧ v.p ≤ 4294967295) ∧ (0 ≤ v.b ∧ v.b ≤ 255)
def vO (l : List Op4) : List Value := l.flatMap Op4.cells
theorem vO_len (l : List Op4) : (vO l).length = l.length * 4 := flat_len _ 4 l fun _ _ => rfl
theorem vO_at {l : List Op4} {k : Nat} {v : Op4} (h : l[k]? = some v) (j : Nat) (hj : j < 4) : (vO l)[k * 4 + j]? = v.cells[j]? := flat_at Op4.cells 4 l k v j (fun _ _ => rfl) h hj
theorem Reads.op {w : World} {B : Nat} {A : Option Addr} {n k : Nat} {l : List Op4} (hr : Reads w B 4 A n (vO l)) (hk : k < n) :
    ∃ ad v, A = some ad ∧ ad.block < B ∧ l[k]? = some v ∧ w.cell? (ad.add (k * 4)) = some (.int .i64 v.k) ∧ w.cell? ⟨(ad.add (k * 4)).block, (ad.add (k * 4)).off + 1, none⟩ = some (.int .u32 v.p) ∧ w.cell? ⟨(ad.add (k * 4)).block, (ad.add (k * 4)).off + 2, none⟩ = some (.int .u8 v.b) ∧ w.cell? ⟨(ad.add (k * 4)).block, (ad.add (k * 4)).off + 3, none⟩ = some (.bool v.s) := by
  have hl : l.length = n := by have := hr.1; rw [vO_len] at this; omega
  obtain ⟨ad, hA, hb, hc⟩ := hr.2 (by omega)
  have hv : l[k]? = some (l[k]'(by omega)) := List.getElem?_eq_getElem (by omega)
  refine ⟨ad, l[k]'(by omega), hA, hb, hv, ?_, ?_, ?_, ?_⟩
  · have := hc (k * 4 + 0) _ (by rw [vO_at hv 0 (by omega)]; rfl)
    simpa using this
  · rw [field_add _ _ _ (by omega)]
    exact hc (k * 4 + 1) _ (by rw [vO_at hv 1 (by omega)]; rfl)
  · rw [field_add _ _ _ (by omega)]
    exact hc (k * 4 + 2) _ (by rw [vO_at hv 2 (by omega)]; rfl)
  · rw [field_add _ _ _ (by omega)]
    exact hc (k * 4 + 3) _ (by rw [vO_at hv 3 (by omega)]; rfl)

section
variable {H : Type} {enc : TypeId × Value → H} {P : Program} {w : World} {base : Nat} {spare : Nat → Bool} {held : Bool}
theorem trod_op {t tk tp tb ts : TypeId} {fs : Array Field} {n : Nat} {cs : List Value} {y : DataW H × List MemPlace} (ht : P.underlying t = some (.struct fs)) (hone : oneCellFields P fs = true) (hC : P.cellsOf t = 4) (hf : fs.toList.map (·.type) = [tk, tp, tb, ts])
    (hk : P.underlying tk = some (.int .i64)) (hp : P.underlying tp = some (.int .u32)) (hb : P.underlying tb = some (.int .u8)) (hs : P.underlying ts = some .bool) (h : DataW.trod enc P w base spare held n t cs = some y) :
    ∃ v : Op4, cs = v.cells ∧ v.ok := by
  obtain ⟨xs, m, _, _, hlen, hxl, hfd⟩ := DataW.trod_struct ht h
  rw [hC] at hlen
  match cs, hlen with
  | [c0, c1, c2, c3], _ =>
    have hfs : fs.size = 4 := by have := congrArg List.length hf; simpa using this
    obtain ⟨l⟩ := fs
    match l, hfs, hf with
    | [f0, f1, f2, f3], _, hf =>
      simp only [List.map_cons, List.map_nil, List.cons.injEq, and_true] at hf
      obtain ⟨rfl, rfl, rfl, rfl⟩ := hf
      match xs, hxl with
      | [y0, y1, y2, y3], _ =>
        obtain ⟨o0, k0⟩ := hone_of hone 0 f0 rfl
        obtain ⟨o1, k1⟩ := hone_of hone 1 f1 rfl
        obtain ⟨o2, k2⟩ := hone_of hone 2 f2 rfl
        obtain ⟨o3, k3⟩ := hone_of hone 3 f3 rfl
        have e0 := hfd 0 f0 rfl
        have e1 := hfd 1 f1 rfl
        have e2 := hfd 2 f2 rfl
        have e3 := hfd 3 f3 rfl
        rw [o0, k0] at e0; rw [o1, k1] at e1; rw [o2, k2] at e2; rw [o3, k3] at e3
        obtain ⟨a, ha, _, wa⟩ := DataW.trod_int hk e0
        obtain ⟨b, hb', _, wb⟩ := DataW.trod_int hp e1
        obtain ⟨c, hc', _, wc⟩ := DataW.trod_int hb e2
        obtain ⟨s, hs', _⟩ := DataW.trod_bool hs e3
        simp at ha hb' hc' hs'
        subst ha; subst hb'; subst hc'; subst hs'
        exact ⟨⟨a, b, c, s⟩, rfl, Go.bounds_i64 wa, Go.bounds_u32 wb, Go.bounds_u8 wc⟩
theorem trod_ops {t e tk tp tb ts : TypeId} {fs : Array Field} {n : Nat} {cs : List Value} {y : DataW H × List MemPlace} (ht : P.underlying t = some (.slice e)) (he : P.underlying e = some (.struct fs)) (hone : oneCellFields P fs = true) (hC : P.cellsOf e = 4) (hf : fs.toList.map (·.type) = [tk, tp, tb, ts])
    (hk : P.underlying tk = some (.int .i64)) (hp : P.underlying tp = some (.int .u32)) (hb : P.underlying tb = some (.int .u8)) (hs : P.underlying ts = some .bool) (h : DataW.trod enc P w base spare held n t cs = some y) :
    ∃ (A : Option Addr) (len cap : Nat) (l : List Op4), cs = [.slice A len cap] ∧ len ≤ cap ∧ cap ≤ maxLen ∧ l.length = len ∧ (∀ v ∈ l, v.ok) ∧ Reads w w.heap.size 4 A len (vO l) := by
  obtain ⟨A, len, cap, L, rfl, h1, h2, h3, h4, h5⟩ := trod_sl (fun c => ∃ v : Op4, c = v.cells ∧ v.ok) ht hC (by omega) (fun m c y hc _ => trod_op he hone hC hf hk hp hb hs hc) h
  have hex : ∀ (L : List (List Value)), (∀ c ∈ L, ∃ v : Op4, c = v.cells ∧ v.ok) → ∃ l : List Op4, L = l.map Op4.cells ∧ ∀ v ∈ l, v.ok := by
    intro L
    induction L with
    | nil => intro _; exact ⟨[], rfl, by simp⟩
    | cons c r ih =>
      intro hL
      obtain ⟨v, rfl, hv⟩ := hL c (by simp)
      obtain ⟨l, rfl, hl⟩ := ih fun c hc => hL c (by simp [hc])
      exact ⟨v :: l, rfl, by intro u hu; rcases List.mem_cons.1 hu with rfl | hu; exact hv; exact hl u hu⟩
  obtain ⟨l, rfl, hl⟩ := hex L fun c hc => (h4 c hc).1
  refine ⟨A, len, cap, l, rfl, h1, h2, by simpa using h3, hl, ?_⟩
  have : (l.map Op4.cells).flatMap id = vO l := by unfold vO; rw [List.flatMap_map]; rfl
  rwa [this] at h5
end
end
end Go.Proofs.Ytdimkeoncgjegaa
/-
  The law DiskApart's walk: pages written, the loop over the operations.
-/
namespace Go.Proofs.Ytdimkeoncgjegaa
section
open Go.RowKit

theorem fillA_rep (b : UInt8) (n : Nat) : fillA (b.toNat : Int) n n = bV (List.replicate n b) := by
  apply Array.ext
  · simp [fillA, bV_size]
  · intro j h1 h2
    have hj : j < n := by simpa [fillA] using h1
    have : (bV (List.replicate n b))[j]? = some (.int .u8 (b.toNat : Int)) := bV_at (by simp [hj])
    rw [Array.getElem?_eq_getElem h2] at this
    simp only [fillA, Array.getElem_ofFn, if_pos hj]
    exact (Option.some.inj this).symm
theorem zero_rep (n : Nat) : zeroBytes n = bV (List.replicate (n * 512) 0) := by
  apply Array.ext
  · simp [zeroBytes, bV_size, size_madeCells]
  · intro j h1 h2
    have hj : j < n * 512 := by simpa [zeroBytes, size_madeCells] using h1
    have : (bV (List.replicate (n * 512) 0))[j]? = some (.int .u8 ((0 : UInt8).toNat : Int)) := bV_at (by simp [hj])
    rw [Array.getElem?_eq_getElem h2] at this
    rw [Option.some.inj this]
    simp [zeroBytes, madeCells, Nat.mod_one]
theorem byte_of {x : Int} (h0 : 0 ≤ x) (h1 : x ≤ 255) : ∃ b : UInt8, x = (b.toNat : Int) := ⟨UInt8.ofNat x.toNat, by simp; omega⟩
/-- A disk that holds these bytes. -/
def DkL (w : World) (g gb gt n : Nat) (L : List UInt8) : Prop := L.length = n * 512 ∧ ∃ ts, Dk w g gb gt n (bV L) ts
theorem DkL.below {w w' : World} {g gb gt n B : Nat} {L : List UInt8} (h : DkL w g gb gt n L) (hb : Below B w w') (h1 : g < B) (h2 : gb < B) (h3 : gt < B) : DkL w' g gb gt n L := by
  obtain ⟨hl, ts, hd⟩ := h
  exact ⟨hl, ts, hd.below hb h1 h2 h3⟩
theorem DkL.lts {w : World} {g gb gt n : Nat} {L : List UInt8} (h : DkL w g gb gt n L) : g < w.heap.size ∧ gb < w.heap.size ∧ gt < w.heap.size := by
  obtain ⟨hl, ts, hd⟩ := h
  exact ⟨hd.d.lt, hd.b.lt, hd.t.lt⟩
/-- What a write leaves: the disk with these bytes; every other block as it was. -/
def Wrote (w : World) (g gb gt n : Nat) (L : List UInt8) (e : Ending) (w' : World) : Prop :=
  e = .returned (.int .i64 0) ∧ DkL w' g gb gt n L ∧ (∀ B, B ≤ gb → B ≤ gt → Below B w w') ∧ (∀ g', g' ≠ gb → g' ≠ gt → w'.heap[g']? = w.heap[g']?) ∧ w'.heap.size = w.heap.size
theorem writeL {w : World} {g gb gt n : Nat} {L : List UInt8} (h : DkL w g gb gt n L) (p : Nat) (hp : p < n) (hn : n ≤ 1000000) (ad : Addr) (c B : Nat) (r : List UInt8) (hr : Reads w B 1 (some ad) 512 (bL r)) :
    Calls Try.prog 28 #[.pointer (some ⟨g, 0, none⟩), .int .u32 p, .slice (some ad) 512 c] w (Wrote w g gb gt n (splice L (p * 512) r)) := by
  obtain ⟨hl, ts, hd⟩ := h
  have hu : ts[p]? = some (ts[p]'(by rw [hd.ht]; exact hp)) := Array.getElem?_eq_getElem _
  have hrl : r.length = 512 := by have := hr.1; rw [bL_len] at this; omega
  refine (write_ok hd p hp hn ad c B (bL r) hr (bL_one r) _ hu).mono ?_
  rintro e w' ⟨rfl, rfl⟩
  rw [splice_bV]
  have hl2 : (splice L (p * 512) r).length = n * 512 := by rw [length_splice _ _ _ (by omega), hl]
  have h1 := hd.wrote (new := bV (splice L (p * 512) r)) (by rw [bV_size, hl2])
  refine ⟨rfl, ⟨hl2, _, h1.mark p _⟩, ?_, ?_, ?_⟩
  · intro B h1 h2
    exact (below_setRow (Below.refl _ _) h1 _).setCell h2 _
  · intro g' h1 h2
    exact (Below.heap_setCell _ _ _ _ h2).trans (setRow_other _ _ _ _ h1)
  · simp [World.setCell, World.setRow]
end
end Go.Proofs.Ytdimkeoncgjegaa
/-
  Contracts of the disk, its pages as lists: Left, Read, Take.
-/
namespace Go.Proofs.Ytdimkeoncgjegaa
section
open Go.RowKit

/-- A disk that holds these pages and marks. -/
structure DP (w : World) (g gb gt n : Nat) (ps : List (List UInt8)) (T : List Bool) : Prop where
  dk : Dk w g gb gt n (bV ps.flatten) (tV T)
  full : Full ps
  hp : ps.length = n
section
variable {w w' : World} {g gb gt n : Nat} {ps : List (List UInt8)} {T : List Bool}
theorem DP.hT (h : DP w g gb gt n ps T) : T.length = n := by have := h.dk.ht; rwa [tV_size] at this
theorem DP.below (h : DP w g gb gt n ps T) {B : Nat} (hb : Below B w w') (h1 : g < B) (h2 : gb < B) (h3 : gt < B) : DP w' g gb gt n ps T := ⟨h.dk.below hb h1 h2 h3, h.full, h.hp⟩
theorem DP.lts (h : DP w g gb gt n ps T) : g < w.heap.size ∧ gb < w.heap.size ∧ gt < w.heap.size := ⟨h.dk.d.lt, h.dk.b.lt, h.dk.t.lt⟩
theorem DP.mark (h : DP w g gb gt n ps T) (i : Nat) (b : Bool) : DP (w.setCell ⟨gt, i, none⟩ (.bool b)) g gb gt n ps (T.set i b) :=
  ⟨by rw [← tV_set]; exact h.dk.mark i _, h.full, h.hp⟩

theorem left_any (h : DP w g gb gt n ps T) (hn : n ≤ 1000000) : Calls Try.prog 32 #[.pointer (some ⟨g, 0, none⟩)] w fun e w' => e = .returned (.int .i64 (freeN T : Int)) ∧ w = w' := by
  have L := Lib.hid (len_any h.dk)
  have c1 : w.cell? ⟨g, 1, none⟩ = some (.slice (some ⟨gt, 0, none⟩) n n) := h.dk.d.cell 1
  have HT := Lib.hid h.hT
  have ct := fun j => h.dk.t.cell j
  have CT := Lib.hid ct; clear ct
  clear h
  go_enter Try.func32, Try.ntmps32
  go_wp2_with (go_at_call 40; refine L.out.mono ?_; rintro e w' ⟨rfl, rfl⟩)
  go_loop [3, 7] (fun u v => ∃ k : Nat, u = .int .i64 (freeN (T.take k) : Nat) ∧ v = .int .i64 k ∧ k ≤ n) (fun _ v => n - (intOf v).toNat)
  case atStart => exact ⟨0, rfl, rfl, by omega⟩
  case round =>
    obtain ⟨k, rfl, rfl, hk⟩ := hrel
    by_cases hki : k < n
    · have g1 : (0 : Int) ≤ (k : Int) := by omega
      have g2 : (k : Int) < (n : Int) := by omega
      obtain ⟨b, hb⟩ : ∃ b, T[k]? = some b := ⟨_, List.getElem?_eq_getElem (by rw [HT.out]; exact hki)⟩
      have c2 : w.cell? ⟨gt, k, none⟩ = some (.bool b) := (CT.out k).trans (tV_at hb)
      have fs := Lib.hid (free_succ T k b hb)
      have fl := free_le T k
      obtain ⟨F, hF⟩ : ∃ F, freeN (T.take k) = F := ⟨_, rfl⟩
      rw [hF] at fs fl ⊢
      clear hF hb
      cases b
      · go_wp2
        go_round
        case rel => exact ⟨k + 1, by rw [fs.out]; go_num, by go_num, by omega⟩
        case measure => simp [intOf]; omega
      · go_wp2
        go_round
        case rel => exact ⟨k + 1, by rw [fs.out]; go_num, by go_num, by omega⟩
        case measure => simp [intOf]; omega
    · obtain rfl : n = k := by omega
      have e1 : T.take n = T := List.take_of_length_le (by rw [HT.out]; exact Nat.le_refl _)
      rw [e1]
      go_wp2
      go_ret
      exact ⟨rfl, rfl⟩

theorem read_out (h : DP w g gb gt n ps T) (p : Nat) (hp : n ≤ p) (hp2 : p ≤ 4294967295) (hn : n ≤ 1000000) :
    Calls Try.prog 71 #[.pointer (some ⟨g, 0, none⟩), .int .u32 p] w fun e w' => e = .returned (.tuple #[.slice none 0 0, .int .i64 8]) ∧ w = w' := by
  have HB := Lib.hid (has_any h.dk p (by omega) (by omega) hn)
  have hd : decide (p < n) = false := decide_eq_false (by omega)
  clear h
  go_enter Try.func71, Try.ntmps71
  go_wp2_with (go_at_call 49; refine HB.out.mono ?_; rintro e w' ⟨rfl, rfl⟩)
  go_ret2
  exact ⟨rfl, rfl⟩

def RetRead (w : World) (q : List UInt8) (e : Ending) (w' : World) : Prop := e = .returned (.tuple #[.slice (some ⟨w.heap.size, 0, none⟩) 512 512, .int .i64 0]) ∧ Blk w' w.heap.size 5 (bV q) ∧ Below w.heap.size w w'
set_option maxHeartbeats 1000000 in
theorem read_ok (h : DP w g gb gt n ps T) (p : Nat) (q : List UInt8) (hq : ps[p]? = some q) (hn : n ≤ 1000000) :
    Calls Try.prog 71 #[.pointer (some ⟨g, 0, none⟩), .int .u32 p] w (RetRead w q) := by
  have hp : p < n := by rw [← h.hp]; exact lt_of_at hq
  obtain ⟨i0, hi0, hz0, hs0, hy0⟩ := int_info8 Try.infoU8
  have mk0 : ∀ W, (Instr.makeSlice 59 (.int .i64 512) (.int .i64 512)).run Try.prog W = .ok (.slice (some ⟨W.heap.size, 0, none⟩) 512 512) (W.alloc (.cells (zeroBytes 1) 5)) := by
    intro W
    have h := run_make (P := Try.prog) W 59 5 i0 (.int .u8 0) Try.underlying59 hi0 hz0 .i64 .i64 512 512 (by omega) (by omega) (by rw [hy0]; omega) (by omega)
    rw [hs0] at h
    exact h
  clear hi0 hz0 hs0 hy0
  have hgl := h.lts
  have hql : (bL q).length = 512 := by rw [bL_len]; exact h.full q (List.mem_of_getElem? hq)
  have hZ : (zeroBytes 1).size = 512 := by simp [zeroBytes, size_madeCells]
  have hsrc : Hid (∀ W, Below w.heap.size w W → ∀ j v, (bL q)[j]? = some v → W.cell? ((⟨gb, p * 512, none⟩ : Addr).add j) = some v) := by
    intro W hW j v hv
    have e : (⟨gb, p * 512, none⟩ : Addr).add j = ⟨gb, p * 512 + j, none⟩ := by unfold Addr.add; split <;> simp_all
    rw [e, (h.dk.b.below hW hgl.2.1).cell]
    have hj := lt_of_at hv
    rw [hql] at hj
    rw [← pflat_page ps h.full p q hq] at hv
    simp only [bL, List.getElem?_map, List.getElem?_take_of_lt hj, List.getElem?_drop] at hv
    rw [bV, List.getElem?_toArray, bL, List.getElem?_map]
    exact hv
  have hinfo : (Try.prog.info? 5).map (·.size) = some 1 := by kernel_rfl
  have HI := Lib.hid hinfo; clear hinfo
  have HB := Lib.hid (has_any h.dk p (by omega) (by omega) hn)
  have HP := Lib.hid fun W (hW : Below w.heap.size w W) => dpage_any (h.dk.below hW hgl.1 hgl.2.1 hgl.2.2) p hp hn
  have hd : decide ((p : Int) < (n : Int)) = true := decide_eq_true (by omega)
  have Hql := Lib.hid hql; clear hql
  have HZ := Lib.hid hZ; clear hZ
  have hne : ((w.alloc (.cells (zeroBytes 1) 5)).setRow w.heap.size (splice (zeroBytes 1).toList 0 (bL q)).toArray) = ((w.alloc (.cells (zeroBytes 1) 5)).setRow w.heap.size (bV q)) := by
    rw [splice_all _ _ (by rw [Hql.out]; simpa using HZ.out)]
    rfl
  have HNE := Lib.hid hne; clear hne
  have hB : Below w.heap.size w ((w.alloc (.cells (zeroBytes 1) 5)).setRow w.heap.size (bV q)) := below_setRow (ball (Below.refl _ _) _) (Nat.le_refl _) _
  have hBk : Blk ((w.alloc (.cells (zeroBytes 1) 5)).setRow w.heap.size (bV q)) w.heap.size 5 (bV q) := setRow_at (Blk.new _ _ _)
  have HBB := Lib.hid (And.intro hB hBk); clear hB hBk
  clear h hq
  obtain ⟨W2, hW2⟩ : ∃ W2, ((w.alloc (.cells (zeroBytes 1) 5)).setRow w.heap.size (bV q)) = W2 := ⟨_, rfl⟩
  rw [hW2] at HBB HNE
  clear hW2
  go_enter Try.func71, Try.ntmps71
  go_wp2_with (first
    | (go_at_call 49; refine HB.out.mono ?_; rintro e w' ⟨rfl, rfl⟩)
    | (go_at_call 50; refine (HP.out _ (ball (Below.refl _ _) _)).mono ?_; rintro e w' ⟨rfl, rfl⟩)
    | (refine wpList_copy_own rfl _ _ 59 59 rfl 5 Try.underlying59 HI.out w.heap.size 0 512 512 ⟨gb, p * 512, none⟩ 512 (n * 512 - p * 512) rfl rfl (zeroBytes 1) 5 (Blk.new _ _ _) (bL q) (by rw [Hql.out]; rfl) (hsrc.out _ (ball (Below.refl _ _) _)) (by rw [Hql.out, HZ.out]; exact Nat.le_refl _) (bL_one q) ?_; (show wpList _ _ _ _ _ ((w.alloc (.cells (zeroBytes 1) 5)).setRow w.heap.size (splice (zeroBytes 1).toList 0 (bL q)).toArray)); rw [HNE.out]))
  go_ret2
  exact ⟨rfl, HBB.out.2, HBB.out.1⟩
end

theorem first_free : ∀ T : List Bool, (∃ i : Nat, T[i]? = some false ∧ ∀ j : Nat, j < i → T[j]? = some true) ∨ (∀ j : Nat, j < T.length → T[j]? = some true)
  | [] => .inr (by simp)
  | false :: T => .inl ⟨0, rfl, by omega⟩
  | true :: T => by
    rcases first_free T with ⟨i, h1, h2⟩ | h
    · refine .inl ⟨i + 1, by simpa using h1, fun j hj => ?_⟩
      cases j with
      | zero => rfl
      | succ j => simpa using h2 j (by omega)
    · refine .inr fun j hj => ?_
      cases j with
      | zero => rfl
      | succ j => simpa using h j (by simpa using hj)
end
end Go.Proofs.Ytdimkeoncgjegaa
