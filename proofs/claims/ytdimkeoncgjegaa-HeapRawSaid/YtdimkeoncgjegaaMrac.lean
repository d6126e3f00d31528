/-
  Several texts in one: Dq Da Db Dc Dd De Df.
-/
import Derived.Test.YtdimkeoncgjegaaMrab
import Derived.Test.YtdimkeoncgjegaaMraa
import Derived.Test.YtdimkeoncgjegaaProg
import Derived.Laws.MakeOwn
import Derived.WalkSpells
import Derived.WalkLawsBesides
import Derived.Test.YtdimkeoncgjegaaRows
import Derived.Deep.RegionWith
import Derived.Laws.CopyOwn
/-
  Pages as lists: what the pages of some bytes are, which are taken, and what a write leaves.
-/
namespace Go.Proofs.Ytdimkeoncgjegaa
section
open Go.RowKit

def tL (T : List Bool) : List Value := T.map Value.bool
def tV (T : List Bool) : Array Value := (tL T).toArray
def sL (ps : List (List UInt8)) : List Value := ps.map fun p => Value.string (str p)
theorem tL_len (T : List Bool) : (tL T).length = T.length := by simp [tL]
theorem sL_len (ps : List (List UInt8)) : (sL ps).length = ps.length := by simp [sL]
theorem tV_size (T : List Bool) : (tV T).size = T.length := by simp [tV, tL_len]
theorem tL_one (T : List Bool) : ∀ u ∈ tL T, u.oneCell' = true := by
  intro u hu
  obtain ⟨x, _, rfl⟩ := List.mem_map.1 hu
  rfl
theorem sL_one (ps : List (List UInt8)) : ∀ u ∈ sL ps, u.oneCell' = true := by
  intro u hu
  obtain ⟨x, _, rfl⟩ := List.mem_map.1 hu
  rfl
theorem tL_at {T : List Bool} {i : Nat} {x : Bool} (h : T[i]? = some x) : (tL T)[i]? = some (.bool x) := by simp [tL, h]
theorem tV_at {T : List Bool} {i : Nat} {x : Bool} (h : T[i]? = some x) : (tV T)[i]? = some (.bool x) := by simp [tV, tL, h]
theorem sL_at {ps : List (List UInt8)} {i : Nat} {x : List UInt8} (h : ps[i]? = some x) : (sL ps)[i]? = some (.string (str x)) := by simp [sL, h]
theorem tV_set (T : List Bool) (i : Nat) (b : Bool) : (tV T).setIfInBounds i (.bool b) = tV (T.set i b) := by simp [tV, tL, List.map_set]

/-- All pages have 512 bytes. -/
def Full (ps : List (List UInt8)) : Prop := ∀ p ∈ ps, p.length = 512
theorem pflat_len : ∀ ps : List (List UInt8), Full ps → ps.flatten.length = ps.length * 512
  | [], _ => rfl
  | p :: ps, h => by
    have h1 := h p (by simp)
    have h2 := pflat_len ps fun q hq => h q (by simp [hq])
    rw [List.flatten_cons, List.length_append, h1, h2, List.length_cons]; omega
theorem pflat_page : ∀ (ps : List (List UInt8)) (_ : Full ps) (i : Nat) (p : List UInt8), ps[i]? = some p → (ps.flatten.drop (i * 512)).take 512 = p
  | [], _, i, p, hi => by simp at hi
  | q :: ps, h, 0, p, hi => by
    simp only [List.getElem?_cons_zero, Option.some.injEq] at hi
    subst hi
    have h1 := h q (by simp)
    rw [Nat.zero_mul, List.drop_zero, List.flatten_cons, List.take_append_of_le_length (by omega), ← h1, List.take_length]
  | q :: ps, h, i + 1, p, hi => by
    have h1 := h q (by simp)
    rw [List.getElem?_cons_succ] at hi
    rw [List.flatten_cons, List.drop_append, List.drop_of_length_le (by omega), List.nil_append, h1, show (i + 1) * 512 - 512 = i * 512 from by omega]
    exact pflat_page ps (fun q hq => h q (by simp [hq])) i p hi
theorem pflat_set : ∀ (ps : List (List UInt8)) (_ : Full ps) (i : Nat) (r : List UInt8), i < ps.length → r.length = 512 → splice ps.flatten (i * 512) r = (ps.set i r).flatten
  | [], _, i, r, hi, _ => by simp at hi
  | q :: ps, h, 0, r, _, hr => by
    have h1 := h q (by simp)
    unfold splice
    rw [Nat.zero_mul, List.take_zero, List.nil_append, List.set_cons_zero, List.flatten_cons, List.flatten_cons, Nat.zero_add, hr, List.drop_append, List.drop_of_length_le (by omega), h1, Nat.sub_self, List.drop_zero, List.nil_append]
  | q :: ps, h, i + 1, r, hi, hr => by
    have h1 := h q (by simp)
    have ih := pflat_set ps (fun q hq => h q (by simp [hq])) i r (by simpa using hi) hr
    unfold splice at ih ⊢
    rw [List.set_cons_succ, List.flatten_cons, List.flatten_cons, ← ih, List.take_append, List.take_of_length_le (by omega), h1, show (i + 1) * 512 - 512 = i * 512 from by omega, List.append_assoc,
      List.drop_append, List.drop_of_length_le (by omega), List.nil_append, h1, show (i + 1) * 512 + r.length - 512 = i * 512 + r.length from by omega]
theorem full_set {ps : List (List UInt8)} (h : Full ps) (i : Nat) {r : List UInt8} (hr : r.length = 512) : Full (ps.set i r) := by
  intro p hp
  rcases List.mem_or_eq_of_mem_set hp with h1 | h1
  · exact h p h1
  · rw [h1, hr]

/-- The first k pages of some bytes; which of the first k are taken. -/
def pagesOf (L : List UInt8) (k : Nat) : List (List UInt8) := (List.range k).map fun i => (L.drop (i * 512)).take 512
def mark (L : List UInt8) (i : Nat) : Bool := decide (i = 0) || !decide (L[i * 512]? = some 0)
def marksOf (L : List UInt8) (k : Nat) : List Bool := (List.range k).map (mark L)
theorem pagesOf_succ (L : List UInt8) (k : Nat) : pagesOf L (k + 1) = pagesOf L k ++ [(L.drop (k * 512)).take 512] := by simp [pagesOf, List.range_succ]
theorem marksOf_succ (L : List UInt8) (k : Nat) : marksOf L (k + 1) = marksOf L k ++ [mark L k] := by simp [marksOf, List.range_succ]
theorem pagesOf_len (L : List UInt8) (k : Nat) : (pagesOf L k).length = k := by simp [pagesOf]
theorem marksOf_len (L : List UInt8) (k : Nat) : (marksOf L k).length = k := by simp [marksOf]
theorem pagesOf_full (L : List UInt8) (k : Nat) (h : k * 512 ≤ L.length) : Full (pagesOf L k) := by
  intro p hp
  simp only [pagesOf, List.mem_map, List.mem_range] at hp
  obtain ⟨i, hi, rfl⟩ := hp
  rw [List.length_take, List.length_drop]; omega
theorem flat_step {N : Nat} (L : List UInt8) (k : Nat) : L.take (k * N) ++ (L.drop (k * N)).take N = L.take ((k + 1) * N) := by rw [Nat.succ_mul, List.take_add]
theorem pagesOf_flat (L : List UInt8) (k : Nat) : (pagesOf L k).flatten = L.take (k * 512) := by
  induction k with
  | zero => simp [pagesOf]
  | succ k ih => rw [pagesOf_succ, List.flatten_append, ih, List.flatten_singleton]; exact flat_step L k
theorem pagesOf_all (L : List UInt8) (n : Nat) (h : L.length = n * 512) : (pagesOf L n).flatten = L := by rw [pagesOf_flat L n, List.take_of_length_le (by omega)]
/-- The marks while they are told: the first k as they are, the others as a new disk has them. -/
def marksP (L : List UInt8) (n k : Nat) : List Bool := marksOf L k ++ (true :: List.replicate (n - 1) false).drop k
theorem marksP_len (L : List UInt8) (n k : Nat) (h : k ≤ n) (h1 : 1 ≤ n) : (marksP L n k).length = n := by
  unfold marksP
  rw [List.length_append, marksOf_len, List.length_drop, List.length_cons, List.length_replicate]; omega
theorem marksP_at (L : List UInt8) (n k : Nat) (h : k < n) : ∃ b, (marksP L n k)[k]? = some b := by
  have := marksP_len L n k (by omega) (by omega)
  exact ⟨_, List.getElem?_eq_getElem (by omega)⟩
theorem marksP_set (L : List UInt8) (n k : Nat) (h : k < n) : (marksP L n k).set k (mark L k) = marksP L n (k + 1) := by
  unfold marksP
  rw [List.set_append_right _ _ (by rw [marksOf_len]; omega), marksOf_len, Nat.sub_self, List.drop_eq_getElem_cons (i := k) (by simp; omega), List.set_cons_zero, marksOf_succ, List.append_assoc]
  rfl
theorem marksP_end (L : List UInt8) (n : Nat) (h1 : 1 ≤ n) : marksP L n n = marksOf L n := by
  unfold marksP
  rw [List.drop_of_length_le (by simp; omega), List.append_nil]
/-- How many are free. -/
def freeN (T : List Bool) : Nat := (T.filter (! ·)).length
theorem free_succ (T : List Bool) (k : Nat) (b : Bool) (h : T[k]? = some b) : freeN (T.take (k + 1)) = freeN (T.take k) + (if b then 0 else 1) := by
  unfold freeN
  rw [List.take_add_one, h]
  cases b <;> simp
theorem free_le (T : List Bool) (k : Nat) : freeN (T.take k) ≤ k := by
  unfold freeN
  exact Nat.le_trans (List.length_filter_le _ _) (by rw [List.length_take]; omega)
end
end Go.Proofs.Ytdimkeoncgjegaa
/-
  A disk in memory; contracts of Len, has, New, Take.
-/
namespace Go.Proofs.Ytdimkeoncgjegaa
section
open Go.RowKit

theorem Try.infoU8 : (Try.prog.info? 5).map (fun i => (i.zero, i.size, i.bytes)) = some (some (.int .u8 0), 1, 1) := by kernel_rfl
theorem Try.infoBool : (Try.prog.info? 4).map (fun i => (i.zero, i.size, i.bytes)) = some (some (.bool false), 1, 1) := by kernel_rfl

/-- A disk: its block, its bytes' block, its marks' block; so many pages. -/
structure Dk (w : World) (g gb gt n : Nat) (bs : Array Value) (ts : Array Value) : Prop where
  d : Blk w g 78 #[.slice (some ⟨gb, 0, none⟩) (n * 512) (n * 512), .slice (some ⟨gt, 0, none⟩) n n]
  b : Blk w gb 5 bs
  t : Blk w gt 4 ts
  hb : bs.size = n * 512
  ht : ts.size = n

theorem len_nil (w : World) : Calls Try.prog 40 #[.pointer none] w fun e w' => e = .returned (.int .i64 0) ∧ w = w' := by
  go_enter Try.func40, Try.ntmps40
  go_wp2
  go_ret
  exact ⟨rfl, rfl⟩
theorem len_any {w : World} {g gb gt n : Nat} {bs ts : Array Value} (h : Dk w g gb gt n bs ts) : Calls Try.prog 40 #[.pointer (some ⟨g, 0, none⟩)] w fun e w' => e = .returned (.int .i64 n) ∧ w = w' := by
  have c1 : w.cell? ⟨g, 1, none⟩ = some (.slice (some ⟨gt, 0, none⟩) n n) := h.d.cell 1
  go_enter Try.func40, Try.ntmps40
  go_wp2
  go_ret
  exact ⟨rfl, rfl⟩
theorem has_nil (p : Int) (w : World) (h0 : 0 ≤ p) (h1 : p ≤ 4294967295) : Calls Try.prog 49 #[.pointer none, .int .u32 p] w fun e w' => e = .returned (.bool false) ∧ w = w' := by
  go_enter Try.func49, Try.ntmps49
  go_wp2_with (go_at_call 40; refine (len_nil _).mono ?_; rintro e w' ⟨rfl, rfl⟩)
  go_ret
  exact ⟨ret_bool (decide_eq_false (by omega)), rfl⟩
theorem has_any {w : World} {g gb gt n : Nat} {bs ts : Array Value} (h : Dk w g gb gt n bs ts) (p : Int) (h0 : 0 ≤ p) (h1 : p ≤ 4294967295) (hn : n ≤ 1000000) :
    Calls Try.prog 49 #[.pointer (some ⟨g, 0, none⟩), .int .u32 p] w fun e w' => e = .returned (.bool (decide (p < n))) ∧ w = w' := by
  have L := Lib.hid (len_any h)
  go_enter Try.func49, Try.ntmps49
  go_wp2_with (go_at_call 40; refine L.out.mono ?_; rintro e w' ⟨rfl, rfl⟩)
  go_ret
  exact ⟨rfl, rfl⟩
theorem read_nil (p : Int) (h0 : 0 ≤ p) (h1 : p ≤ 4294967295) (w : World) : Calls Try.prog 71 #[.pointer none, .int .u32 p] w fun e w' => e = .returned (.tuple #[.slice none 0 0, .int .i64 8]) ∧ w = w' := by
  go_enter Try.func71, Try.ntmps71
  go_wp2_with (go_at_call 49; refine (has_nil p _ h0 h1).mono ?_; rintro e w' ⟨rfl, rfl⟩)
  go_ret2
  exact ⟨rfl, rfl⟩
theorem write_nil (v : Value) (p : Int) (h0 : 0 ≤ p) (h1 : p ≤ 4294967295) (w : World) : Calls Try.prog 28 #[.pointer none, .int .u32 p, v] w fun e w' => e = .returned (.int .i64 8) ∧ w = w' := by
  go_enter Try.func28, Try.ntmps28
  go_wp2_with (go_at_call 49; refine (has_nil p _ h0 h1).mono ?_; rintro e w' ⟨rfl, rfl⟩)
  go_ret
  exact ⟨rfl, rfl⟩
theorem image_nil (w : World) : Calls Try.prog 34 #[.pointer none] w fun e w' => e = .returned (.slice none 0 0) ∧ w = w' := by
  go_enter Try.func34, Try.ntmps34
  go_wp2
  go_ret
  exact ⟨rfl, rfl⟩
theorem take_nil (w : World) : Calls Try.prog 23 #[.pointer none] w fun e w' => e = .returned (.tuple #[.int .u32 0, .int .i64 7]) ∧ w = w' := by
  go_enter Try.func23, Try.ntmps23
  go_wp2_with (go_at_call 40; refine (len_nil _).mono ?_; rintro e w' ⟨rfl, rfl⟩)
  go_loop [7] (fun v => v = .int .i64 0) (fun _ => 0)
  case atStart => rfl
  case round =>
    subst hrel
    go_wp2
    go_ret2
    exact ⟨rfl, rfl⟩
theorem left_nil (w : World) : Calls Try.prog 32 #[.pointer none] w fun e w' => e = .returned (.int .i64 0) ∧ w = w' := by
  go_enter Try.func32, Try.ntmps32
  go_wp2_with (go_at_call 40; refine (len_nil _).mono ?_; rintro e w' ⟨rfl, rfl⟩)
  go_loop [3, 7] (fun u v => u = .int .i64 0 ∧ v = .int .i64 0) (fun _ _ => 0)
  case atStart => exact ⟨rfl, rfl⟩
  case round =>
    obtain ⟨rfl, rfl⟩ := hrel
    go_wp2
    go_ret
    exact ⟨rfl, rfl⟩
end
end Go.Proofs.Ytdimkeoncgjegaa
/-
  Contracts of the disk: New, Take.
-/
namespace Go.Proofs.Ytdimkeoncgjegaa
section
open Go.RowKit

theorem Blk.newAt {w : World} {t : TypeId} {cs : Array Value} {g : Nat} (h : g = w.heap.size) : Blk (w.alloc (.cells cs t)) g t cs := by subst h; exact Blk.new _ _ _
/-- A disk's bytes, as a new one has them. -/
def zeroBytes (n : Nat) : Array Value := madeCells #[.int .u8 0] (n * 512)
def newMarks (n : Nat) : Array Value := (madeCells #[.bool false] n).setIfInBounds 0 (.bool true)
def RetDisk (w : World) (n : Nat) (bs ts : Array Value) (e : Ending) (w' : World) : Prop :=
  ∃ g gb gt, e = .returned (.tuple #[.pointer (some ⟨g, 0, none⟩), .int .i64 0]) ∧ Dk w' g gb gt n bs ts ∧ w.heap.size ≤ g ∧ w.heap.size ≤ gb ∧ w.heap.size ≤ gt ∧ Below w.heap.size w w'

set_option maxHeartbeats 1000000 in
theorem new_any (n : Nat) (h1 : 1 ≤ n) (h2 : n ≤ 4096) (w : World) : Calls Try.prog 8 #[.int .i64 n] w (RetDisk w n (zeroBytes n) (newMarks n)) := by
  obtain ⟨i0, hi0, hz0, hs0, hy0⟩ := int_info8 Try.infoU8
  obtain ⟨i1, hi1, hz1, hs1, hy1⟩ := int_info8 Try.infoBool
  have mk0 : ∀ W, (Instr.makeSlice 59 (.int .i64 ((n : Int) * 512)) (.int .i64 ((n : Int) * 512))).run Try.prog W = .ok (.slice (some ⟨W.heap.size, 0, none⟩) (n * 512) (n * 512)) (W.alloc (.cells (zeroBytes n) 5)) := by
    intro W
    have h := run_make (P := Try.prog) W 59 5 i0 (.int .u8 0) Try.underlying59 hi0 hz0 .i64 .i64 ((n : Int) * 512) ((n : Int) * 512) (by omega) (by omega) (by rw [hy0]; omega) (by omega)
    have e : ((n : Int) * 512).toNat = n * 512 := by omega
    rw [e, hs0, Nat.mul_one] at h
    exact h
  have mk1 : ∀ W, (Instr.makeSlice 30 (.int .i64 (n : Int)) (.int .i64 (n : Int))).run Try.prog W = .ok (.slice (some ⟨W.heap.size, 0, none⟩) n n) (W.alloc (.cells (madeCells #[.bool false] n) 4)) := by
    intro W
    have h := run_make (P := Try.prog) W 30 4 i1 (.bool false) Try.underlying30 hi1 hz1 .i64 .i64 (n : Int) (n : Int) (by omega) (by omega) (by rw [hy1]; omega) (by omega)
    rw [Int.toNat_natCast, hs1, Nat.mul_one] at h
    exact h
  have hc0 : (madeCells #[.bool false] n)[0]? = some (.bool false) := by
    rw [Array.getElem?_eq_getElem (by rw [size_madeCells]; omega)]
    simp [madeCells]
  have hpos : 0 < n := by omega
  have hpI : (0 : Int) < (n : Int) := by omega
  clear hi0 hz0 hs0 hy0 hi1 hz1 hs1 hy1
  go_enter Try.func8, Try.ntmps8
  go_wp2
  go_region
  all_goals go_wp2
  all_goals go_ret2
  · exact ⟨w.heap.size + 1 + 1, w.heap.size, w.heap.size + 1, rfl, ⟨(Blk.newAt (by simp)).drew, (((Blk.new _ _ _).alloc _).alloc _).drew, ((Blk.newAt (by simp)).alloc _).drew, by simp [zeroBytes, size_madeCells], by simp [newMarks, size_madeCells]⟩, by omega, by omega, by omega, (ball (ball (ball (Below.refl _ _) _) _) _).drew⟩
  · exact ⟨w.heap.size + 1 + 1, w.heap.size + 1, w.heap.size, rfl, ⟨(Blk.newAt (by simp)).drew, ((Blk.newAt (by simp)).alloc _).drew, (((Blk.new _ _ _).alloc _).alloc _).drew, by simp [zeroBytes, size_madeCells], by simp [newMarks, size_madeCells]⟩, by omega, by omega, by omega, (ball (ball (ball (Below.refl _ _) _) _) _).drew⟩
end
end Go.Proofs.Ytdimkeoncgjegaa
/-
  Contracts of the disk: Take; the chapter's example.
-/
namespace Go.Proofs.Ytdimkeoncgjegaa
section
open Go.RowKit

theorem take_at {w : World} {g gb gt n : Nat} {bs ts : Array Value} (h : Dk w g gb gt n bs ts) (hn : n ≤ 1000000) (i : Nat) (hi : ts[i]? = some (.bool false)) (hj : ∀ j, j < i → ts[j]? = some (.bool true)) :
    Calls Try.prog 23 #[.pointer (some ⟨g, 0, none⟩)] w fun e w' => e = .returned (.tuple #[.int .u32 i, .int .i64 0]) ∧ w.setCell ⟨gt, i, none⟩ (.bool true) = w' := by
  have L := Lib.hid (len_any h)
  have hin : i < n := by
    have := (Array.getElem?_eq_some_iff.1 hi).1
    rw [h.ht] at this; exact this
  have c1 : w.cell? ⟨g, 1, none⟩ = some (.slice (some ⟨gt, 0, none⟩) n n) := h.d.cell 1
  have ct := fun j => h.t.cell j
  have fz := fun j => h.t.frozen j
  have HJ := Lib.hid hj; clear hj
  have CT := Lib.hid ct; clear ct
  have FZ := Lib.hid fz; clear fz
  go_enter Try.func23, Try.ntmps23
  go_wp2_with (go_at_call 40; refine L.out.mono ?_; rintro e w' ⟨rfl, rfl⟩)
  go_loop [7] (fun v => ∃ k : Nat, v = .int .i64 k ∧ k ≤ i) (fun v => i - (intOf v).toNat)
  case atStart => exact ⟨0, rfl, by omega⟩
  case round =>
    obtain ⟨k, rfl, hk⟩ := hrel
    have g1 : (0 : Int) ≤ (k : Int) := by omega
    have g2 : (k : Int) < (n : Int) := by omega
    have g3 : k < n := by omega
    by_cases hki : k < i
    · have c2 : w.cell? ⟨gt, k, none⟩ = some (.bool true) := (CT.out k).trans (HJ.out k hki)
      go_wp2
      go_round
      case rel => exact ⟨k + 1, by go_num, by omega⟩
      case measure => simp [intOf]; omega
    · obtain rfl : i = k := by omega
      have c2 : w.cell? ⟨gt, i, none⟩ = some (.bool false) := (CT.out i).trans hi
      have f2 := FZ.out i
      clear hi
      go_wp2
      go_ret2
      exact ⟨rfl, rfl⟩
theorem take_full {w : World} {g gb gt n : Nat} {bs ts : Array Value} (h : Dk w g gb gt n bs ts) (hn : n ≤ 1000000) (hj : ∀ j, j < n → ts[j]? = some (.bool true)) :
    Calls Try.prog 23 #[.pointer (some ⟨g, 0, none⟩)] w fun e w' => e = .returned (.tuple #[.int .u32 0, .int .i64 7]) ∧ w = w' := by
  have L := Lib.hid (len_any h)
  have c1 : w.cell? ⟨g, 1, none⟩ = some (.slice (some ⟨gt, 0, none⟩) n n) := h.d.cell 1
  have ct := fun j => h.t.cell j
  have HJ := Lib.hid hj; clear hj
  have CT := Lib.hid ct; clear ct
  go_enter Try.func23, Try.ntmps23
  go_wp2_with (go_at_call 40; refine L.out.mono ?_; rintro e w' ⟨rfl, rfl⟩)
  go_loop [7] (fun v => ∃ k : Nat, v = .int .i64 k ∧ k ≤ n) (fun v => n - (intOf v).toNat)
  case atStart => exact ⟨0, rfl, by omega⟩
  case round =>
    obtain ⟨k, rfl, hk⟩ := hrel
    by_cases hki : k < n
    · have g1 : (0 : Int) ≤ (k : Int) := by omega
      have g2 : (k : Int) < (n : Int) := by omega
      have c2 : w.cell? ⟨gt, k, none⟩ = some (.bool true) := (CT.out k).trans (HJ.out k hki)
      go_wp2
      go_round
      case rel => exact ⟨k + 1, by go_num, by omega⟩
      case measure => simp [intOf]; omega
    · go_wp2
      go_ret2
      exact ⟨rfl, rfl⟩
end
end Go.Proofs.Ytdimkeoncgjegaa
/-
  The disk's chapter's example; the law DiskNil's walk.
-/
namespace Go.Proofs.Ytdimkeoncgjegaa
section
open Go.RowKit

theorem Dk.mark {w : World} {g gb gt n : Nat} {bs ts : Array Value} (h : Dk w g gb gt n bs ts) (i : Nat) (v : Value) : Dk (w.setCell ⟨gt, i, none⟩ v) g gb gt n bs (ts.setIfInBounds i v) :=
  ⟨h.d.far (Blk.ne_ h.d h.t (by decide)) _, h.b.far (Blk.ne_ h.b h.t (by decide)) _, h.t.set_ i v, h.hb, by rw [Array.size_setIfInBounds]; exact h.ht⟩
theorem Dk.below {w w' : World} {g gb gt n B : Nat} {bs ts : Array Value} (h : Dk w g gb gt n bs ts) (hb : Below B w w') (h1 : g < B) (h2 : gb < B) (h3 : gt < B) : Dk w' g gb gt n bs ts :=
  ⟨h.d.below hb h1, h.b.below hb h2, h.t.below hb h3, h.hb, h.ht⟩
theorem marks3 : newMarks 3 = #[.bool true, .bool false, .bool false] := by kernel_rfl
end
end Go.Proofs.Ytdimkeoncgjegaa
/-
  A page of bytes that are all the same.
-/
namespace Go.Proofs.Ytdimkeoncgjegaa
section
open Go.RowKit

/-- The first k bytes are c, the others 0. -/
def fillA (c : Int) (n k : Nat) : Array Value := Array.ofFn (n := n) fun j => if j.val < k then .int .u8 c else .int .u8 0
theorem fillA_set (c : Int) (n k : Nat) (_hk : k < n) : (fillA c n k).setIfInBounds k (.int .u8 c) = fillA c n (k + 1) := by
  apply Array.ext
  · simp [fillA]
  · intro j h1 h2
    rw [Array.getElem_setIfInBounds (by simpa [fillA] using h2)]
    simp only [fillA, Array.getElem_ofFn]
    by_cases h : k = j
    · subst h; simp
    · rw [if_neg h]
      by_cases h3 : j < k
      · rw [if_pos h3, if_pos (by omega)]
      · rw [if_neg h3, if_neg (by omega)]
theorem fillA_at (c : Int) (n k : Nat) (hk : k < n) : (fillA c n k)[k]? = some (.int .u8 0) := by
  rw [Array.getElem?_eq_getElem (by simpa [fillA] using hk)]
  simp [fillA]
theorem fillA_zero (c : Int) (n : Nat) : madeCells #[.int .u8 0] n = fillA c n 0 := by
  apply Array.ext
  · simp [fillA, madeCells]
  · intro j h1 h2
    simp [fillA, madeCells, Nat.mod_one]
def RetPage (w : World) (c : Int) (n : Nat) (e : Ending) (w' : World) : Prop := e = .returned (.slice (some ⟨w.heap.size, 0, none⟩) n n) ∧ Blk w' w.heap.size 5 (fillA c n n) ∧ Below w.heap.size w w'
end
end Go.Proofs.Ytdimkeoncgjegaa
/-
  Contracts of the disk: page, Write.
-/
namespace Go.Proofs.Ytdimkeoncgjegaa
section
open Go.RowKit

theorem ret_slice {A : Option Addr} {n n' c : Nat} (h : n = n') : Ending.returned (.slice A n c) = .returned (.slice A n' c) := by rw [h]
theorem dpage_any {w : World} {g gb gt n : Nat} {bs ts : Array Value} (h : Dk w g gb gt n bs ts) (p : Nat) (hp : p < n) (hn : n ≤ 1000000) :
    Calls Try.prog 50 #[.pointer (some ⟨g, 0, none⟩), .int .u32 p] w fun e w' => e = .returned (.slice (some ⟨gb, p * 512, none⟩) 512 (n * 512 - p * 512)) ∧ w = w' := by
  have c0 : w.cell? ⟨g, 0, none⟩ = some (.slice (some ⟨gb, 0, none⟩) (n * 512) (n * 512)) := h.d.cell 0
  have g1 : (0 : Int) ≤ (p : Int) * 512 := by omega
  have g2 : (p : Int) * 512 + 512 ≤ (n : Int) * 512 := by omega
  have g3 : ¬ n * 512 = p * 512 := by omega
  have g4 : p * 512 + 512 ≤ n * 512 := by omega
  clear h
  go_enter Try.func50, Try.ntmps50
  go_wp2
  go_ret
  exact ⟨ret_slice (by omega), rfl⟩

theorem setRow_far {w : World} {g gb : Nat} {t : TypeId} {cs new : Array Value} (h : Blk w g t cs) (hne : g ≠ gb) : Blk (w.setRow gb new) g t cs := (setRow_other w gb g new hne).trans h
theorem setRow_at {w : World} {g : Nat} {t : TypeId} {cs new : Array Value} (h : Blk w g t cs) : Blk (w.setRow g new) g t new := setRow_heap w g _ _ t _ h
theorem Dk.wrote {w : World} {g gb gt n : Nat} {bs ts new : Array Value} (h : Dk w g gb gt n bs ts) (hn : new.size = n * 512) : Dk (w.setRow gb new) g gb gt n new ts :=
  ⟨setRow_far h.d (Blk.ne_ h.d h.b (by decide)), setRow_at h.b, setRow_far h.t (Blk.ne_ h.t h.b (by decide)), hn, h.ht⟩

set_option maxHeartbeats 1000000 in
theorem write_ok {w : World} {g gb gt n : Nat} {bs ts : Array Value} (h : Dk w g gb gt n bs ts) (p : Nat) (hp : p < n) (hn : n ≤ 1000000) (ad : Addr) (c B : Nat) (cs : List Value) (hr : Reads w B 1 (some ad) 512 cs) (h1 : ∀ v ∈ cs, v.oneCell' = true) (u : Value) (hu : ts[p]? = some u) :
    Calls Try.prog 28 #[.pointer (some ⟨g, 0, none⟩), .int .u32 p, .slice (some ad) 512 c] w fun e w' => e = .returned (.int .i64 0) ∧ (w.setRow gb (splice bs.toList (p * 512) cs).toArray).setCell ⟨gt, p, none⟩ (.bool true) = w' := by
  have HB := Lib.hid (has_any h p (by omega) (by omega) hn)
  have HP := Lib.hid (dpage_any h p hp hn)
  have hlen : cs.length = 512 := by have := hr.1; omega
  have hfit : p * 512 + cs.length ≤ bs.size := by rw [h.hb, hlen]; omega
  have hsz : (splice bs.toList (p * 512) cs).toArray.size = n * 512 := by
    rw [List.size_toArray, length_splice _ _ _ (by simpa using hfit)]
    simpa using h.hb
  have h2 := h.wrote hsz
  have c1 : (w.setRow gb (splice bs.toList (p * 512) cs).toArray).cell? ⟨g, 1, none⟩ = some (.slice (some ⟨gt, 0, none⟩) n n) := h2.d.cell 1
  have c2 : (w.setRow gb (splice bs.toList (p * 512) cs).toArray).cell? ⟨gt, p, none⟩ = some u := (h2.t.cell p).trans hu
  have c3 := h2.t.frozen p
  have hg := h.b
  have hsrc : ∀ j v, cs[j]? = some v → w.cell? (ad.add j) = some v := by
    obtain ⟨ad', e, _, hc⟩ := hr.2 (by omega)
    injection e with e
    subst e
    exact hc
  have Hsrc := Lib.hid hsrc; clear hsrc
  have hd : decide ((p : Int) < (n : Int)) = true := decide_eq_true (by omega)
  have g1 : (0 : Int) ≤ (p : Int) := by omega
  have g2 : (p : Int) < (n : Int) := by omega
  have hinfo : (Try.prog.info? 5).map (·.size) = some 1 := by kernel_rfl
  have HI := Lib.hid hinfo; clear hinfo
  have Hlen := Lib.hid hlen; clear hlen
  clear hsz h2 hr hu
  obtain ⟨W2, hW2⟩ : ∃ W2, w.setRow gb (splice bs.toList (p * 512) cs).toArray = W2 := ⟨_, rfl⟩
  rw [hW2] at c1 c2 c3 ⊢
  have HW2 := Lib.hid hW2; clear hW2
  go_enter Try.func28, Try.ntmps28
  go_wp2_with (first
    | (go_at_call 49; refine HB.out.mono ?_; rintro e w' ⟨rfl, rfl⟩)
    | (go_at_call 50; refine HP.out.mono ?_; rintro e w' ⟨rfl, rfl⟩)
    | (refine wpList_copy_own rfl _ _ 59 59 rfl 5 Try.underlying59 HI.out gb (p * 512) 512 (n * 512 - p * 512) ad 512 c rfl rfl bs 5 hg cs (by rw [Hlen.out]; rfl) Hsrc.out hfit h1 ?_; (show wpList _ _ _ _ _ (w.setRow gb (splice bs.toList (p * 512) cs).toArray)); rw [HW2.out]))
  go_ret
  exact ⟨rfl, rfl⟩
end
end Go.Proofs.Ytdimkeoncgjegaa
