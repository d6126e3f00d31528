/-
  The reader of a book's writing: what stays but its own block; take.
-/
import Derived.Test.YtflolnilagogpaaIv
import Derived.Test.YtflolnilagogpaaSl
set_option linter.unusedSimpArgs false
set_option linter.unusedVariables false
namespace Go.Proofs.Ytflolnilagogpaa
open Go.RowKit

theorem but_refl (w : World) (g : Nat) : w.grownBy w (some g) := ⟨rfl, rfl, rfl, Nat.le_refl _, fun _ _ _ => rfl⟩
theorem but_trans {a b c : World} {g : Nat} (h : a.grownBy b (some g)) (k : b.grownBy c (some g)) : a.grownBy c (some g) :=
  ⟨k.os.trans h.os, k.tape.trans h.tape, k.output.trans h.output, Nat.le_trans h.size k.size, fun i hi hne => (k.block i (Nat.lt_of_lt_of_le hi h.size) hne).trans (h.block i hi hne)⟩
theorem but_below {a b : World} {g : Nat} (h : Below a.heap.size a b) : a.grownBy b (some g) := ⟨h.os, h.tape, h.output, h.size, fun i hi _ => h.block i hi⟩
theorem but_set (w : World) (g i : Nat) (u : Value) : w.grownBy (w.setCell ⟨g, i, none⟩ u) (some g) := by
  have h := (Below.refl 0 w).setCell (p := ⟨g, i, none⟩) (Nat.zero_le _) u
  refine ⟨h.os, h.tape, h.output, h.size, fun k _ hne => ?_⟩
  exact Below.heap_setCell _ _ _ _ (fun e => hne (by rw [e]))
theorem cell_but {a b : World} {g : Nat} (h : a.grownBy b (some g)) {p : Addr} {v : Value} (hp : a.cell? p = some v) (hne : p.block ≠ g) : b.cell? p = some v := by
  have hb := h.block p.block (cell_block hp) (by simpa using hne)
  unfold World.cell? at hp ⊢
  rw [hb]
  exact hp

theorem but_alloc (w : World) (g : Nat) (o : Obj) : w.grownBy (w.alloc o) (some g) := but_below ((Below.refl _ _).alloc (Nat.le_refl _) o)
theorem reads_but {w w' : World} {g B sz n : Nat} {A : Option Addr} {xs : List Value} (h : w.grownBy w' (some g)) (hr : Reads w B sz A n xs) (hB : B ≤ g) : Reads w' B sz A n xs := by
  refine ⟨hr.1, fun hn => ?_⟩
  obtain ⟨ad, e, hb, hc⟩ := hr.2 hn
  exact ⟨ad, e, hb, fun j u hj => cell_but h (hc j u hj) (by rw [block_of_add]; omega)⟩
/-- A reader's state: what is left, and whether something wasn't there. -/
def Rd (w : World) (g B : Nat) (r : List UInt8) (sh : Bool) : Prop := ∃ A m c, Blk w g 59 #[.slice A m c, .bool sh] ∧ Reads w B 1 A m (bL r) ∧ m ≤ c ∧ B ≤ g
theorem Rd.but {w w' : World} {g g' B : Nat} {r : List UInt8} {sh : Bool} (h : Rd w g B r sh) (hb : w.grownBy w' (some g')) (hne : g ≠ g') (hB : B ≤ g') : Rd w' g B r sh := by
  obtain ⟨A, m, c, h1, h2, h3, h4⟩ := h
  exact ⟨A, m, c, h1.grown hb (by simpa using hne), reads_but hb h2 hB, h3, h4⟩
def tk (r : List UInt8) (k : Nat) : List UInt8 := if r.length < k then List.replicate k 0 else r.take k
def dr (r : List UInt8) (k : Nat) : List UInt8 := if r.length < k then [] else r.drop k
theorem tk_len (r : List UInt8) (k : Nat) : (tk r k).length = k := by
  unfold tk; split
  · simp
  · rw [List.length_take]; omega
def RetTk (w : World) (g B : Nat) (r : List UInt8) (sh : Bool) (k : Nat) (e : Ending) (w' : World) : Prop :=
  ∃ A' c', e = .returned (.slice A' k c') ∧ k ≤ c' ∧ Reads w' w'.heap.size 1 A' k (bL (tk r k)) ∧ Rd w' g B (dr r k) (sh || decide (r.length < k)) ∧ w.grownBy w' (some g) ∧ (0 < k → ∀ ad, A' = some ad → ad.block ≠ g)
theorem zeros_cells (k : Nat) : madeCells #[.int .u8 0] k = bV (List.replicate k 0) := by
  apply Array.ext
  · simp [bV_size, size_madeCells]
  · intro j h1 h2
    have hj : j < k := by simpa [size_madeCells] using h1
    have : (bV (List.replicate k 0))[j]? = some (.int .u8 ((0 : UInt8).toNat : Int)) := bV_at (by simp [hj])
    rw [Array.getElem?_eq_getElem h2] at this
    rw [Option.some.inj this]
    simp [madeCells, Nat.mod_one]

set_option maxHeartbeats 2000000 in
theorem take_any (g B : Nat) (r : List UInt8) (sh : Bool) (k : Nat) (w : World) (h : Rd w g B r sh) (hk : k ≤ 100000) :
    Calls Try.prog 46 #[.pointer (some ⟨g, 0, none⟩), .int .i64 k] w (RetTk w g B r sh k) := by
  obtain ⟨A, m, c, hX, hr, hmc, hB⟩ := h
  have hl := hr.bytes_len
  have c0 : w.cell? ⟨g, 0, none⟩ = some (.slice A m c) := hX.cell 0
  have c1 : w.cell? ⟨g, 1, none⟩ = some (.bool sh) := hX.cell 1
  have f0 := hX.frozen 0
  have f1 := hX.frozen 1
  have k0 : (0 : Int) ≤ (k : Int) := by omega
  by_cases hs : m < k
  · obtain ⟨i0, hi0, hz0, hs0, hy0⟩ := int_info8 Try.infoB
    have mk0 : ∀ W, (Instr.makeSlice 28 (.int .i64 (k : Int)) (.int .i64 (k : Int))).run Try.prog W = .ok (.slice (some ⟨W.heap.size, 0, none⟩) k k) (W.alloc (.cells (bV (List.replicate k 0)) 5)) := by
      intro W
      have h := run_make (P := Try.prog) W 28 5 i0 (.int .u8 0) Try.underlying28 hi0 hz0 .i64 .i64 k k (by omega) (by omega) (by rw [hy0]; omega) (by omega)
      rw [hs0] at h
      rw [← zeros_cells k]
      simp only [Int.toNat_natCast, Nat.mul_one] at h
      exact h
    clear hi0 hz0 hs0 hy0
    have hsI : (m : Int) < (k : Int) := by omega
    have h1 := but_set w g 1 (.bool true)
    have h2 := but_set (w.setCell ⟨g, 1, none⟩ (.bool true)) g 0 (.slice none 0 0)
    have h3 := but_alloc ((w.setCell ⟨g, 1, none⟩ (.bool true)).setCell ⟨g, 0, none⟩ (.slice none 0 0)) g (.cells (bV (List.replicate k 0)) 5)
    have HB := Lib.hid (but_trans (but_trans h1 h2) h3)
    have X3 := Lib.hid (((hX.set_ 1 (.bool true)).set_ 0 (.slice none 0 0)).alloc (.cells (bV (List.replicate k 0)) 5))
    have hgl := hX.lt
    have htk : tk r k = List.replicate k 0 := by unfold tk; rw [if_pos (by omega)]
    have hdr : dr r k = [] := by unfold dr; rw [if_pos (by omega)]
    have hd : decide (r.length < k) = true := by simp; omega
    have HT := Lib.hid (And.intro htk (And.intro hdr hd))
    have hRr : Hid (∀ W : World, Reads (W.alloc (.cells (bV (List.replicate k 0)) 5)) (W.alloc (.cells (bV (List.replicate k 0)) 5)).heap.size 1 (some ⟨W.heap.size, 0, none⟩) k (bL (List.replicate k 0))) := Lib.hid fun W => (reads_new W (bV (List.replicate k 0)) 5 (by rw [bV_toList]) (by rw [bL_len]; simp)).more (by simp)
    clear h1 h2 h3 htk hdr hd hr
    go_enter Try.func46, Try.ntmps46
    go_wp2
    go_ret
    exact ⟨_, _, rfl, Nat.le_refl _, by rw [HT.out.1]; simpa using hRr.out ((w.setCell ⟨g, 1, none⟩ (.bool true)).setCell ⟨g, 0, none⟩ (.slice none 0 0)), by rw [HT.out.2.1, HT.out.2.2, Bool.or_true]; exact ⟨none, 0, 0, X3.out, Reads.none_, Nat.le_refl _, hB⟩, HB.out, fun _ ad h => by
      cases h
      simp [World.setCell]
      omega⟩
  · have hs' : k ≤ m := by omega
    have hsI : (k : Int) ≤ (m : Int) := by omega
    obtain ⟨A1, hc1, hr1⟩ := cutb_hi (A := A) (n := m) (c := c) .i64 k (k : Int) rfl hs' hmc
    obtain ⟨A2, hc2, hr2⟩ := cutb_lo (A := A) (n := m) (c := c) .i64 k (k : Int) rfl hs' hmc
    have htk : tk r k = r.take k := by unfold tk; rw [if_neg (by omega)]
    have hdr : dr r k = r.drop k := by unfold dr; rw [if_neg (by omega)]
    have hd : decide (r.length < k) = false := by simp; omega
    have HT := Lib.hid (And.intro htk (And.intro hdr hd))
    have HR := Lib.hid (And.intro (hr1 w B r hr) (hr2 w B r hr))
    have HX := Lib.hid hX
    clear hr1 hr2 htk hdr hd
    go_enter Try.func46, Try.ntmps46
    go_wp2
    go_ret
    exact ⟨A1, c, rfl, by omega, by rw [HT.out.1]; exact (reads_but (but_set _ _ _ _) HR.out.1 hB).more (by have := HX.out.lt; simp [World.setCell]; omega), by rw [HT.out.2.1, HT.out.2.2, Bool.or_false]; exact ⟨A2, m - k, c - k, HX.out.set_ 0 _, reads_but (but_set _ _ _ _) HR.out.2 hB, by omega, hB⟩, but_set _ _ _ _, fun h0 ad h => by
      obtain ⟨ad', e1, h2, _⟩ := HR.out.1.2 h0
      rw [e1] at h
      cases h
      omega⟩
end Go.Proofs.Ytflolnilagogpaa
