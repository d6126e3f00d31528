/-
  The reference's disk: take, Write, Take.
-/
import Derived.Test.YtcpbkaeilmabaaaDx
import Derived.Test.YtcpbkaeilmabaaaOp
namespace Go.Proofs.Ytcpbkaeilmabaaa
open Go.RowKit

theorem tL_set (T : List Bool) (i : Nat) (b : Bool) : (tL T).set i (.bool b) = tL (T.set i b) := by simp [tL, List.map_set]
theorem sL_set (ps : List (List UInt8)) (i : Nat) (p : List UInt8) : (sL ps).set i (.string (str p)) = sL (ps.set i p) := by simp [sL, List.map_set]
/-- A row of the call's own that has elements: its head, a cell, a store. -/
theorem own_at {w : World} {base : Nat} {e : TypeId} {n c : Nat} {A : Option Addr} {xs : List Value} (h : w.ownsRow base e 1 (.slice A n c) n xs) (i : Nat) (hi : i < n) :
    ∃ g u, A = some ⟨g, 0, none⟩ ∧ base ≤ g ∧ g < w.heap.size ∧ w.cell? ⟨g, i, none⟩ = some u ∧ w.frozen? ⟨g, i, none⟩ = false ∧ ∀ u, (w.setCell ⟨g, i, none⟩ u).ownsRow base e 1 (.slice A n c) n (xs.set i u) := by
  obtain ⟨g, cap, hv, hb, hlt⟩ := World.ownsRow.form h (by omega)
  injection hv with hA _ hc
  subst hA; subst hc
  have hxl : xs.length = n * 1 := h.1
  exact ⟨g, xs[i]'(by omega), rfl, hb, hlt, by rw [h.cellAt i (by omega), List.getElem?_eq_getElem (by omega)], h.frozenAt i, fun u => (h.stored i u).1⟩
theorem own_far2 {w : World} {base : Nat} {e : TypeId} {size n : Nat} {v : Value} {xs : List Value} (h : w.ownsRow base e size v n xs) (g : Nat) (hg : g < base) (j : Nat) (u : Value) : (w.setCell ⟨g, j, none⟩ u).ownsRow base e size v n xs := by
  refine h.kept (row := some g) ⟨rfl, rfl, rfl, by simp [World.setCell], fun k hk hkg => Below.heap_setCell w _ u k (fun e' => hkg (by rw [e'])) ⟩ (.inr fun e' => ?_)
  have := (h.lt g e').1
  omega
theorem blk_far_grown {w w' : World} {base : Nat} {e : TypeId} {size n : Nat} {v : Value} {xs : List Value} {g : Nat} {t : TypeId} {cs : Array Value} (h : w.ownsRow base e size v n xs) (hb : Blk w g t cs) (hg : w.grownBy w' v.ownBlock) (hlt : g < base) : Blk w' g t cs :=
  hb.grown hg fun e' => by have := (h.lt g e'.symm).1; omega
/-- What take leaves: the pages as they were; new marks. -/
def RetTake (w : World) (A : Option Addr) (n c : Nat) (T : List Bool) (e : Ending) (w' : World) : Prop :=
  ∃ A2 c2, e = .returned (.agg #[.slice A n c, .slice A2 n c2]) ∧ Reads w' w'.heap.size 1 A2 n (tL T) ∧ n ≤ c2 ∧ (∀ ad, A2 = some ad → w.heap.size ≤ ad.block) ∧ Below w.heap.size w w'

set_option maxRecDepth 100000 in
set_option maxHeartbeats 2000000 in
theorem rtake_any {w : World} {n : Nat} (A : Option Addr) (c : Nat) (A2 : Option Addr) (c2 : Nat) (T : List Bool) (hr : Reads w w.heap.size 1 A2 n (tL T)) (hn : n ≤ 1000000) (i : Nat) (hi : i < n) :
    Calls Try.prog 63 #[.agg #[.slice A n c, .slice A2 n c2], .int .i64 i] w (RetTake w A n c (T.set i true)) := by
  obtain ⟨i1, hi1, hz1, hs1, hy1⟩ := int_info8 Try.infoBool
  have hX := Blk.new w 31 #[.slice A n c, .slice A2 n c2]
  have hX2 := (hX.alloc (.cells #[.slice none 0 0, .slice none 0 0] 31)).alloc (.cells #[] 4)
  have hR : Blk (((w.alloc (.cells #[.slice A n c, .slice A2 n c2] 31)).alloc (.cells #[.slice none 0 0, .slice none 0 0] 31)).alloc (.cells #[] 4)) (w.heap.size + 1) 31 #[.slice none 0 0, .slice none 0 0] := (Blk.newAt (by simp)).alloc _
  have hb := ball (ball (ball (Below.refl w.heap.size w) (.cells #[.slice A n c, .slice A2 n c2] 31)) (.cells #[.slice none 0 0, .slice none 0 0] 31)) (.cells #[] 4)
  have hown : (((w.alloc (.cells #[.slice A n c, .slice A2 n c2] 31)).alloc (.cells #[.slice none 0 0, .slice none 0 0] 31)).alloc (.cells #[] 4)).ownsRow (w.heap.size + 2) 4 1 (.slice (some ⟨w.heap.size + 1 + 1, 0, none⟩) 0 0) 0 [] := by
    have := own_empty ((w.alloc (.cells #[.slice A n c, .slice A2 n c2] 31)).alloc (.cells #[.slice none 0 0, .slice none 0 0] 31)) 4 1 (g := w.heap.size + 1 + 1) (by simp)
    simpa using this
  have hrr := hr.below hb
  have hz : (((w.alloc (.cells #[.slice A n c, .slice A2 n c2] 31)).alloc (.cells #[.slice none 0 0, .slice none 0 0] 31)).alloc (.cells #[] 4)).heap.size = w.heap.size + 3 := by simp
  obtain ⟨W3, hW3⟩ : ∃ W3, (((w.alloc (.cells #[.slice A n c, .slice A2 n c2] 31)).alloc (.cells #[.slice none 0 0, .slice none 0 0] 31)).alloc (.cells #[] 4)) = W3 := ⟨_, rfl⟩
  rw [hW3] at hX2 hR hb hown hrr hz
  have HW3 := Lib.hid hW3
  have HH := Lib.hid (And.intro hX2 (And.intro hR hb))
  have h3 : w.heap.size + 2 ≤ W3.heap.size := by omega
  have hiI : (i : Int) < (n : Int) := by omega
  have hi0 : (0 : Int) ≤ (i : Int) := by omega
  clear hW3 hX hr hX2 hR hb hz
  go_enter Try.func63, Try.ntmps63
  go_wp2_with (at_builtin; rw [HW3.out]; refine wpList_append_any _ rfl (.tmp 7) (.tmp 9) 29 rfl (w.heap.size + 2) 4 i1 (.bool false) 1 1 Try.underlying29 hi1 hz1 hs1 hy1 rfl (by decide) _ 0 [] rfl hown w.heap.size A2 n c2 (tL T) rfl hrr (tL_one T) (by unfold maxLen; omega) (by omega) h3 ?_; intro v' w4 hown4 hg4 _; simp only [Nat.zero_add, List.nil_append] at hown4; obtain ⟨A4, c4, rfl, hc4⟩ := own_form hown4; obtain ⟨g4, u4, rfl, hlo4, hlt4, d4, f4, hst4⟩ := own_at hown4 i hi; have X4 := blk_far_grown hown HH.out.1 hg4 (by omega); have R4 := blk_far_grown hown HH.out.2.1 hg4 (by omega); have x40 := X4.cell 0; have x41 := X4.cell 1; have xf1 := X4.frozen 1; have r40 := R4.cell 0; have r41 := R4.cell 1; have rf0 := R4.frozen 0; have rf1 := R4.frozen 1)
  have b4 : Below w.heap.size w w4 := HH.out.2.2.grown hg4 (by omega) fun k hk => by have := (hown.lt k hk).1; omega
  have q := own_far2 (own_far2 (own_far2 (hst4 (.bool true)) w.heap.size (by omega) 1 (.slice (some ⟨g4, 0, none⟩) n c4)) (w.heap.size + 1) (by omega) 0 (.slice A n c)) (w.heap.size + 1) (by omega) 1 (.slice (some ⟨g4, 0, none⟩) n c4)
  rw [tL_set] at q
  have ne1 : ¬ g4 = w.heap.size + 1 := by omega
  have ne2 : ¬ w.heap.size = w.heap.size + 1 := by omega
  exact bodyPost_ret (v := .agg #[.slice A n c, .slice (some ⟨g4, 0, none⟩) n c4]) (by simp [results, Try.results63, go_sem, r40, r41]) rfl
    ⟨_, c4, rfl, Reads.of_own q, hc4, fun ad h => by cases h; show w.heap.size ≤ g4; omega, (((b4.setCell (show w.heap.size ≤ (⟨g4, i, none⟩ : Addr).block from (by show w.heap.size ≤ g4; omega)) _).setCell (show w.heap.size ≤ (⟨w.heap.size, 1, none⟩ : Addr).block by simp) _).setCell (show w.heap.size ≤ (⟨w.heap.size + 1, 0, none⟩ : Addr).block by simp) _).setCell (show w.heap.size ≤ (⟨w.heap.size + 1, 1, none⟩ : Addr).block by simp) _⟩
end Go.Proofs.Ytcpbkaeilmabaaa
