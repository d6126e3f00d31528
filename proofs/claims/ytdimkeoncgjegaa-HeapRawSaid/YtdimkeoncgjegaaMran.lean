/-
  Several texts in one: Ea Eb.
-/
import Derived.Test.YtdimkeoncgjegaaMram
import Derived.Test.YtdimkeoncgjegaaMrad
/-
  The reference's disk: take, Write, Take.
-/
namespace Go.Proofs.Ytdimkeoncgjegaa
section
open Go.RowKit

theorem tL_set (T : List Bool) (i : Nat) (b : Bool) : (tL T).set i (.bool b) = tL (T.set i b) := by simp [tL, List.map_set]
theorem sL_set (ps : List (List UInt8)) (i : Nat) (p : List UInt8) : (sL ps).set i (.string (str p)) = sL (ps.set i p) := by simp [sL, List.map_set]
/-- A row of the call's own that has elements: its head, a cell, a store. -/
theorem own_at {w : World} {base : Nat} {e : TypeId} {n c : Nat} {A : Option Addr} {xs : List Value} (h : w.ownsRow base e 1 (.slice A n c) n xs) (i : Nat) (hi : i < n) :
    ∃ g u, A = some ⟨g, 0, none⟩ ∧ base ≤ g ∧ g < w.heap.size ∧ w.cell? ⟨g, i, none⟩ = some u ∧ w.frozen? ⟨g, i, none⟩ = false ∧ ∀ u, (w.setCell ⟨g, i, none⟩ u).ownsRow base e 1 (.slice A n c) n (xs.set i u) := by
  obtain ⟨g, cap, hv, hb, hlt⟩ := World.ownsRow.form h (by omega)
  injection hv with hA _ hc
  subst hA; subst hc
  have hxl : xs.length = n * 1 := h.1
  exact ⟨g, xs[i]'(by omega), rfl, hb, hlt, by rw [h.cellAt i (by omega), List.getElem?_eq_getElem (by omega)], h.frozenAt i, fun u => (h.stored i u).1⟩
theorem own_far2 {w : World} {base : Nat} {e : TypeId} {size n : Nat} {v : Value} {xs : List Value} (h : w.ownsRow base e size v n xs) (g : Nat) (hg : g < base) (j : Nat) (u : Value) : (w.setCell ⟨g, j, none⟩ u).ownsRow base e size v n xs := by
  refine h.kept (row := some g) ⟨rfl, rfl, rfl, by simp [World.setCell], fun k hk hkg => Below.heap_setCell w _ u k (fun e' => hkg (by rw [e'])) ⟩ (.inr fun e' => ?_)
  have := (h.lt g e').1
  omega
theorem blk_far_grown {w w' : World} {base : Nat} {e : TypeId} {size n : Nat} {v : Value} {xs : List Value} {g : Nat} {t : TypeId} {cs : Array Value} (h : w.ownsRow base e size v n xs) (hb : Blk w g t cs) (hg : w.grownBy w' v.ownBlock) (hlt : g < base) : Blk w' g t cs :=
  hb.grown hg fun e' => by have := (h.lt g e'.symm).1; omega
/-- What take leaves: the pages as they were; new marks. -/
def RetTake (w : World) (A : Option Addr) (n c : Nat) (T : List Bool) (e : Ending) (w' : World) : Prop :=
  ∃ A2 c2, e = .returned (.agg #[.slice A n c, .slice A2 n c2]) ∧ Reads w' w'.heap.size 1 A2 n (tL T) ∧ n ≤ c2 ∧ (∀ ad, A2 = some ad → w.heap.size ≤ ad.block) ∧ Below w.heap.size w w'

set_option maxRecDepth 100000 in
set_option maxHeartbeats 2000000 in
theorem rtake_any {w : World} {n : Nat} (A : Option Addr) (c : Nat) (A2 : Option Addr) (c2 : Nat) (T : List Bool) (hr : Reads w w.heap.size 1 A2 n (tL T)) (hn : n ≤ 1000000) (i : Nat) (hi : i < n) :
    Calls Try.prog 66 #[.agg #[.slice A n c, .slice A2 n c2], .int .i64 i] w (RetTake w A n c (T.set i true)) := by
  obtain ⟨i1, hi1, hz1, hs1, hy1⟩ := int_info8 Try.infoBool
  have hX := Blk.new w 32 #[.slice A n c, .slice A2 n c2]
  have hX2 := (hX.alloc (.cells #[.slice none 0 0, .slice none 0 0] 32)).alloc (.cells #[] 4)
  have hR : Blk (((w.alloc (.cells #[.slice A n c, .slice A2 n c2] 32)).alloc (.cells #[.slice none 0 0, .slice none 0 0] 32)).alloc (.cells #[] 4)) (w.heap.size + 1) 32 #[.slice none 0 0, .slice none 0 0] := (Blk.newAt (by simp)).alloc _
  have hb := ball (ball (ball (Below.refl w.heap.size w) (.cells #[.slice A n c, .slice A2 n c2] 32)) (.cells #[.slice none 0 0, .slice none 0 0] 32)) (.cells #[] 4)
  have hown : (((w.alloc (.cells #[.slice A n c, .slice A2 n c2] 32)).alloc (.cells #[.slice none 0 0, .slice none 0 0] 32)).alloc (.cells #[] 4)).ownsRow (w.heap.size + 2) 4 1 (.slice (some ⟨w.heap.size + 1 + 1, 0, none⟩) 0 0) 0 [] := by
    have := own_empty ((w.alloc (.cells #[.slice A n c, .slice A2 n c2] 32)).alloc (.cells #[.slice none 0 0, .slice none 0 0] 32)) 4 1 (g := w.heap.size + 1 + 1) (by simp)
    simpa using this
  have hrr := hr.below hb
  have hz : (((w.alloc (.cells #[.slice A n c, .slice A2 n c2] 32)).alloc (.cells #[.slice none 0 0, .slice none 0 0] 32)).alloc (.cells #[] 4)).heap.size = w.heap.size + 3 := by simp
  obtain ⟨W3, hW3⟩ : ∃ W3, (((w.alloc (.cells #[.slice A n c, .slice A2 n c2] 32)).alloc (.cells #[.slice none 0 0, .slice none 0 0] 32)).alloc (.cells #[] 4)) = W3 := ⟨_, rfl⟩
  rw [hW3] at hX2 hR hb hown hrr hz
  have HW3 := Lib.hid hW3
  have HH := Lib.hid (And.intro hX2 (And.intro hR hb))
  have h3 : w.heap.size + 2 ≤ W3.heap.size := by omega
  have hiI : (i : Int) < (n : Int) := by omega
  have hi0 : (0 : Int) ≤ (i : Int) := by omega
  clear hW3 hX hr hX2 hR hb hz
  go_enter Try.func66, Try.ntmps66
  go_wp2_with (at_builtin; rw [HW3.out]; refine wpList_append_any _ rfl (.tmp 7) (.tmp 9) 30 rfl (w.heap.size + 2) 4 i1 (.bool false) 1 1 Try.underlying30 hi1 hz1 hs1 hy1 rfl (by decide) _ 0 [] rfl hown w.heap.size A2 n c2 (tL T) rfl hrr (tL_one T) (by unfold maxLen; omega) (by omega) h3 ?_; intro v' w4 hown4 hg4 _; simp only [Nat.zero_add, List.nil_append] at hown4; obtain ⟨A4, c4, rfl, hc4⟩ := own_form hown4; obtain ⟨g4, u4, rfl, hlo4, hlt4, d4, f4, hst4⟩ := own_at hown4 i hi; have X4 := blk_far_grown hown HH.out.1 hg4 (by omega); have R4 := blk_far_grown hown HH.out.2.1 hg4 (by omega); have x40 := X4.cell 0; have x41 := X4.cell 1; have xf1 := X4.frozen 1; have r40 := R4.cell 0; have r41 := R4.cell 1; have rf0 := R4.frozen 0; have rf1 := R4.frozen 1)
  have b4 : Below w.heap.size w w4 := HH.out.2.2.grown hg4 (by omega) fun k hk => by have := (hown.lt k hk).1; omega
  have q := own_far2 (own_far2 (own_far2 (hst4 (.bool true)) w.heap.size (by omega) 1 (.slice (some ⟨g4, 0, none⟩) n c4)) (w.heap.size + 1) (by omega) 0 (.slice A n c)) (w.heap.size + 1) (by omega) 1 (.slice (some ⟨g4, 0, none⟩) n c4)
  rw [tL_set] at q
  have ne1 : ¬ g4 = w.heap.size + 1 := by omega
  have ne2 : ¬ w.heap.size = w.heap.size + 1 := by omega
  exact bodyPost_ret (v := .agg #[.slice A n c, .slice (some ⟨g4, 0, none⟩) n c4]) (by simp [results, Try.results66, go_sem, r40, r41]) rfl
    ⟨_, c4, rfl, Reads.of_own q, hc4, fun ad h => by cases h; show w.heap.size ≤ g4; omega, (((b4.setCell (show w.heap.size ≤ (⟨g4, i, none⟩ : Addr).block from (by show w.heap.size ≤ g4; omega)) _).setCell (show w.heap.size ≤ (⟨w.heap.size, 1, none⟩ : Addr).block by simp) _).setCell (show w.heap.size ≤ (⟨w.heap.size + 1, 0, none⟩ : Addr).block by simp) _).setCell (show w.heap.size ≤ (⟨w.heap.size + 1, 1, none⟩ : Addr).block by simp) _⟩
end
end Go.Proofs.Ytdimkeoncgjegaa
/-
  The disk's Write, Take, with its pages as lists; the reference's Write, Take.
-/
namespace Go.Proofs.Ytdimkeoncgjegaa
section
open Go.RowKit

/-- What an operation leaves: the disk with these pages and marks; every other block as it was. -/
def Left (w w' : World) (g gb gt n : Nat) (ps : List (List UInt8)) (T : List Bool) : Prop :=
  DP w' g gb gt n ps T ∧ (∀ B, B ≤ gb → B ≤ gt → Below B w w') ∧ (∀ g', g' ≠ gb → g' ≠ gt → w'.heap[g']? = w.heap[g']?) ∧ w'.heap.size = w.heap.size
theorem writeDP {w : World} {g gb gt n : Nat} {ps : List (List UInt8)} {T : List Bool} (h : DP w g gb gt n ps T) (p : Nat) (hp : p < n) (hn : n ≤ 1000000) (ad : Addr) (c B : Nat) (q : List UInt8) (hr : Reads w B 1 (some ad) 512 (bL q)) :
    Calls Try.prog 28 #[.pointer (some ⟨g, 0, none⟩), .int .u32 p, .slice (some ad) 512 c] w fun e w' => e = .returned (.int .i64 0) ∧ Left w w' g gb gt n (ps.set p q) (T.set p true) := by
  have hT := h.hT
  have hql : q.length = 512 := hr.bytes_len
  refine (write_ok h.dk p hp hn ad c B (bL q) hr (bL_one q) (.bool (T[p]'(by omega))) (tV_at (List.getElem?_eq_getElem (by omega)))).mono ?_
  rintro e w' ⟨rfl, rfl⟩
  have hfl := pflat_len ps h.full
  rw [splice_bV, pflat_set ps h.full p q (by rw [h.hp]; exact hp) hql]
  have hf2 := full_set h.full p hql
  have h1 := h.dk.wrote (new := bV (ps.set p q).flatten) (by rw [bV_size, pflat_len _ hf2, List.length_set, h.hp])
  refine ⟨rfl, ⟨by rw [← tV_set]; exact h1.mark p _, hf2, by rw [List.length_set, h.hp]⟩, ?_, ?_, ?_⟩
  · intro B h1 h2
    exact (below_setRow (Below.refl _ _) h1 _).setCell h2 _
  · intro g' h1 h2
    exact (Below.heap_setCell _ _ _ _ h2).trans (setRow_other _ _ _ _ h1)
  · simp [World.setCell, World.setRow]
theorem write_outDP {w : World} {g gb gt n : Nat} {ps : List (List UInt8)} {T : List Bool} (h : DP w g gb gt n ps T) (p : Nat) (hp : n ≤ p) (hp2 : (p : Int) ≤ 4294967295) (hn : n ≤ 1000000) (v : Value) :
    Calls Try.prog 28 #[.pointer (some ⟨g, 0, none⟩), .int .u32 p, v] w fun e w' => e = .returned (.int .i64 8) ∧ w = w' := write_out h.dk p hp (by omega) hn v
theorem write_short {w : World} {g gb gt n : Nat} {ps : List (List UInt8)} {T : List Bool} (h : DP w g gb gt n ps T) (p : Nat) (hp : p < n) (hn : n ≤ 1000000) (A : Option Addr) (c : Nat) :
    Calls Try.prog 28 #[.pointer (some ⟨g, 0, none⟩), .int .u32 p, .slice A 511 c] w fun e w' => e = .returned (.int .i64 1) ∧ w = w' := by
  have HB := Lib.hid (has_any h.dk p (by omega) (by omega) hn)
  have hd : decide (p < n) = true := decide_eq_true hp
  clear h
  go_enter Try.func28, Try.ntmps28
  go_wp2_with (go_at_call 49; refine HB.out.mono ?_; rintro e w' ⟨rfl, rfl⟩)
  go_ret
  exact ⟨rfl, rfl⟩
theorem takeDP {w : World} {g gb gt n : Nat} {ps : List (List UInt8)} {T : List Bool} (h : DP w g gb gt n ps T) (hn : n ≤ 1000000) (i : Nat) (hi : T[i]? = some false) (hj : ∀ j : Nat, j < i → T[j]? = some true) :
    Calls Try.prog 23 #[.pointer (some ⟨g, 0, none⟩)] w fun e w' => e = .returned (.tuple #[.int .u32 i, .int .i64 0]) ∧ Left w w' g gb gt n ps (T.set i true) := by
  refine (take_at h.dk hn i (tV_at hi) (fun j h => tV_at (hj j h))).mono ?_
  rintro e w' ⟨rfl, rfl⟩
  refine ⟨rfl, h.mark i true, ?_, ?_, ?_⟩
  · intro B h1 h2
    exact (Below.refl _ _).setCell h2 _
  · intro g' h1 h2
    exact Below.heap_setCell _ _ _ _ h2
  · simp [World.setCell]
theorem take_fullDP {w : World} {g gb gt n : Nat} {ps : List (List UInt8)} {T : List Bool} (h : DP w g gb gt n ps T) (hn : n ≤ 1000000) (hj : ∀ j : Nat, j < n → T[j]? = some true) :
    Calls Try.prog 23 #[.pointer (some ⟨g, 0, none⟩)] w fun e w' => e = .returned (.tuple #[.int .u32 0, .int .i64 7]) ∧ w = w' :=
  take_full h.dk hn (fun j h => tV_at (hj j h))

theorem reads_far {w : World} {size n : Nat} {A : Option Addr} {xs : List Value} (h : Reads w w.heap.size size A n xs) {p : Addr} (hp : ∀ ad, A = some ad → ad.block ≠ p.block) (u : Value) : Reads (w.setCell p u) (w.setCell p u).heap.size size A n xs := by
  have e : (w.setCell p u).heap.size = w.heap.size := by simp [World.setCell]
  rw [e]
  exact h.same_ fun ad hA _ => Below.heap_setCell _ _ _ _ (hp ad hA)
/-- What the reference's Take leaves. -/
def RetTk (w : World) (A : Option Addr) (n c : Nat) (i : Nat) (T : List Bool) (e : Ending) (w' : World) : Prop :=
  ∃ A2 c2, e = .returned (.tuple #[.int .u32 i, .int .i64 0, .agg #[.slice A n c, .slice A2 n c2]]) ∧ Reads w' w'.heap.size 1 A2 n (tL T) ∧ n ≤ c2 ∧ (∀ ad, A2 = some ad → w.heap.size ≤ ad.block) ∧ Below w.heap.size w w'
set_option maxRecDepth 100000 in
set_option maxHeartbeats 2000000 in
theorem rTake_at {w : World} {n : Nat} (A : Option Addr) (c : Nat) (A2 : Option Addr) (c2 : Nat) (T : List Bool) (hr : Reads w w.heap.size 1 A2 n (tL T)) (hn : n ≤ 1000000) (i : Nat) (hi : T[i]? = some false) (hj : ∀ j : Nat, j < i → T[j]? = some true) :
    Calls Try.prog 51 #[.agg #[.slice A n c, .slice A2 n c2]] w (RetTk w A n c i (T.set i true)) := by
  have hT : T.length = n := by have := hr.1; rw [tL_len] at this; omega
  have hin : i < n := by rw [← hT]; exact lt_of_at hi
  have HJ := Lib.hid (And.intro hi hj)
  have hX := (Blk.new w 32 #[.slice A n c, .slice A2 n c2]).alloc (.cells #[.slice none 0 0, .slice none 0 0] 32)
  have hR : Blk ((w.alloc (.cells #[.slice A n c, .slice A2 n c2] 32)).alloc (.cells #[.slice none 0 0, .slice none 0 0] 32)) (w.heap.size + 1) 32 #[.slice none 0 0, .slice none 0 0] := Blk.newAt (by simp)
  have hb := ball (ball (Below.refl w.heap.size w) (.cells #[.slice A n c, .slice A2 n c2] 32)) (.cells #[.slice none 0 0, .slice none 0 0] 32)
  have hrr := hr.below hb
  have hz : ((w.alloc (.cells #[.slice A n c, .slice A2 n c2] 32)).alloc (.cells #[.slice none 0 0, .slice none 0 0] 32)).heap.size = w.heap.size + 2 := by simp
  clear hi hj hr
  go_enter Try.func51, Try.ntmps51
  go_wp2_with fail
  obtain ⟨W2, hW2⟩ : ∃ W2, ((w.alloc (.cells #[.slice A n c, .slice A2 n c2] 32)).alloc (.cells #[.slice none 0 0, .slice none 0 0] 32)) = W2 := ⟨_, rfl⟩
  rw [hW2] at hX hR hb hrr hz ⊢
  clear hW2
  have c0 : W2.cell? ⟨w.heap.size, 0, none⟩ = some (.slice A n c) := hX.cell 0
  have c1 : W2.cell? ⟨w.heap.size, 1, none⟩ = some (.slice A2 n c2) := hX.cell 1
  have TK := Lib.hid (rtake_any A c A2 c2 T (hrr.more (by omega)) hn i hin)
  go_loop [9] (fun v => ∃ k : Nat, v = .int .i64 k ∧ k ≤ i) (fun v => i - (intOf v).toNat)
  case atStart => exact ⟨0, rfl, by omega⟩
  case round =>
    obtain ⟨k, rfl, hk⟩ := hrel
    have g1 : (0 : Int) ≤ (k : Int) := by omega
    have g2 : (k : Int) < (n : Int) := by omega
    obtain ⟨ad, b, rfl, _, hb1, d1⟩ := hrr.bit (k := k) (by omega)
    by_cases hki : k < i
    · obtain rfl : b = true := by
        have := HJ.out.2 k hki
        rw [hb1] at this
        exact Option.some.inj this
      clear hb1
      go_wp2
      go_round
      case rel => exact ⟨k + 1, by go_num, by omega⟩
      case measure => simp [intOf]; omega
    · obtain rfl : i = k := by omega
      obtain rfl : b = false := by
        have := HJ.out.1
        rw [hb1] at this
        exact Option.some.inj this
      clear hb1
      go_wp2_with fail
      refine TK.out.mono ?_
      rintro e w3 ⟨A3, c3, rfl, hr3, hc3, hlo3, hb3⟩
      have R3 := hR.below hb3 hR.lt
      have r0 : w3.cell? ⟨w.heap.size + 1, 0, none⟩ = some (.slice none 0 0) := R3.cell 0
      have r1 : w3.cell? ⟨w.heap.size + 1, 1, none⟩ = some (.slice none 0 0) := R3.cell 1
      have f0 := R3.frozen 0
      have f1 := R3.frozen 1
      have HF := Lib.hid (And.intro hr3 (And.intro hlo3 hb3))
      clear hr3 hlo3 hb3 R3
      go_wp2
      have q := reads_far (reads_far HF.out.1 (p := ⟨w.heap.size + 1, 0, none⟩) (fun ad h => by have := HF.out.2.1 ad h; show ad.block ≠ w.heap.size + 1; omega) (.slice A n c)) (p := ⟨w.heap.size + 1, 1, none⟩) (fun ad h => by have := HF.out.2.1 ad h; show ad.block ≠ w.heap.size + 1; omega) (.slice A3 n c3)
      exact bodyPost_ret (v := .tuple #[.int .u32 i, .int .i64 0, .agg #[.slice A n c, .slice A3 n c3]]) (by simp [results, Try.results51, go_sem, r0, r1]) rfl
        ⟨A3, c3, rfl, q, hc3, fun ad h => by have := HF.out.2.1 ad h; omega, ((bto0 hb HF.out.2.2).setCell (show w.heap.size ≤ (⟨w.heap.size + 1, 0, none⟩ : Addr).block by simp) _).setCell (show w.heap.size ≤ (⟨w.heap.size + 1, 1, none⟩ : Addr).block by simp) _⟩

set_option maxRecDepth 100000 in
set_option maxHeartbeats 2000000 in
theorem rTake_full {w : World} {n : Nat} (A : Option Addr) (c : Nat) (A2 : Option Addr) (c2 : Nat) (T : List Bool) (hr : Reads w w.heap.size 1 A2 n (tL T)) (hn : n ≤ 1000000) (hj : ∀ j : Nat, j < n → T[j]? = some true) :
    Calls Try.prog 51 #[.agg #[.slice A n c, .slice A2 n c2]] w (RetB w (.tuple #[.int .u32 0, .int .i64 7, .agg #[.slice A n c, .slice A2 n c2]])) := by
  have HJ := Lib.hid hj
  have hX := (Blk.new w 32 #[.slice A n c, .slice A2 n c2]).alloc (.cells #[.slice none 0 0, .slice none 0 0] 32)
  have hR : Blk ((w.alloc (.cells #[.slice A n c, .slice A2 n c2] 32)).alloc (.cells #[.slice none 0 0, .slice none 0 0] 32)) (w.heap.size + 1) 32 #[.slice none 0 0, .slice none 0 0] := Blk.newAt (by simp)
  have hb := ball (ball (Below.refl w.heap.size w) (.cells #[.slice A n c, .slice A2 n c2] 32)) (.cells #[.slice none 0 0, .slice none 0 0] 32)
  have hrr := hr.below hb
  clear hj hr
  go_enter Try.func51, Try.ntmps51
  go_wp2_with fail
  obtain ⟨W2, hW2⟩ : ∃ W2, ((w.alloc (.cells #[.slice A n c, .slice A2 n c2] 32)).alloc (.cells #[.slice none 0 0, .slice none 0 0] 32)) = W2 := ⟨_, rfl⟩
  rw [hW2] at hX hR hb hrr ⊢
  clear hW2
  have c0 : W2.cell? ⟨w.heap.size, 0, none⟩ = some (.slice A n c) := hX.cell 0
  have c1 : W2.cell? ⟨w.heap.size, 1, none⟩ = some (.slice A2 n c2) := hX.cell 1
  have r0 : W2.cell? ⟨w.heap.size + 1, 0, none⟩ = some (.slice none 0 0) := hR.cell 0
  have r1 : W2.cell? ⟨w.heap.size + 1, 1, none⟩ = some (.slice none 0 0) := hR.cell 1
  have f0 := hR.frozen 0
  have f1 := hR.frozen 1
  go_loop [9] (fun v => ∃ k : Nat, v = .int .i64 k ∧ k ≤ n) (fun v => n - (intOf v).toNat)
  case atStart => exact ⟨0, rfl, by omega⟩
  case round =>
    obtain ⟨k, rfl, hk⟩ := hrel
    have g1 : (0 : Int) ≤ (k : Int) := by omega
    by_cases hki : k < n
    · have g2 : (k : Int) < (n : Int) := by omega
      obtain ⟨ad, b, rfl, _, hb1, d1⟩ := hrr.bit (k := k) (by omega)
      obtain rfl : b = true := by
        have := HJ.out k hki
        rw [hb1] at this
        exact Option.some.inj this
      clear hb1
      go_wp2
      go_round
      case rel => exact ⟨k + 1, by go_num, by omega⟩
      case measure => simp [intOf]; omega
    · obtain rfl : n = k := by omega
      go_wp2_with fail
      go_region
      go_wp2
      exact bodyPost_ret (v := .tuple #[.int .u32 0, .int .i64 7, .agg #[.slice A n c, .slice A2 n c2]]) (by simp [results, Try.results51, go_sem, r0, r1]) rfl
        ⟨rfl, ((hb.setCell (show w.heap.size ≤ (⟨w.heap.size + 1, 0, none⟩ : Addr).block by simp) _).setCell (show w.heap.size ≤ (⟨w.heap.size + 1, 1, none⟩ : Addr).block by simp) _).drew⟩
end
end Go.Proofs.Ytdimkeoncgjegaa
