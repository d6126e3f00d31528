/-
  Several texts in one: Eb Ec Ed.
-/
import Derived.Test.YtdimkeoncgjegaaMbal
/-
  The disk's Write, Take, with its pages as lists; the reference's Write, Take.
-/
namespace Go.Proofs.Ytdimkeoncgjegaa
section
open Go.RowKit

/-- What an operation leaves: the disk with these pages and marks; every other block as it was. -/
def Left (w w' : World) (g gb gt n : Nat) (ps : List (List UInt8)) (T : List Bool) : Prop :=
  DP w' g gb gt n ps T ∧ (∀ B, B ≤ gb → B ≤ gt → Below B w w') ∧ (∀ g', g' ≠ gb → g' ≠ gt → w'.heap[g']? = w.heap[g']?) ∧ w'.heap.size = w.heap.size
theorem writeDP {w : World} {g gb gt n : Nat} {ps : List (List UInt8)} {T : List Bool} (h : DP w g gb gt n ps T) (p : Nat) (hp : p < n) (hn : n ≤ 1000000) (ad : Addr) (c B : Nat) (q : List UInt8) (hr : Reads w B 1 (some ad) 512 (bL q)) :
    Calls Try.prog 28 #[.pointer (some ⟨g, 0, none⟩), .int .u32 p, .slice (some ad) 512 c] w fun e w' => e = .returned (.int .i64 0) ∧ Left w w' g gb gt n (ps.set p q) (T.set p true) := by
  have hT := h.hT
  have hql : q.length = 512 := hr.bytes_len
  refine (write_ok h.dk p hp hn ad c B (bL q) hr (bL_one q) (.bool (T[p]'(by omega))) (tV_at (List.getElem?_eq_getElem (by omega)))).mono ?_
  rintro e w' ⟨rfl, rfl⟩
  have hfl := pflat_len ps h.full
  rw [splice_bV, pflat_set ps h.full p q (by rw [h.hp]; exact hp) hql]
  have hf2 := full_set h.full p hql
  have h1 := h.dk.wrote (new := bV (ps.set p q).flatten) (by rw [bV_size, pflat_len _ hf2, List.length_set, h.hp])
  refine ⟨rfl, ⟨by rw [← tV_set]; exact h1.mark p _, hf2, by rw [List.length_set, h.hp]⟩, ?_, ?_, ?_⟩
  · intro B h1 h2
    exact (below_setRow (Below.refl _ _) h1 _).setCell h2 _
  · intro g' h1 h2
    exact (Below.heap_setCell _ _ _ _ h2).trans (setRow_other _ _ _ _ h1)
  · simp [World.setCell, World.setRow]
theorem write_outDP {w : World} {g gb gt n : Nat} {ps : List (List UInt8)} {T : List Bool} (h : DP w g gb gt n ps T) (p : Nat) (hp : n ≤ p) (hp2 : (p : Int) ≤ 4294967295) (hn : n ≤ 1000000) (v : Value) :
    Calls Try.prog 28 #[.pointer (some ⟨g, 0, none⟩), .int .u32 p, v] w fun e w' => e = .returned (.int .i64 8) ∧ w = w' := write_out h.dk p hp (by omega) hn v
theorem write_short {w : World} {g gb gt n : Nat} {ps : List (List UInt8)} {T : List Bool} (h : DP w g gb gt n ps T) (p : Nat) (hp : p < n) (hn : n ≤ 1000000) (A : Option Addr) (c : Nat) :
    Calls Try.prog 28 #[.pointer (some ⟨g, 0, none⟩), .int .u32 p, .slice A 511 c] w fun e w' => e = .returned (.int .i64 1) ∧ w = w' := by
  have HB := Lib.hid (has_any h.dk p (by omega) (by omega) hn)
  have hd : decide (p < n) = true := decide_eq_true hp
  clear h
  go_enter Try.func28, Try.ntmps28
  go_wp2_with (go_at_call 49; refine HB.out.mono ?_; rintro e w' ⟨rfl, rfl⟩)
  go_ret
  exact ⟨rfl, rfl⟩
theorem takeDP {w : World} {g gb gt n : Nat} {ps : List (List UInt8)} {T : List Bool} (h : DP w g gb gt n ps T) (hn : n ≤ 1000000) (i : Nat) (hi : T[i]? = some false) (hj : ∀ j : Nat, j < i → T[j]? = some true) :
    Calls Try.prog 23 #[.pointer (some ⟨g, 0, none⟩)] w fun e w' => e = .returned (.tuple #[.int .u32 i, .int .i64 0]) ∧ Left w w' g gb gt n ps (T.set i true) := by
  refine (take_at h.dk hn i (tV_at hi) (fun j h => tV_at (hj j h))).mono ?_
  rintro e w' ⟨rfl, rfl⟩
  refine ⟨rfl, h.mark i true, ?_, ?_, ?_⟩
  · intro B h1 h2
    exact (Below.refl _ _).setCell h2 _
  · intro g' h1 h2
    exact Below.heap_setCell _ _ _ _ h2
  · simp [World.setCell]
theorem take_fullDP {w : World} {g gb gt n : Nat} {ps : List (List UInt8)} {T : List Bool} (h : DP w g gb gt n ps T) (hn : n ≤ 1000000) (hj : ∀ j : Nat, j < n → T[j]? = some true) :
    Calls Try.prog 23 #[.pointer (some ⟨g, 0, none⟩)] w fun e w' => e = .returned (.tuple #[.int .u32 0, .int .i64 7]) ∧ w = w' :=
  take_full h.dk hn (fun j h => tV_at (hj j h))

theorem reads_far {w : World} {size n : Nat} {A : Option Addr} {xs : List Value} (h : Reads w w.heap.size size A n xs) {p : Addr} (hp : ∀ ad, A = some ad → ad.block ≠ p.block) (u : Value) : Reads (w.setCell p u) (w.setCell p u).heap.size size A n xs := by
  have e : (w.setCell p u).heap.size = w.heap.size := by simp [World.setCell]
  rw [e]
  exact h.same_ fun ad hA _ => Below.heap_setCell _ _ _ _ (hp ad hA)
/-- What the reference's Take leaves. -/
def RetTk (w : World) (A : Option Addr) (n c : Nat) (i : Nat) (T : List Bool) (e : Ending) (w' : World) : Prop :=
  ∃ A2 c2, e = .returned (.tuple #[.int .u32 i, .int .i64 0, .agg #[.slice A n c, .slice A2 n c2]]) ∧ Reads w' w'.heap.size 1 A2 n (tL T) ∧ n ≤ c2 ∧ (∀ ad, A2 = some ad → w.heap.size ≤ ad.block) ∧ Below w.heap.size w w'
set_option maxRecDepth 100000 in
set_option maxHeartbeats 2000000 in
theorem rTake_at {w : World} {n : Nat} (A : Option Addr) (c : Nat) (A2 : Option Addr) (c2 : Nat) (T : List Bool) (hr : Reads w w.heap.size 1 A2 n (tL T)) (hn : n ≤ 1000000) (i : Nat) (hi : T[i]? = some false) (hj : ∀ j : Nat, j < i → T[j]? = some true) :
    Calls Try.prog 51 #[.agg #[.slice A n c, .slice A2 n c2]] w (RetTk w A n c i (T.set i true)) := by
  have hT : T.length = n := by have := hr.1; rw [tL_len] at this; omega
  have hin : i < n := by rw [← hT]; exact lt_of_at hi
  have HJ := Lib.hid (And.intro hi hj)
  have hX := (Blk.new w 32 #[.slice A n c, .slice A2 n c2]).alloc (.cells #[.slice none 0 0, .slice none 0 0] 32)
  have hR : Blk ((w.alloc (.cells #[.slice A n c, .slice A2 n c2] 32)).alloc (.cells #[.slice none 0 0, .slice none 0 0] 32)) (w.heap.size + 1) 32 #[.slice none 0 0, .slice none 0 0] := Blk.newAt (by simp)
  have hb := ball (ball (Below.refl w.heap.size w) (.cells #[.slice A n c, .slice A2 n c2] 32)) (.cells #[.slice none 0 0, .slice none 0 0] 32)
  have hrr := hr.below hb
  have hz : ((w.alloc (.cells #[.slice A n c, .slice A2 n c2] 32)).alloc (.cells #[.slice none 0 0, .slice none 0 0] 32)).heap.size = w.heap.size + 2 := by simp
  clear hi hj hr
  go_enter Try.func51, Try.ntmps51
  go_wp2_with fail
  obtain ⟨W2, hW2⟩ : ∃ W2, ((w.alloc (.cells #[.slice A n c, .slice A2 n c2] 32)).alloc (.cells #[.slice none 0 0, .slice none 0 0] 32)) = W2 := ⟨_, rfl⟩
  rw [hW2] at hX hR hb hrr hz ⊢
  clear hW2
  have c0 : W2.cell? ⟨w.heap.size, 0, none⟩ = some (.slice A n c) := hX.cell 0
  have c1 : W2.cell? ⟨w.heap.size, 1, none⟩ = some (.slice A2 n c2) := hX.cell 1
  have TK := Lib.hid (rtake_any A c A2 c2 T (hrr.more (by omega)) hn i hin)
  go_loop [9] (fun v => ∃ k : Nat, v = .int .i64 k ∧ k ≤ i) (fun v => i - (intOf v).toNat)
  case atStart => exact ⟨0, rfl, by omega⟩
  case round =>
    obtain ⟨k, rfl, hk⟩ := hrel
    have g1 : (0 : Int) ≤ (k : Int) := by omega
    have g2 : (k : Int) < (n : Int) := by omega
    obtain ⟨ad, b, rfl, _, hb1, d1⟩ := hrr.bit (k := k) (by omega)
    by_cases hki : k < i
    · obtain rfl : b = true := by
        have := HJ.out.2 k hki
        rw [hb1] at this
        exact Option.some.inj this
      clear hb1
      go_wp2
      go_round
      case rel => exact ⟨k + 1, by go_num, by omega⟩
      case measure => simp [intOf]; omega
    · obtain rfl : i = k := by omega
      obtain rfl : b = false := by
        have := HJ.out.1
        rw [hb1] at this
        exact Option.some.inj this
      clear hb1
      go_wp2_with fail
      refine TK.out.mono ?_
      rintro e w3 ⟨A3, c3, rfl, hr3, hc3, hlo3, hb3⟩
      have R3 := hR.below hb3 hR.lt
      have r0 : w3.cell? ⟨w.heap.size + 1, 0, none⟩ = some (.slice none 0 0) := R3.cell 0
      have r1 : w3.cell? ⟨w.heap.size + 1, 1, none⟩ = some (.slice none 0 0) := R3.cell 1
      have f0 := R3.frozen 0
      have f1 := R3.frozen 1
      have HF := Lib.hid (And.intro hr3 (And.intro hlo3 hb3))
      clear hr3 hlo3 hb3 R3
      go_wp2
      have q := reads_far (reads_far HF.out.1 (p := ⟨w.heap.size + 1, 0, none⟩) (fun ad h => by have := HF.out.2.1 ad h; show ad.block ≠ w.heap.size + 1; omega) (.slice A n c)) (p := ⟨w.heap.size + 1, 1, none⟩) (fun ad h => by have := HF.out.2.1 ad h; show ad.block ≠ w.heap.size + 1; omega) (.slice A3 n c3)
      exact bodyPost_ret (v := .tuple #[.int .u32 i, .int .i64 0, .agg #[.slice A n c, .slice A3 n c3]]) (by simp [results, Try.results51, go_sem, r0, r1]) rfl
        ⟨A3, c3, rfl, q, hc3, fun ad h => by have := HF.out.2.1 ad h; omega, ((bto0 hb HF.out.2.2).setCell (show w.heap.size ≤ (⟨w.heap.size + 1, 0, none⟩ : Addr).block by simp) _).setCell (show w.heap.size ≤ (⟨w.heap.size + 1, 1, none⟩ : Addr).block by simp) _⟩

set_option maxRecDepth 100000 in
set_option maxHeartbeats 2000000 in
theorem rTake_full {w : World} {n : Nat} (A : Option Addr) (c : Nat) (A2 : Option Addr) (c2 : Nat) (T : List Bool) (hr : Reads w w.heap.size 1 A2 n (tL T)) (hn : n ≤ 1000000) (hj : ∀ j : Nat, j < n → T[j]? = some true) :
    Calls Try.prog 51 #[.agg #[.slice A n c, .slice A2 n c2]] w (RetB w (.tuple #[.int .u32 0, .int .i64 7, .agg #[.slice A n c, .slice A2 n c2]])) := by
  have HJ := Lib.hid hj
  have hX := (Blk.new w 32 #[.slice A n c, .slice A2 n c2]).alloc (.cells #[.slice none 0 0, .slice none 0 0] 32)
  have hR : Blk ((w.alloc (.cells #[.slice A n c, .slice A2 n c2] 32)).alloc (.cells #[.slice none 0 0, .slice none 0 0] 32)) (w.heap.size + 1) 32 #[.slice none 0 0, .slice none 0 0] := Blk.newAt (by simp)
  have hb := ball (ball (Below.refl w.heap.size w) (.cells #[.slice A n c, .slice A2 n c2] 32)) (.cells #[.slice none 0 0, .slice none 0 0] 32)
  have hrr := hr.below hb
  clear hj hr
  go_enter Try.func51, Try.ntmps51
  go_wp2_with fail
  obtain ⟨W2, hW2⟩ : ∃ W2, ((w.alloc (.cells #[.slice A n c, .slice A2 n c2] 32)).alloc (.cells #[.slice none 0 0, .slice none 0 0] 32)) = W2 := ⟨_, rfl⟩
  rw [hW2] at hX hR hb hrr ⊢
  clear hW2
  have c0 : W2.cell? ⟨w.heap.size, 0, none⟩ = some (.slice A n c) := hX.cell 0
  have c1 : W2.cell? ⟨w.heap.size, 1, none⟩ = some (.slice A2 n c2) := hX.cell 1
  have r0 : W2.cell? ⟨w.heap.size + 1, 0, none⟩ = some (.slice none 0 0) := hR.cell 0
  have r1 : W2.cell? ⟨w.heap.size + 1, 1, none⟩ = some (.slice none 0 0) := hR.cell 1
  have f0 := hR.frozen 0
  have f1 := hR.frozen 1
  go_loop [9] (fun v => ∃ k : Nat, v = .int .i64 k ∧ k ≤ n) (fun v => n - (intOf v).toNat)
  case atStart => exact ⟨0, rfl, by omega⟩
  case round =>
    obtain ⟨k, rfl, hk⟩ := hrel
    have g1 : (0 : Int) ≤ (k : Int) := by omega
    by_cases hki : k < n
    · have g2 : (k : Int) < (n : Int) := by omega
      obtain ⟨ad, b, rfl, _, hb1, d1⟩ := hrr.bit (k := k) (by omega)
      obtain rfl : b = true := by
        have := HJ.out k hki
        rw [hb1] at this
        exact Option.some.inj this
      clear hb1
      go_wp2
      go_round
      case rel => exact ⟨k + 1, by go_num, by omega⟩
      case measure => simp [intOf]; omega
    · obtain rfl : n = k := by omega
      go_wp2_with fail
      go_region
      go_wp2
      exact bodyPost_ret (v := .tuple #[.int .u32 0, .int .i64 7, .agg #[.slice A n c, .slice A2 n c2]]) (by simp [results, Try.results51, go_sem, r0, r1]) rfl
        ⟨rfl, ((hb.setCell (show w.heap.size ≤ (⟨w.heap.size + 1, 0, none⟩ : Addr).block by simp) _).setCell (show w.heap.size ≤ (⟨w.heap.size + 1, 1, none⟩ : Addr).block by simp) _).drew⟩
end
end Go.Proofs.Ytdimkeoncgjegaa
/-
  The reference's Write.
-/
namespace Go.Proofs.Ytdimkeoncgjegaa
section
open Go.RowKit

theorem own_kept_below {w w' : World} {base : Nat} {e : TypeId} {size n : Nat} {v : Value} {xs : List Value} (h : w.ownsRow base e size v n xs) (hb : Below w.heap.size w w') : w'.ownsRow base e size v n xs :=
  World.ownsRow.kept h (row := none) ⟨hb.os, hb.tape, hb.output, hb.size, fun i hi _ => hb.block i hi⟩ (by cases h' : v.ownBlock <;> simp)
set_option maxRecDepth 100000 in
set_option maxHeartbeats 2000000 in
theorem rwrite_bad {w : World} {n : Nat} (A : Option Addr) (c : Nat) (A2 : Option Addr) (c2 : Nat) (hn : n ≤ 1000000) (p : Nat) (hp : p ≤ 4294967295) (s : ByteArray) (m : Nat) (hs : s.size = m) (E : Int) (h : (n ≤ p ∧ E = 8) ∨ (p < n ∧ m ≠ 512 ∧ E = 1)) :
    Calls Try.prog 53 #[.agg #[.slice A n c, .slice A2 n c2], .int .u32 p, .string s] w (RetB w (.tuple #[.int .i64 E, .agg #[.slice A n c, .slice A2 n c2]])) := by
  have hX := (Blk.new w 32 #[.slice A n c, .slice A2 n c2]).alloc (.cells #[.slice none 0 0, .slice none 0 0] 32)
  have hR : Blk ((w.alloc (.cells #[.slice A n c, .slice A2 n c2] 32)).alloc (.cells #[.slice none 0 0, .slice none 0 0] 32)) (w.heap.size + 1) 32 #[.slice none 0 0, .slice none 0 0] := Blk.newAt (by simp)
  have hb := ball (ball (Below.refl w.heap.size w) (.cells #[.slice A n c, .slice A2 n c2] 32)) (.cells #[.slice none 0 0, .slice none 0 0] 32)
  have hnI : (n : Int) ≤ 1000000 := by omega
  rcases h with ⟨h1, rfl⟩ | ⟨h1, h2, rfl⟩
  · have g1 : (n : Int) ≤ (p : Int) := by omega
    have g3 : (p : Int) ≤ 4294967295 := by omega
    clear h1 hp
    go_enter Try.func53, Try.ntmps53
    go_wp2_with fail
    obtain ⟨W2, hW2⟩ : ∃ W2, ((w.alloc (.cells #[.slice A n c, .slice A2 n c2] 32)).alloc (.cells #[.slice none 0 0, .slice none 0 0] 32)) = W2 := ⟨_, rfl⟩
    rw [hW2] at hX hR hb ⊢
    clear hW2
    have c0 : W2.cell? ⟨w.heap.size, 0, none⟩ = some (.slice A n c) := hX.cell 0
    have c1 : W2.cell? ⟨w.heap.size, 1, none⟩ = some (.slice A2 n c2) := hX.cell 1
    have r0 : W2.cell? ⟨w.heap.size + 1, 0, none⟩ = some (.slice none 0 0) := hR.cell 0
    have r1 : W2.cell? ⟨w.heap.size + 1, 1, none⟩ = some (.slice none 0 0) := hR.cell 1
    have f0 := hR.frozen 0
    have f1 := hR.frozen 1
    go_region
    go_wp2
    exact bodyPost_ret (v := .tuple #[.int .i64 8, .agg #[.slice A n c, .slice A2 n c2]]) (by simp [results, Try.results53, go_sem, r0, r1]) rfl
      ⟨rfl, ((hb.setCell (show w.heap.size ≤ (⟨w.heap.size + 1, 0, none⟩ : Addr).block by simp) _).setCell (show w.heap.size ≤ (⟨w.heap.size + 1, 1, none⟩ : Addr).block by simp) _).drew⟩
  · have g1 : (p : Int) < (n : Int) := by omega
    have g2 : ((m : Int) != 512) = true := by simp; omega
    have g3 : (p : Int) ≤ 4294967295 := by omega
    clear h1 h2 hp
    go_enter Try.func53, Try.ntmps53
    go_wp2_with fail
    obtain ⟨W2, hW2⟩ : ∃ W2, ((w.alloc (.cells #[.slice A n c, .slice A2 n c2] 32)).alloc (.cells #[.slice none 0 0, .slice none 0 0] 32)) = W2 := ⟨_, rfl⟩
    rw [hW2] at hX hR hb ⊢
    clear hW2
    have c0 : W2.cell? ⟨w.heap.size, 0, none⟩ = some (.slice A n c) := hX.cell 0
    have c1 : W2.cell? ⟨w.heap.size, 1, none⟩ = some (.slice A2 n c2) := hX.cell 1
    have r0 : W2.cell? ⟨w.heap.size + 1, 0, none⟩ = some (.slice none 0 0) := hR.cell 0
    have r1 : W2.cell? ⟨w.heap.size + 1, 1, none⟩ = some (.slice none 0 0) := hR.cell 1
    have f0 := hR.frozen 0
    have f1 := hR.frozen 1
    go_region
    go_wp2
    exact bodyPost_ret (v := .tuple #[.int .i64 1, .agg #[.slice A n c, .slice A2 n c2]]) (by simp [results, Try.results53, go_sem, r0, r1]) rfl
      ⟨rfl, ((hb.setCell (show w.heap.size ≤ (⟨w.heap.size + 1, 0, none⟩ : Addr).block by simp) _).setCell (show w.heap.size ≤ (⟨w.heap.size + 1, 1, none⟩ : Addr).block by simp) _).drew⟩

/-- What the reference's Write leaves. -/
def RetWr (w : World) (n : Nat) (ps : List (List UInt8)) (T : List Bool) (e : Ending) (w' : World) : Prop :=
  ∃ A c A2 c2, e = .returned (.tuple #[.int .i64 0, .agg #[.slice A n c, .slice A2 n c2]]) ∧ Reads w' w'.heap.size 1 A n (sL ps) ∧ Reads w' w'.heap.size 1 A2 n (tL T) ∧ n ≤ c ∧ n ≤ c2 ∧
    (∀ ad, A = some ad → w.heap.size ≤ ad.block) ∧ (∀ ad, A2 = some ad → w.heap.size ≤ ad.block) ∧ Below w.heap.size w w'
set_option maxRecDepth 100000 in
set_option maxHeartbeats 2000000 in
theorem rwrite_ok {w : World} {n : Nat} (A : Option Addr) (c : Nat) (A2 : Option Addr) (c2 : Nat) (ps : List (List UInt8)) (T : List Bool) (hr1 : Reads w w.heap.size 1 A n (sL ps)) (hr : Reads w w.heap.size 1 A2 n (tL T)) (hn : n ≤ 1000000) (p : Nat) (hp : p < n) (q : List UInt8) (hq : q.length = 512) :
    Calls Try.prog 53 #[.agg #[.slice A n c, .slice A2 n c2], .int .u32 p, .string (str q)] w (RetWr w n (ps.set p q) (T.set p true)) := by
  obtain ⟨i1, hi1, hz1, hs1, hy1⟩ := int_info8 Try.infoS
  have hX := Blk.new w 32 #[.slice A n c, .slice A2 n c2]
  have hX2 := (hX.alloc (.cells #[.slice none 0 0, .slice none 0 0] 32)).alloc (.cells #[] 9)
  have hR : Blk (((w.alloc (.cells #[.slice A n c, .slice A2 n c2] 32)).alloc (.cells #[.slice none 0 0, .slice none 0 0] 32)).alloc (.cells #[] 9)) (w.heap.size + 1) 32 #[.slice none 0 0, .slice none 0 0] := (Blk.newAt (by simp)).alloc _
  have hb := ball (ball (ball (Below.refl w.heap.size w) (.cells #[.slice A n c, .slice A2 n c2] 32)) (.cells #[.slice none 0 0, .slice none 0 0] 32)) (.cells #[] 9)
  have hown : (((w.alloc (.cells #[.slice A n c, .slice A2 n c2] 32)).alloc (.cells #[.slice none 0 0, .slice none 0 0] 32)).alloc (.cells #[] 9)).ownsRow (w.heap.size + 2) 9 1 (.slice (some ⟨w.heap.size + 1 + 1, 0, none⟩) 0 0) 0 [] := by
    have := own_empty ((w.alloc (.cells #[.slice A n c, .slice A2 n c2] 32)).alloc (.cells #[.slice none 0 0, .slice none 0 0] 32)) 9 1 (g := w.heap.size + 1 + 1) (by simp)
    simpa using this
  have hrX := hr
  have hrr1 := hr1.below hb
  have hrr := hr.below hb
  have hz : (((w.alloc (.cells #[.slice A n c, .slice A2 n c2] 32)).alloc (.cells #[.slice none 0 0, .slice none 0 0] 32)).alloc (.cells #[] 9)).heap.size = w.heap.size + 3 := by simp
  obtain ⟨W3, hW3⟩ : ∃ W3, (((w.alloc (.cells #[.slice A n c, .slice A2 n c2] 32)).alloc (.cells #[.slice none 0 0, .slice none 0 0] 32)).alloc (.cells #[] 9)) = W3 := ⟨_, rfl⟩
  rw [hW3] at hX2 hR hb hown hrr1 hrr hz
  have HW3 := Lib.hid hW3
  have HH := Lib.hid (And.intro hX2 (And.intro hR hb))
  have h3 : w.heap.size + 2 ≤ W3.heap.size := by omega
  have hpI : (p : Int) < (n : Int) := by omega
  have hp0 : (0 : Int) ≤ (p : Int) := by omega
  have hqz : (str q).size = 512 := by rw [str_size, hq]
  clear hW3 hX hr hr1 hX2 hR hb hz
  go_enter Try.func53, Try.ntmps53
  go_wp2_with (at_builtin; rw [HW3.out]; refine wpList_append_any _ rfl (.tmp 21) (.tmp 23) 29 rfl (w.heap.size + 2) 9 i1 (.string ⟨#[]⟩) 1 16 Try.underlying29 hi1 hz1 hs1 hy1 rfl (by decide) _ 0 [] rfl hown w.heap.size A n c (sL ps) rfl hrr1 (sL_one ps) (by unfold maxLen; omega) (by omega) h3 ?_; intro v' w4 hown4 hg4 _; simp only [Nat.zero_add, List.nil_append] at hown4; obtain ⟨A4, c4, rfl, hc4⟩ := own_form hown4; obtain ⟨g4, u4, rfl, hlo4, hlt4, d4, f4, hst4⟩ := own_at hown4 p hp; have X4 := blk_far_grown hown HH.out.1 hg4 (by omega); have R4 := blk_far_grown hown HH.out.2.1 hg4 (by omega); have x40 := X4.cell 0; have x41 := X4.cell 1; have xf0 := X4.frozen 0)
  have b4 : Below w.heap.size w w4 := HH.out.2.2.grown hg4 (by omega) fun k hk => by have := (hown.lt k hk).1; omega
  have o5 := own_far2 (hst4 (.string (str q))) w.heap.size (by omega) 0 (.slice (some ⟨g4, 0, none⟩) n c4)
  have b5 := (b4.setCell (show w.heap.size ≤ (⟨g4, p, none⟩ : Addr).block from (by show w.heap.size ≤ g4; omega)) (.string (str q))).setCell (show w.heap.size ≤ (⟨w.heap.size, 0, none⟩ : Addr).block by simp) (.slice (some ⟨g4, 0, none⟩) n c4)
  have R5 := (R4.far (p := ⟨g4, p, none⟩) (by show w.heap.size + 1 ≠ g4; omega) (.string (str q))).far (p := ⟨w.heap.size, 0, none⟩) (by show w.heap.size + 1 ≠ w.heap.size; omega) (.slice (some ⟨g4, 0, none⟩) n c4)
  have z5 : ((w4.setCell ⟨g4, p, none⟩ (.string (str q))).setCell ⟨w.heap.size, 0, none⟩ (.slice (some ⟨g4, 0, none⟩) n c4)).heap.size = w4.heap.size := by simp [World.setCell]
  obtain ⟨W5, hW5⟩ : ∃ W5, (w4.setCell ⟨g4, p, none⟩ (.string (str q))).setCell ⟨w.heap.size, 0, none⟩ (.slice (some ⟨g4, 0, none⟩) n c4) = W5 := ⟨_, rfl⟩
  rw [hW5] at o5 b5 R5 z5 ⊢
  clear hW5
  have TK := Lib.hid (rtake_any (some ⟨g4, 0, none⟩) c4 A2 c2 T (((hrX.below b5).more (by omega))) hn p hp)
  rw [sL_set] at o5
  have s5 : w.heap.size + 2 ≤ W5.heap.size := by omega
  clear x40 x41 xf0 X4 R4 d4 f4 hown4 hg4 hst4 b4 z5 hrr hrr1
  refine TK.out.mono ?_
  rintro e w6 ⟨A6, c6, rfl, hr6, hc6, hlo6, hb6⟩
  have R6 := R5.below hb6 (by omega)
  have r0 := R6.cell 0
  have r1 := R6.cell 1
  have f0 := R6.frozen 0
  have f1 := R6.frozen 1
  have HF := Lib.hid (And.intro hr6 (And.intro hlo6 hb6))
  have o6 := own_kept_below o5 hb6
  clear hr6 hlo6 hb6 R6
  go_wp2
  have q1 := reads_far (reads_far HF.out.1 (p := ⟨w.heap.size + 1, 0, none⟩) (fun ad h => by have := HF.out.2.1 ad h; show ad.block ≠ w.heap.size + 1; omega) (.slice (some ⟨g4, 0, none⟩) n c4)) (p := ⟨w.heap.size + 1, 1, none⟩) (fun ad h => by have := HF.out.2.1 ad h; show ad.block ≠ w.heap.size + 1; omega) (.slice A6 n c6)
  have q2 := own_far2 (own_far2 o6 (w.heap.size + 1) (by omega) 0 (.slice (some ⟨g4, 0, none⟩) n c4)) (w.heap.size + 1) (by omega) 1 (.slice A6 n c6)
  exact bodyPost_ret (v := .tuple #[.int .i64 0, .agg #[.slice (some ⟨g4, 0, none⟩) n c4, .slice A6 n c6]]) (by simp [results, Try.results53, go_sem, r0, r1]) rfl
    ⟨_, c4, A6, c6, rfl, Reads.of_own q2, q1, hc4, hc6, fun ad h => by cases h; show w.heap.size ≤ g4; omega, fun ad h => by have := HF.out.2.1 ad h; omega, ((bto0 b5 HF.out.2.2).setCell (show w.heap.size ≤ (⟨w.heap.size + 1, 0, none⟩ : Addr).block by simp) _).setCell (show w.heap.size ≤ (⟨w.heap.size + 1, 1, none⟩ : Addr).block by simp) _⟩
end
end Go.Proofs.Ytdimkeoncgjegaa
/-
  New, both sides, with its pages as lists.
-/
namespace Go.Proofs.Ytdimkeoncgjegaa
section
open Go.RowKit

/-- The bytes of a new disk. -/
def zb (n : Nat) : List UInt8 := List.replicate (n * 512) 0
theorem zb_len (n : Nat) : (zb n).length = n * 512 := List.length_replicate
theorem zb_marks (n : Nat) (h : 1 ≤ n) : marksOf (zb n) n = true :: List.replicate (n - 1) false := by
  apply List.ext_getElem
  · rw [marksOf_len, List.length_cons, List.length_replicate]; omega
  · intro i h1 h2
    rw [marksOf_len] at h1
    have hm : (marksOf (zb n) n)[i] = mark (zb n) i := by simp [marksOf]
    rw [hm]
    have hz : (zb n)[i * 512]? = some 0 := by
      unfold zb
      rw [List.getElem?_replicate, if_pos (by omega)]
    unfold mark
    rw [hz]
    cases i with
    | zero => rfl
    | succ i => simp
theorem newDP (n : Nat) (h1 : 1 ≤ n) (h2 : n ≤ 4096) (w : World) : Calls Try.prog 8 #[.int .i64 n] w (RetDP w n (pagesOf (zb n) n) (marksOf (zb n) n)) := by
  refine (new_any n h1 h2 w).mono ?_
  rintro e w' ⟨g, gb, gt, rfl, hd, k1, k2, k3, hb⟩
  rw [newMarks_eq (zb n) n h1] at hd
  have e1 : marksP (zb n) n 0 = marksOf (zb n) n := by rw [zb_marks n h1]; rfl
  rw [e1, zero_rep] at hd
  have hfl := pagesOf_all (zb n) n (zb_len n)
  exact ⟨g, gb, gt, rfl, ⟨by rw [hfl]; exact hd, pagesOf_full _ _ (by rw [zb_len]; exact Nat.le_refl _), pagesOf_len _ _⟩, k1, k2, k3, hb⟩
set_option maxHeartbeats 1000000 in
theorem rzeros_any (m : Nat) (hm : m ≤ 10000000) (w : World) : Calls Try.prog 22 #[.int .i64 m] w (RetB w (.string (str (List.replicate m 0)))) := by
  obtain ⟨i0, hi0, hz0, hs0, hy0⟩ := int_info8 Try.infoU8
  obtain ⟨Z, hZ⟩ : ∃ Z, List.replicate m (0 : UInt8) = Z := ⟨_, rfl⟩
  have e0 : madeCells #[.int .u8 0] m = bV Z := by
    rw [← hZ, ← fillA_rep 0 m]
    rw [fillA_zero (0 : Int) m]
    apply Array.ext
    · simp [fillA]
    · intro j h1 h2
      simp [fillA]
  have mk0 : ∀ W, (Instr.makeSlice 59 (.int .i64 (m : Int)) (.int .i64 (m : Int))).run Try.prog W = .ok (.slice (some ⟨W.heap.size, 0, none⟩) m m) (W.alloc (.cells (bV Z) 5)) := by
    intro W
    have h := run_make (P := Try.prog) W 59 5 i0 (.int .u8 0) Try.underlying59 hi0 hz0 .i64 .i64 (m : Int) (m : Int) (by omega) (by omega) (by rw [hy0]; omega) (by omega)
    rw [Int.toNat_natCast, hs0, Nat.mul_one] at h
    rw [← e0]
    exact h
  have hl : Z.length = m := by rw [← hZ, List.length_replicate]
  have cv := conv_blk (P := Try.prog) (Blk.new w 5 (bV Z)) 59 5 9 Try.underlying59 Try.underlying5 Try.underlying9 m m hl
  rw [hZ]
  clear hi0 hz0 hs0 hy0 e0 hZ hl
  go_enter Try.func22, Try.ntmps22
  go_wp2
  go_ret
  exact ⟨rfl, ball (Below.refl _ _) _⟩
set_option maxRecDepth 100000 in
set_option maxHeartbeats 2000000 in
theorem rnew_ok (n : Nat) (h1 : 1 ≤ n) (h2 : n ≤ 4096) (w : World) : Calls Try.prog 9 #[.int .i64 n] w (RetRD w n (pagesOf (zb n) n) (marksOf (zb n) n)) := by
  have ZC : Hid (∀ W, Calls Try.prog 22 #[.int .i64 (512 * (n : Int))] W (RetB W (.string (str (zb n))))) := by
    intro W
    have h := rzeros_any (n * 512) (by omega) W
    have e : ((n * 512 : Nat) : Int) = 512 * (n : Int) := by omega
    rw [e] at h
    exact h
  have LC := Lib.hid fun W => rload_ok (zb n) n h1 h2 (zb_len n) W
  obtain ⟨ps, hps⟩ : ∃ ps, pagesOf (zb n) n = ps := ⟨_, rfl⟩
  obtain ⟨T, hT⟩ : ∃ T, marksOf (zb n) n = T := ⟨_, rfl⟩
  obtain ⟨z, hz⟩ : ∃ z, zb n = z := ⟨_, rfl⟩
  rw [hps, hT] at LC ⊢
  rw [hz] at ZC LC
  clear hps hT hz
  have hR := Blk.new w 32 #[.slice none 0 0, .slice none 0 0]
  have hb := ball (Below.refl w.heap.size w) (.cells #[.slice none 0 0, .slice none 0 0] 32)
  have hzz : (w.alloc (.cells #[.slice none 0 0, .slice none 0 0] 32)).heap.size = w.heap.size + 1 := by simp
  have HH : Hid (∀ W, Below (w.alloc (.cells #[.slice none 0 0, .slice none 0 0] 32)).heap.size (w.alloc (.cells #[.slice none 0 0, .slice none 0 0] 32)) W → Blk W w.heap.size 32 #[.slice none 0 0, .slice none 0 0] ∧ Below w.heap.size w W ∧ w.heap.size + 1 ≤ W.heap.size) := fun W hW =>
    ⟨hR.below hW hR.lt, bto0 hb hW, by have := hW.size; omega⟩
  have h2I : (n : Int) ≤ 4096 := by omega
  have h1I : (1 : Int) ≤ (n : Int) := by omega
  clear hR hb hzz
  go_enter Try.func9, Try.ntmps9
  go_wp2_with fail
  refine (ZC.out _).mono ?_
  rintro e w1 ⟨rfl, hb1⟩
  go_wp2_with fail
  refine (LC.out _).mono ?_
  rintro e w2 ⟨A, c, A2, c2, rfl, hr1, hr2, hc1, hc2, hlo1, hlo2, hb2⟩
  obtain ⟨R2, b2, _⟩ := HH.out w2 (bto0 hb1 hb2)
  obtain ⟨_, _, z1⟩ := HH.out w1 hb1
  have r0 : w2.cell? ⟨w.heap.size, 0, none⟩ = some (.slice none 0 0) := R2.cell 0
  have r1 : w2.cell? ⟨w.heap.size, 1, none⟩ = some (.slice none 0 0) := R2.cell 1
  have f0 := R2.frozen 0
  have f1 := R2.frozen 1
  have HF := Lib.hid (And.intro hr1 (And.intro hr2 (And.intro hlo1 hlo2)))
  clear hr1 hr2 hlo1 hlo2 R2 hb1 hb2
  go_wp2
  obtain ⟨hr1, hr2, hlo1, hlo2⟩ := HF.out
  have q1 := reads_far (reads_far hr1 (p := ⟨w.heap.size, 0, none⟩) (fun ad h => by have := hlo1 ad h; show ad.block ≠ w.heap.size; omega) (.slice A n c)) (p := ⟨w.heap.size, 1, none⟩) (fun ad h => by have := hlo1 ad h; show ad.block ≠ w.heap.size; omega) (.slice A2 n c2)
  have q2 := reads_far (reads_far hr2 (p := ⟨w.heap.size, 0, none⟩) (fun ad h => by have := hlo2 ad h; show ad.block ≠ w.heap.size; omega) (.slice A n c)) (p := ⟨w.heap.size, 1, none⟩) (fun ad h => by have := hlo2 ad h; show ad.block ≠ w.heap.size; omega) (.slice A2 n c2)
  exact bodyPost_ret (v := .tuple #[.agg #[.slice A n c, .slice A2 n c2], .bool true]) (by simp [results, Try.results9, go_sem, r0, r1]) rfl
    ⟨A, c, A2, c2, rfl, q1, q2, hc1, hc2, fun ad h => by have := hlo1 ad h; omega, fun ad h => by have := hlo2 ad h; omega, (b2.setCell (show w.heap.size ≤ (⟨w.heap.size, 0, none⟩ : Addr).block by simp) _).setCell (show w.heap.size ≤ (⟨w.heap.size, 1, none⟩ : Addr).block by simp) _⟩
theorem rnew_bad (n : Int) (h : n < 1 ∨ 4096 < n) (w : World) : Calls Try.prog 9 #[.int .i64 n] w (RetB w (.tuple #[.agg #[.slice none 0 0, .slice none 0 0], .bool false])) := by
  by_cases h1 : n < 1
  · go_enter Try.func9, Try.ntmps9
    go_wp2
    exact bodyPost_ret (v := .tuple #[.agg #[.slice none 0 0, .slice none 0 0], .bool false]) (by simp [results, Try.results9, go_sem]) rfl ⟨rfl, ball (Below.refl _ _) _⟩
  · have h2 : 4096 < n := by omega
    go_enter Try.func9, Try.ntmps9
    go_wp2
    exact bodyPost_ret (v := .tuple #[.agg #[.slice none 0 0, .slice none 0 0], .bool false]) (by simp [results, Try.results9, go_sem]) rfl ⟨rfl, ball (Below.refl _ _) _⟩
end
end Go.Proofs.Ytdimkeoncgjegaa
