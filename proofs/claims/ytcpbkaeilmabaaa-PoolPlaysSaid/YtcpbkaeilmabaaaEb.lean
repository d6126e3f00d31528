/-
  The disk's Write, Take, with its pages as lists; the reference's Write, Take.
-/
import Derived.Test.YtcpbkaeilmabaaaEa
namespace Go.Proofs.Ytcpbkaeilmabaaa
open Go.RowKit

/-- What an operation leaves: the disk with these pages and marks; every other block as it was. -/
def Left (w w' : World) (g gb gt n : Nat) (ps : List (List UInt8)) (T : List Bool) : Prop :=
  DP w' g gb gt n ps T ∧ (∀ B, B ≤ gb → B ≤ gt → Below B w w') ∧ (∀ g', g' ≠ gb → g' ≠ gt → w'.heap[g']? = w.heap[g']?) ∧ w'.heap.size = w.heap.size
theorem writeDP {w : World} {g gb gt n : Nat} {ps : List (List UInt8)} {T : List Bool} (h : DP w g gb gt n ps T) (p : Nat) (hp : p < n) (hn : n ≤ 1000000) (ad : Addr) (c B : Nat) (q : List UInt8) (hr : Reads w B 1 (some ad) 512 (bL q)) :
    Calls Try.prog 20 #[.pointer (some ⟨g, 0, none⟩), .int .u32 p, .slice (some ad) 512 c] w fun e w' => e = .returned (.int .i64 0) ∧ Left w w' g gb gt n (ps.set p q) (T.set p true) := by
  have hT := h.hT
  have hql : q.length = 512 := hr.bytes_len
  refine (write_ok h.dk p hp hn ad c B (bL q) hr (bL_one q) (.bool (T[p]'(by omega))) (tV_at (List.getElem?_eq_getElem (by omega)))).mono ?_
  rintro e w' ⟨rfl, rfl⟩
  have hfl := pflat_len ps h.full
  rw [splice_bV, pflat_set ps h.full p q (by rw [h.hp]; exact hp) hql]
  have hf2 := full_set h.full p hql
  have h1 := h.dk.wrote (new := bV (ps.set p q).flatten) (by rw [bV_size, pflat_len _ hf2, List.length_set, h.hp])
  refine ⟨rfl, ⟨by rw [← tV_set]; exact h1.mark p _, hf2, by rw [List.length_set, h.hp]⟩, ?_, ?_, ?_⟩
  · intro B h1 h2
    exact (below_setRow (Below.refl _ _) h1 _).setCell h2 _
  · intro g' h1 h2
    exact (Below.heap_setCell _ _ _ _ h2).trans (setRow_other _ _ _ _ h1)
  · simp [World.setCell, World.setRow]
theorem write_outDP {w : World} {g gb gt n : Nat} {ps : List (List UInt8)} {T : List Bool} (h : DP w g gb gt n ps T) (p : Nat) (hp : n ≤ p) (hp2 : (p : Int) ≤ 4294967295) (hn : n ≤ 1000000) (v : Value) :
    Calls Try.prog 20 #[.pointer (some ⟨g, 0, none⟩), .int .u32 p, v] w fun e w' => e = .returned (.int .i64 8) ∧ w = w' := write_out h.dk p hp (by omega) hn v
theorem write_short {w : World} {g gb gt n : Nat} {ps : List (List UInt8)} {T : List Bool} (h : DP w g gb gt n ps T) (p : Nat) (hp : p < n) (hn : n ≤ 1000000) (A : Option Addr) (c : Nat) :
    Calls Try.prog 20 #[.pointer (some ⟨g, 0, none⟩), .int .u32 p, .slice A 511 c] w fun e w' => e = .returned (.int .i64 1) ∧ w = w' := by
  have HB := Lib.hid (has_any h.dk p (by omega) (by omega) hn)
  have hd : decide (p < n) = true := decide_eq_true hp
  clear h
  go_enter Try.func20, Try.ntmps20
  go_wp2_with (go_at_call 61; refine HB.out.mono ?_; rintro e w' ⟨rfl, rfl⟩)
  go_ret
  exact ⟨rfl, rfl⟩
theorem takeDP {w : World} {g gb gt n : Nat} {ps : List (List UInt8)} {T : List Bool} (h : DP w g gb gt n ps T) (hn : n ≤ 1000000) (i : Nat) (hi : T[i]? = some false) (hj : ∀ j : Nat, j < i → T[j]? = some true) :
    Calls Try.prog 22 #[.pointer (some ⟨g, 0, none⟩)] w fun e w' => e = .returned (.tuple #[.int .u32 i, .int .i64 0]) ∧ Left w w' g gb gt n ps (T.set i true) := by
  refine (take_at h.dk hn i (tV_at hi) (fun j h => tV_at (hj j h))).mono ?_
  rintro e w' ⟨rfl, rfl⟩
  refine ⟨rfl, h.mark i true, ?_, ?_, ?_⟩
  · intro B h1 h2
    exact (Below.refl _ _).setCell h2 _
  · intro g' h1 h2
    exact Below.heap_setCell _ _ _ _ h2
  · simp [World.setCell]
theorem take_fullDP {w : World} {g gb gt n : Nat} {ps : List (List UInt8)} {T : List Bool} (h : DP w g gb gt n ps T) (hn : n ≤ 1000000) (hj : ∀ j : Nat, j < n → T[j]? = some true) :
    Calls Try.prog 22 #[.pointer (some ⟨g, 0, none⟩)] w fun e w' => e = .returned (.tuple #[.int .u32 0, .int .i64 7]) ∧ w = w' :=
  take_full h.dk hn (fun j h => tV_at (hj j h))

theorem reads_far {w : World} {size n : Nat} {A : Option Addr} {xs : List Value} (h : Reads w w.heap.size size A n xs) {p : Addr} (hp : ∀ ad, A = some ad → ad.block ≠ p.block) (u : Value) : Reads (w.setCell p u) (w.setCell p u).heap.size size A n xs := by
  have e : (w.setCell p u).heap.size = w.heap.size := by simp [World.setCell]
  rw [e]
  exact h.same_ fun ad hA _ => Below.heap_setCell _ _ _ _ (hp ad hA)
/-- What the reference's Take leaves. -/
def RetTk (w : World) (A : Option Addr) (n c : Nat) (i : Nat) (T : List Bool) (e : Ending) (w' : World) : Prop :=
  ∃ A2 c2, e = .returned (.tuple #[.int .u32 i, .int .i64 0, .agg #[.slice A n c, .slice A2 n c2]]) ∧ Reads w' w'.heap.size 1 A2 n (tL T) ∧ n ≤ c2 ∧ (∀ ad, A2 = some ad → w.heap.size ≤ ad.block) ∧ Below w.heap.size w w'
set_option maxRecDepth 100000 in
set_option maxHeartbeats 2000000 in
theorem rTake_at {w : World} {n : Nat} (A : Option Addr) (c : Nat) (A2 : Option Addr) (c2 : Nat) (T : List Bool) (hr : Reads w w.heap.size 1 A2 n (tL T)) (hn : n ≤ 1000000) (i : Nat) (hi : T[i]? = some false) (hj : ∀ j : Nat, j < i → T[j]? = some true) :
    Calls Try.prog 23 #[.agg #[.slice A n c, .slice A2 n c2]] w (RetTk w A n c i (T.set i true)) := by
  have hT : T.length = n := by have := hr.1; rw [tL_len] at this; omega
  have hin : i < n := by rw [← hT]; exact lt_of_at hi
  have HJ := Lib.hid (And.intro hi hj)
  have hX := (Blk.new w 31 #[.slice A n c, .slice A2 n c2]).alloc (.cells #[.slice none 0 0, .slice none 0 0] 31)
  have hR : Blk ((w.alloc (.cells #[.slice A n c, .slice A2 n c2] 31)).alloc (.cells #[.slice none 0 0, .slice none 0 0] 31)) (w.heap.size + 1) 31 #[.slice none 0 0, .slice none 0 0] := Blk.newAt (by simp)
  have hb := ball (ball (Below.refl w.heap.size w) (.cells #[.slice A n c, .slice A2 n c2] 31)) (.cells #[.slice none 0 0, .slice none 0 0] 31)
  have hrr := hr.below hb
  have hz : ((w.alloc (.cells #[.slice A n c, .slice A2 n c2] 31)).alloc (.cells #[.slice none 0 0, .slice none 0 0] 31)).heap.size = w.heap.size + 2 := by simp
  clear hi hj hr
  go_enter Try.func23, Try.ntmps23
  go_wp2_with fail
  obtain ⟨W2, hW2⟩ : ∃ W2, ((w.alloc (.cells #[.slice A n c, .slice A2 n c2] 31)).alloc (.cells #[.slice none 0 0, .slice none 0 0] 31)) = W2 := ⟨_, rfl⟩
  rw [hW2] at hX hR hb hrr hz ⊢
  clear hW2
  have c0 : W2.cell? ⟨w.heap.size, 0, none⟩ = some (.slice A n c) := hX.cell 0
  have c1 : W2.cell? ⟨w.heap.size, 1, none⟩ = some (.slice A2 n c2) := hX.cell 1
  have TK := Lib.hid (rtake_any A c A2 c2 T (hrr.more (by omega)) hn i hin)
  go_loop [9] (fun v => ∃ k : Nat, v = .int .i64 k ∧ k ≤ i) (fun v => i - (intOf v).toNat)
  case atStart => exact ⟨0, rfl, by omega⟩
  case round =>
    obtain ⟨k, rfl, hk⟩ := hrel
    have g1 : (0 : Int) ≤ (k : Int) := by omega
    have g2 : (k : Int) < (n : Int) := by omega
    obtain ⟨ad, b, rfl, _, hb1, d1⟩ := hrr.bit (k := k) (by omega)
    by_cases hki : k < i
    · obtain rfl : b = true := by
        have := HJ.out.2 k hki
        rw [hb1] at this
        exact Option.some.inj this
      clear hb1
      go_wp2
      go_round
      case rel => exact ⟨k + 1, by go_num, by omega⟩
      case measure => simp [intOf]; omega
    · obtain rfl : i = k := by omega
      obtain rfl : b = false := by
        have := HJ.out.1
        rw [hb1] at this
        exact Option.some.inj this
      clear hb1
      go_wp2_with fail
      refine TK.out.mono ?_
      rintro e w3 ⟨A3, c3, rfl, hr3, hc3, hlo3, hb3⟩
      have R3 := hR.below hb3 hR.lt
      have r0 : w3.cell? ⟨w.heap.size + 1, 0, none⟩ = some (.slice none 0 0) := R3.cell 0
      have r1 : w3.cell? ⟨w.heap.size + 1, 1, none⟩ = some (.slice none 0 0) := R3.cell 1
      have f0 := R3.frozen 0
      have f1 := R3.frozen 1
      have HF := Lib.hid (And.intro hr3 (And.intro hlo3 hb3))
      clear hr3 hlo3 hb3 R3
      go_wp2
      have q := reads_far (reads_far HF.out.1 (p := ⟨w.heap.size + 1, 0, none⟩) (fun ad h => by have := HF.out.2.1 ad h; show ad.block ≠ w.heap.size + 1; omega) (.slice A n c)) (p := ⟨w.heap.size + 1, 1, none⟩) (fun ad h => by have := HF.out.2.1 ad h; show ad.block ≠ w.heap.size + 1; omega) (.slice A3 n c3)
      exact bodyPost_ret (v := .tuple #[.int .u32 i, .int .i64 0, .agg #[.slice A n c, .slice A3 n c3]]) (by simp [results, Try.results23, go_sem, r0, r1]) rfl
        ⟨A3, c3, rfl, q, hc3, fun ad h => by have := HF.out.2.1 ad h; omega, ((bto0 hb HF.out.2.2).setCell (show w.heap.size ≤ (⟨w.heap.size + 1, 0, none⟩ : Addr).block by simp) _).setCell (show w.heap.size ≤ (⟨w.heap.size + 1, 1, none⟩ : Addr).block by simp) _⟩

set_option maxRecDepth 100000 in
set_option maxHeartbeats 2000000 in
theorem rTake_full {w : World} {n : Nat} (A : Option Addr) (c : Nat) (A2 : Option Addr) (c2 : Nat) (T : List Bool) (hr : Reads w w.heap.size 1 A2 n (tL T)) (hn : n ≤ 1000000) (hj : ∀ j : Nat, j < n → T[j]? = some true) :
    Calls Try.prog 23 #[.agg #[.slice A n c, .slice A2 n c2]] w (RetB w (.tuple #[.int .u32 0, .int .i64 7, .agg #[.slice A n c, .slice A2 n c2]])) := by
  have HJ := Lib.hid hj
  have hX := (Blk.new w 31 #[.slice A n c, .slice A2 n c2]).alloc (.cells #[.slice none 0 0, .slice none 0 0] 31)
  have hR : Blk ((w.alloc (.cells #[.slice A n c, .slice A2 n c2] 31)).alloc (.cells #[.slice none 0 0, .slice none 0 0] 31)) (w.heap.size + 1) 31 #[.slice none 0 0, .slice none 0 0] := Blk.newAt (by simp)
  have hb := ball (ball (Below.refl w.heap.size w) (.cells #[.slice A n c, .slice A2 n c2] 31)) (.cells #[.slice none 0 0, .slice none 0 0] 31)
  have hrr := hr.below hb
  clear hj hr
  go_enter Try.func23, Try.ntmps23
  go_wp2_with fail
  obtain ⟨W2, hW2⟩ : ∃ W2, ((w.alloc (.cells #[.slice A n c, .slice A2 n c2] 31)).alloc (.cells #[.slice none 0 0, .slice none 0 0] 31)) = W2 := ⟨_, rfl⟩
  rw [hW2] at hX hR hb hrr ⊢
  clear hW2
  have c0 : W2.cell? ⟨w.heap.size, 0, none⟩ = some (.slice A n c) := hX.cell 0
  have c1 : W2.cell? ⟨w.heap.size, 1, none⟩ = some (.slice A2 n c2) := hX.cell 1
  have r0 : W2.cell? ⟨w.heap.size + 1, 0, none⟩ = some (.slice none 0 0) := hR.cell 0
  have r1 : W2.cell? ⟨w.heap.size + 1, 1, none⟩ = some (.slice none 0 0) := hR.cell 1
  have f0 := hR.frozen 0
  have f1 := hR.frozen 1
  go_loop [9] (fun v => ∃ k : Nat, v = .int .i64 k ∧ k ≤ n) (fun v => n - (intOf v).toNat)
  case atStart => exact ⟨0, rfl, by omega⟩
  case round =>
    obtain ⟨k, rfl, hk⟩ := hrel
    have g1 : (0 : Int) ≤ (k : Int) := by omega
    by_cases hki : k < n
    · have g2 : (k : Int) < (n : Int) := by omega
      obtain ⟨ad, b, rfl, _, hb1, d1⟩ := hrr.bit (k := k) (by omega)
      obtain rfl : b = true := by
        have := HJ.out k hki
        rw [hb1] at this
        exact Option.some.inj this
      clear hb1
      go_wp2
      go_round
      case rel => exact ⟨k + 1, by go_num, by omega⟩
      case measure => simp [intOf]; omega
    · obtain rfl : n = k := by omega
      go_wp2_with fail
      go_region
      go_wp2
      exact bodyPost_ret (v := .tuple #[.int .u32 0, .int .i64 7, .agg #[.slice A n c, .slice A2 n c2]]) (by simp [results, Try.results23, go_sem, r0, r1]) rfl
        ⟨rfl, ((hb.setCell (show w.heap.size ≤ (⟨w.heap.size + 1, 0, none⟩ : Addr).block by simp) _).setCell (show w.heap.size ≤ (⟨w.heap.size + 1, 1, none⟩ : Addr).block by simp) _).drew⟩
end Go.Proofs.Ytcpbkaeilmabaaa
