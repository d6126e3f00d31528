/-
  The reference's Write.
-/
import Derived.Test.YtcpbkaeilmabaaaEb
namespace Go.Proofs.Ytcpbkaeilmabaaa
open Go.RowKit

theorem own_kept_below {w w' : World} {base : Nat} {e : TypeId} {size n : Nat} {v : Value} {xs : List Value} (h : w.ownsRow base e size v n xs) (hb : Below w.heap.size w w') : w'.ownsRow base e size v n xs :=
  World.ownsRow.kept h (row := none) ⟨hb.os, hb.tape, hb.output, hb.size, fun i hi _ => hb.block i hi⟩ (by cases h' : v.ownBlock <;> simp)
set_option maxRecDepth 100000 in
set_option maxHeartbeats 2000000 in
theorem rwrite_bad {w : World} {n : Nat} (A : Option Addr) (c : Nat) (A2 : Option Addr) (c2 : Nat) (hn : n ≤ 1000000) (p : Nat) (hp : p ≤ 4294967295) (s : ByteArray) (m : Nat) (hs : s.size = m) (E : Int) (h : (n ≤ p ∧ E = 8) ∨ (p < n ∧ m ≠ 512 ∧ E = 1)) :
    Calls Try.prog 21 #[.agg #[.slice A n c, .slice A2 n c2], .int .u32 p, .string s] w (RetB w (.tuple #[.int .i64 E, .agg #[.slice A n c, .slice A2 n c2]])) := by
  have hX := (Blk.new w 31 #[.slice A n c, .slice A2 n c2]).alloc (.cells #[.slice none 0 0, .slice none 0 0] 31)
  have hR : Blk ((w.alloc (.cells #[.slice A n c, .slice A2 n c2] 31)).alloc (.cells #[.slice none 0 0, .slice none 0 0] 31)) (w.heap.size + 1) 31 #[.slice none 0 0, .slice none 0 0] := Blk.newAt (by simp)
  have hb := ball (ball (Below.refl w.heap.size w) (.cells #[.slice A n c, .slice A2 n c2] 31)) (.cells #[.slice none 0 0, .slice none 0 0] 31)
  have hnI : (n : Int) ≤ 1000000 := by omega
  rcases h with ⟨h1, rfl⟩ | ⟨h1, h2, rfl⟩
  · have g1 : (n : Int) ≤ (p : Int) := by omega
    have g3 : (p : Int) ≤ 4294967295 := by omega
    clear h1 hp
    go_enter Try.func21, Try.ntmps21
    go_wp2_with fail
    obtain ⟨W2, hW2⟩ : ∃ W2, ((w.alloc (.cells #[.slice A n c, .slice A2 n c2] 31)).alloc (.cells #[.slice none 0 0, .slice none 0 0] 31)) = W2 := ⟨_, rfl⟩
    rw [hW2] at hX hR hb ⊢
    clear hW2
    have c0 : W2.cell? ⟨w.heap.size, 0, none⟩ = some (.slice A n c) := hX.cell 0
    have c1 : W2.cell? ⟨w.heap.size, 1, none⟩ = some (.slice A2 n c2) := hX.cell 1
    have r0 : W2.cell? ⟨w.heap.size + 1, 0, none⟩ = some (.slice none 0 0) := hR.cell 0
    have r1 : W2.cell? ⟨w.heap.size + 1, 1, none⟩ = some (.slice none 0 0) := hR.cell 1
    have f0 := hR.frozen 0
    have f1 := hR.frozen 1
    go_region
    go_wp2
    exact bodyPost_ret (v := .tuple #[.int .i64 8, .agg #[.slice A n c, .slice A2 n c2]]) (by simp [results, Try.results21, go_sem, r0, r1]) rfl
      ⟨rfl, ((hb.setCell (show w.heap.size ≤ (⟨w.heap.size + 1, 0, none⟩ : Addr).block by simp) _).setCell (show w.heap.size ≤ (⟨w.heap.size + 1, 1, none⟩ : Addr).block by simp) _).drew⟩
  · have g1 : (p : Int) < (n : Int) := by omega
    have g2 : ((m : Int) != 512) = true := by simp; omega
    have g3 : (p : Int) ≤ 4294967295 := by omega
    clear h1 h2 hp
    go_enter Try.func21, Try.ntmps21
    go_wp2_with fail
    obtain ⟨W2, hW2⟩ : ∃ W2, ((w.alloc (.cells #[.slice A n c, .slice A2 n c2] 31)).alloc (.cells #[.slice none 0 0, .slice none 0 0] 31)) = W2 := ⟨_, rfl⟩
    rw [hW2] at hX hR hb ⊢
    clear hW2
    have c0 : W2.cell? ⟨w.heap.size, 0, none⟩ = some (.slice A n c) := hX.cell 0
    have c1 : W2.cell? ⟨w.heap.size, 1, none⟩ = some (.slice A2 n c2) := hX.cell 1
    have r0 : W2.cell? ⟨w.heap.size + 1, 0, none⟩ = some (.slice none 0 0) := hR.cell 0
    have r1 : W2.cell? ⟨w.heap.size + 1, 1, none⟩ = some (.slice none 0 0) := hR.cell 1
    have f0 := hR.frozen 0
    have f1 := hR.frozen 1
    go_region
    go_wp2
    exact bodyPost_ret (v := .tuple #[.int .i64 1, .agg #[.slice A n c, .slice A2 n c2]]) (by simp [results, Try.results21, go_sem, r0, r1]) rfl
      ⟨rfl, ((hb.setCell (show w.heap.size ≤ (⟨w.heap.size + 1, 0, none⟩ : Addr).block by simp) _).setCell (show w.heap.size ≤ (⟨w.heap.size + 1, 1, none⟩ : Addr).block by simp) _).drew⟩

/-- What the reference's Write leaves. -/
def RetWr (w : World) (n : Nat) (ps : List (List UInt8)) (T : List Bool) (e : Ending) (w' : World) : Prop :=
  ∃ A c A2 c2, e = .returned (.tuple #[.int .i64 0, .agg #[.slice A n c, .slice A2 n c2]]) ∧ Reads w' w'.heap.size 1 A n (sL ps) ∧ Reads w' w'.heap.size 1 A2 n (tL T) ∧ n ≤ c ∧ n ≤ c2 ∧
    (∀ ad, A = some ad → w.heap.size ≤ ad.block) ∧ (∀ ad, A2 = some ad → w.heap.size ≤ ad.block) ∧ Below w.heap.size w w'
set_option maxRecDepth 100000 in
set_option maxHeartbeats 2000000 in
theorem rwrite_ok {w : World} {n : Nat} (A : Option Addr) (c : Nat) (A2 : Option Addr) (c2 : Nat) (ps : List (List UInt8)) (T : List Bool) (hr1 : Reads w w.heap.size 1 A n (sL ps)) (hr : Reads w w.heap.size 1 A2 n (tL T)) (hn : n ≤ 1000000) (p : Nat) (hp : p < n) (q : List UInt8) (hq : q.length = 512) :
    Calls Try.prog 21 #[.agg #[.slice A n c, .slice A2 n c2], .int .u32 p, .string (str q)] w (RetWr w n (ps.set p q) (T.set p true)) := by
  obtain ⟨i1, hi1, hz1, hs1, hy1⟩ := int_info8 Try.infoS
  have hX := Blk.new w 31 #[.slice A n c, .slice A2 n c2]
  have hX2 := (hX.alloc (.cells #[.slice none 0 0, .slice none 0 0] 31)).alloc (.cells #[] 9)
  have hR : Blk (((w.alloc (.cells #[.slice A n c, .slice A2 n c2] 31)).alloc (.cells #[.slice none 0 0, .slice none 0 0] 31)).alloc (.cells #[] 9)) (w.heap.size + 1) 31 #[.slice none 0 0, .slice none 0 0] := (Blk.newAt (by simp)).alloc _
  have hb := ball (ball (ball (Below.refl w.heap.size w) (.cells #[.slice A n c, .slice A2 n c2] 31)) (.cells #[.slice none 0 0, .slice none 0 0] 31)) (.cells #[] 9)
  have hown : (((w.alloc (.cells #[.slice A n c, .slice A2 n c2] 31)).alloc (.cells #[.slice none 0 0, .slice none 0 0] 31)).alloc (.cells #[] 9)).ownsRow (w.heap.size + 2) 9 1 (.slice (some ⟨w.heap.size + 1 + 1, 0, none⟩) 0 0) 0 [] := by
    have := own_empty ((w.alloc (.cells #[.slice A n c, .slice A2 n c2] 31)).alloc (.cells #[.slice none 0 0, .slice none 0 0] 31)) 9 1 (g := w.heap.size + 1 + 1) (by simp)
    simpa using this
  have hrX := hr
  have hrr1 := hr1.below hb
  have hrr := hr.below hb
  have hz : (((w.alloc (.cells #[.slice A n c, .slice A2 n c2] 31)).alloc (.cells #[.slice none 0 0, .slice none 0 0] 31)).alloc (.cells #[] 9)).heap.size = w.heap.size + 3 := by simp
  obtain ⟨W3, hW3⟩ : ∃ W3, (((w.alloc (.cells #[.slice A n c, .slice A2 n c2] 31)).alloc (.cells #[.slice none 0 0, .slice none 0 0] 31)).alloc (.cells #[] 9)) = W3 := ⟨_, rfl⟩
  rw [hW3] at hX2 hR hb hown hrr1 hrr hz
  have HW3 := Lib.hid hW3
  have HH := Lib.hid (And.intro hX2 (And.intro hR hb))
  have h3 : w.heap.size + 2 ≤ W3.heap.size := by omega
  have hpI : (p : Int) < (n : Int) := by omega
  have hp0 : (0 : Int) ≤ (p : Int) := by omega
  have hqz : (str q).size = 512 := by rw [str_size, hq]
  clear hW3 hX hr hr1 hX2 hR hb hz
  go_enter Try.func21, Try.ntmps21
  go_wp2_with (at_builtin; rw [HW3.out]; refine wpList_append_any _ rfl (.tmp 21) (.tmp 23) 28 rfl (w.heap.size + 2) 9 i1 (.string ⟨#[]⟩) 1 16 Try.underlying28 hi1 hz1 hs1 hy1 rfl (by decide) _ 0 [] rfl hown w.heap.size A n c (sL ps) rfl hrr1 (sL_one ps) (by unfold maxLen; omega) (by omega) h3 ?_; intro v' w4 hown4 hg4 _; simp only [Nat.zero_add, List.nil_append] at hown4; obtain ⟨A4, c4, rfl, hc4⟩ := own_form hown4; obtain ⟨g4, u4, rfl, hlo4, hlt4, d4, f4, hst4⟩ := own_at hown4 p hp; have X4 := blk_far_grown hown HH.out.1 hg4 (by omega); have R4 := blk_far_grown hown HH.out.2.1 hg4 (by omega); have x40 := X4.cell 0; have x41 := X4.cell 1; have xf0 := X4.frozen 0)
  have b4 : Below w.heap.size w w4 := HH.out.2.2.grown hg4 (by omega) fun k hk => by have := (hown.lt k hk).1; omega
  have o5 := own_far2 (hst4 (.string (str q))) w.heap.size (by omega) 0 (.slice (some ⟨g4, 0, none⟩) n c4)
  have b5 := (b4.setCell (show w.heap.size ≤ (⟨g4, p, none⟩ : Addr).block from (by show w.heap.size ≤ g4; omega)) (.string (str q))).setCell (show w.heap.size ≤ (⟨w.heap.size, 0, none⟩ : Addr).block by simp) (.slice (some ⟨g4, 0, none⟩) n c4)
  have R5 := (R4.far (p := ⟨g4, p, none⟩) (by show w.heap.size + 1 ≠ g4; omega) (.string (str q))).far (p := ⟨w.heap.size, 0, none⟩) (by show w.heap.size + 1 ≠ w.heap.size; omega) (.slice (some ⟨g4, 0, none⟩) n c4)
  have z5 : ((w4.setCell ⟨g4, p, none⟩ (.string (str q))).setCell ⟨w.heap.size, 0, none⟩ (.slice (some ⟨g4, 0, none⟩) n c4)).heap.size = w4.heap.size := by simp [World.setCell]
  obtain ⟨W5, hW5⟩ : ∃ W5, (w4.setCell ⟨g4, p, none⟩ (.string (str q))).setCell ⟨w.heap.size, 0, none⟩ (.slice (some ⟨g4, 0, none⟩) n c4) = W5 := ⟨_, rfl⟩
  rw [hW5] at o5 b5 R5 z5 ⊢
  clear hW5
  have TK := Lib.hid (rtake_any (some ⟨g4, 0, none⟩) c4 A2 c2 T (((hrX.below b5).more (by omega))) hn p hp)
  rw [sL_set] at o5
  have s5 : w.heap.size + 2 ≤ W5.heap.size := by omega
  clear x40 x41 xf0 X4 R4 d4 f4 hown4 hg4 hst4 b4 z5 hrr hrr1
  refine TK.out.mono ?_
  rintro e w6 ⟨A6, c6, rfl, hr6, hc6, hlo6, hb6⟩
  have R6 := R5.below hb6 (by omega)
  have r0 := R6.cell 0
  have r1 := R6.cell 1
  have f0 := R6.frozen 0
  have f1 := R6.frozen 1
  have HF := Lib.hid (And.intro hr6 (And.intro hlo6 hb6))
  have o6 := own_kept_below o5 hb6
  clear hr6 hlo6 hb6 R6
  go_wp2
  have q1 := reads_far (reads_far HF.out.1 (p := ⟨w.heap.size + 1, 0, none⟩) (fun ad h => by have := HF.out.2.1 ad h; show ad.block ≠ w.heap.size + 1; omega) (.slice (some ⟨g4, 0, none⟩) n c4)) (p := ⟨w.heap.size + 1, 1, none⟩) (fun ad h => by have := HF.out.2.1 ad h; show ad.block ≠ w.heap.size + 1; omega) (.slice A6 n c6)
  have q2 := own_far2 (own_far2 o6 (w.heap.size + 1) (by omega) 0 (.slice (some ⟨g4, 0, none⟩) n c4)) (w.heap.size + 1) (by omega) 1 (.slice A6 n c6)
  exact bodyPost_ret (v := .tuple #[.int .i64 0, .agg #[.slice (some ⟨g4, 0, none⟩) n c4, .slice A6 n c6]]) (by simp [results, Try.results21, go_sem, r0, r1]) rfl
    ⟨_, c4, A6, c6, rfl, Reads.of_own q2, q1, hc4, hc6, fun ad h => by cases h; show w.heap.size ≤ g4; omega, fun ad h => by have := HF.out.2.1 ad h; omega, ((bto0 b5 HF.out.2.2).setCell (show w.heap.size ≤ (⟨w.heap.size + 1, 0, none⟩ : Addr).block by simp) _).setCell (show w.heap.size ≤ (⟨w.heap.size + 1, 1, none⟩ : Addr).block by simp) _⟩
end Go.Proofs.Ytcpbkaeilmabaaa
