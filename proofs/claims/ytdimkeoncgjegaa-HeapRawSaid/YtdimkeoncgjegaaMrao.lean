/-
  Several texts in one: Ec Ed Pi Pj Oc.
-/
import Derived.Test.YtdimkeoncgjegaaMran
import Derived.Test.YtdimkeoncgjegaaMram
import Derived.Test.YtdimkeoncgjegaaMrah
import Derived.Test.YtdimkeoncgjegaaMrae
import Derived.Deep.QuietTactic
import Derived.Lib.SliceRun
import Derived.Deep.Upon
/-
  The reference's Write.
-/
namespace Go.Proofs.Ytdimkeoncgjegaa
section
open Go.RowKit

theorem own_kept_below {w w' : World} {base : Nat} {e : TypeId} {size n : Nat} {v : Value} {xs : List Value} (h : w.ownsRow base e size v n xs) (hb : Below w.heap.size w w') : w'.ownsRow base e size v n xs :=
  World.ownsRow.kept h (row := none) ⟨hb.os, hb.tape, hb.output, hb.size, fun i hi _ => hb.block i hi⟩ (by cases h' : v.ownBlock <;> simp)
set_option maxRecDepth 100000 in
set_option maxHeartbeats 2000000 in
theorem rwrite_bad {w : World} {n : Nat} (A : Option Addr) (c : Nat) (A2 : Option Addr) (c2 : Nat) (hn : n ≤ 1000000) (p : Nat) (hp : p ≤ 4294967295) (s : ByteArray) (m : Nat) (hs : s.size = m) (E : Int) (h : (n ≤ p ∧ E = 8) ∨ (p < n ∧ m ≠ 512 ∧ E = 1)) :
    Calls Try.prog 53 #[.agg #[.slice A n c, .slice A2 n c2], .int .u32 p, .string s] w (RetB w (.tuple #[.int .i64 E, .agg #[.slice A n c, .slice A2 n c2]])) := by
  have hX := (Blk.new w 32 #[.slice A n c, .slice A2 n c2]).alloc (.cells #[.slice none 0 0, .slice none 0 0] 32)
  have hR : Blk ((w.alloc (.cells #[.slice A n c, .slice A2 n c2] 32)).alloc (.cells #[.slice none 0 0, .slice none 0 0] 32)) (w.heap.size + 1) 32 #[.slice none 0 0, .slice none 0 0] := Blk.newAt (by simp)
  have hb := ball (ball (Below.refl w.heap.size w) (.cells #[.slice A n c, .slice A2 n c2] 32)) (.cells #[.slice none 0 0, .slice none 0 0] 32)
  have hnI : (n : Int) ≤ 1000000 := by omega
  rcases h with ⟨h1, rfl⟩ | ⟨h1, h2, rfl⟩
  · have g1 : (n : Int) ≤ (p : Int) := by omega
    have g3 : (p : Int) ≤ 4294967295 := by omega
    clear h1 hp
    go_enter Try.func53, Try.ntmps53
    go_wp2_with fail
    obtain ⟨W2, hW2⟩ : ∃ W2, ((w.alloc (.cells #[.slice A n c, .slice A2 n c2] 32)).alloc (.cells #[.slice none 0 0, .slice none 0 0] 32)) = W2 := ⟨_, rfl⟩
    rw [hW2] at hX hR hb ⊢
    clear hW2
    have c0 : W2.cell? ⟨w.heap.size, 0, none⟩ = some (.slice A n c) := hX.cell 0
    have c1 : W2.cell? ⟨w.heap.size, 1, none⟩ = some (.slice A2 n c2) := hX.cell 1
    have r0 : W2.cell? ⟨w.heap.size + 1, 0, none⟩ = some (.slice none 0 0) := hR.cell 0
    have r1 : W2.cell? ⟨w.heap.size + 1, 1, none⟩ = some (.slice none 0 0) := hR.cell 1
    have f0 := hR.frozen 0
    have f1 := hR.frozen 1
    go_region
    go_wp2
    exact bodyPost_ret (v := .tuple #[.int .i64 8, .agg #[.slice A n c, .slice A2 n c2]]) (by simp [results, Try.results53, go_sem, r0, r1]) rfl
      ⟨rfl, ((hb.setCell (show w.heap.size ≤ (⟨w.heap.size + 1, 0, none⟩ : Addr).block by simp) _).setCell (show w.heap.size ≤ (⟨w.heap.size + 1, 1, none⟩ : Addr).block by simp) _).drew⟩
  · have g1 : (p : Int) < (n : Int) := by omega
    have g2 : ((m : Int) != 512) = true := by simp; omega
    have g3 : (p : Int) ≤ 4294967295 := by omega
    clear h1 h2 hp
    go_enter Try.func53, Try.ntmps53
    go_wp2_with fail
    obtain ⟨W2, hW2⟩ : ∃ W2, ((w.alloc (.cells #[.slice A n c, .slice A2 n c2] 32)).alloc (.cells #[.slice none 0 0, .slice none 0 0] 32)) = W2 := ⟨_, rfl⟩
    rw [hW2] at hX hR hb ⊢
    clear hW2
    have c0 : W2.cell? ⟨w.heap.size, 0, none⟩ = some (.slice A n c) := hX.cell 0
    have c1 : W2.cell? ⟨w.heap.size, 1, none⟩ = some (.slice A2 n c2) := hX.cell 1
    have r0 : W2.cell? ⟨w.heap.size + 1, 0, none⟩ = some (.slice none 0 0) := hR.cell 0
    have r1 : W2.cell? ⟨w.heap.size + 1, 1, none⟩ = some (.slice none 0 0) := hR.cell 1
    have f0 := hR.frozen 0
    have f1 := hR.frozen 1
    go_region
    go_wp2
    exact bodyPost_ret (v := .tuple #[.int .i64 1, .agg #[.slice A n c, .slice A2 n c2]]) (by simp [results, Try.results53, go_sem, r0, r1]) rfl
      ⟨rfl, ((hb.setCell (show w.heap.size ≤ (⟨w.heap.size + 1, 0, none⟩ : Addr).block by simp) _).setCell (show w.heap.size ≤ (⟨w.heap.size + 1, 1, none⟩ : Addr).block by simp) _).drew⟩

/-- What the reference's Write leaves. -/
def RetWr (w : World) (n : Nat) (ps : List (List UInt8)) (T : List Bool) (e : Ending) (w' : World) : Prop :=
  ∃ A c A2 c2, e = .returned (.tuple #[.int .i64 0, .agg #[.slice A n c, .slice A2 n c2]]) ∧ Reads w' w'.heap.size 1 A n (sL ps) ∧ Reads w' w'.heap.size 1 A2 n (tL T) ∧ n ≤ c ∧ n ≤ c2 ∧
    (∀ ad, A = some ad → w.heap.size ≤ ad.block) ∧ (∀ ad, A2 = some ad → w.heap.size ≤ ad.block) ∧ Below w.heap.size w w'
set_option maxRecDepth 100000 in
set_option maxHeartbeats 2000000 in
theorem rwrite_ok {w : World} {n : Nat} (A : Option Addr) (c : Nat) (A2 : Option Addr) (c2 : Nat) (ps : List (List UInt8)) (T : List Bool) (hr1 : Reads w w.heap.size 1 A n (sL ps)) (hr : Reads w w.heap.size 1 A2 n (tL T)) (hn : n ≤ 1000000) (p : Nat) (hp : p < n) (q : List UInt8) (hq : q.length = 512) :
    Calls Try.prog 53 #[.agg #[.slice A n c, .slice A2 n c2], .int .u32 p, .string (str q)] w (RetWr w n (ps.set p q) (T.set p true)) := by
  obtain ⟨i1, hi1, hz1, hs1, hy1⟩ := int_info8 Try.infoS
  have hX := Blk.new w 32 #[.slice A n c, .slice A2 n c2]
  have hX2 := (hX.alloc (.cells #[.slice none 0 0, .slice none 0 0] 32)).alloc (.cells #[] 9)
  have hR : Blk (((w.alloc (.cells #[.slice A n c, .slice A2 n c2] 32)).alloc (.cells #[.slice none 0 0, .slice none 0 0] 32)).alloc (.cells #[] 9)) (w.heap.size + 1) 32 #[.slice none 0 0, .slice none 0 0] := (Blk.newAt (by simp)).alloc _
  have hb := ball (ball (ball (Below.refl w.heap.size w) (.cells #[.slice A n c, .slice A2 n c2] 32)) (.cells #[.slice none 0 0, .slice none 0 0] 32)) (.cells #[] 9)
  have hown : (((w.alloc (.cells #[.slice A n c, .slice A2 n c2] 32)).alloc (.cells #[.slice none 0 0, .slice none 0 0] 32)).alloc (.cells #[] 9)).ownsRow (w.heap.size + 2) 9 1 (.slice (some ⟨w.heap.size + 1 + 1, 0, none⟩) 0 0) 0 [] := by
    have := own_empty ((w.alloc (.cells #[.slice A n c, .slice A2 n c2] 32)).alloc (.cells #[.slice none 0 0, .slice none 0 0] 32)) 9 1 (g := w.heap.size + 1 + 1) (by simp)
    simpa using this
  have hrX := hr
  have hrr1 := hr1.below hb
  have hrr := hr.below hb
  have hz : (((w.alloc (.cells #[.slice A n c, .slice A2 n c2] 32)).alloc (.cells #[.slice none 0 0, .slice none 0 0] 32)).alloc (.cells #[] 9)).heap.size = w.heap.size + 3 := by simp
  obtain ⟨W3, hW3⟩ : ∃ W3, (((w.alloc (.cells #[.slice A n c, .slice A2 n c2] 32)).alloc (.cells #[.slice none 0 0, .slice none 0 0] 32)).alloc (.cells #[] 9)) = W3 := ⟨_, rfl⟩
  rw [hW3] at hX2 hR hb hown hrr1 hrr hz
  have HW3 := Lib.hid hW3
  have HH := Lib.hid (And.intro hX2 (And.intro hR hb))
  have h3 : w.heap.size + 2 ≤ W3.heap.size := by omega
  have hpI : (p : Int) < (n : Int) := by omega
  have hp0 : (0 : Int) ≤ (p : Int) := by omega
  have hqz : (str q).size = 512 := by rw [str_size, hq]
  clear hW3 hX hr hr1 hX2 hR hb hz
  go_enter Try.func53, Try.ntmps53
  go_wp2_with (at_builtin; rw [HW3.out]; refine wpList_append_any _ rfl (.tmp 21) (.tmp 23) 29 rfl (w.heap.size + 2) 9 i1 (.string ⟨#[]⟩) 1 16 Try.underlying29 hi1 hz1 hs1 hy1 rfl (by decide) _ 0 [] rfl hown w.heap.size A n c (sL ps) rfl hrr1 (sL_one ps) (by unfold maxLen; omega) (by omega) h3 ?_; intro v' w4 hown4 hg4 _; simp only [Nat.zero_add, List.nil_append] at hown4; obtain ⟨A4, c4, rfl, hc4⟩ := own_form hown4; obtain ⟨g4, u4, rfl, hlo4, hlt4, d4, f4, hst4⟩ := own_at hown4 p hp; have X4 := blk_far_grown hown HH.out.1 hg4 (by omega); have R4 := blk_far_grown hown HH.out.2.1 hg4 (by omega); have x40 := X4.cell 0; have x41 := X4.cell 1; have xf0 := X4.frozen 0)
  have b4 : Below w.heap.size w w4 := HH.out.2.2.grown hg4 (by omega) fun k hk => by have := (hown.lt k hk).1; omega
  have o5 := own_far2 (hst4 (.string (str q))) w.heap.size (by omega) 0 (.slice (some ⟨g4, 0, none⟩) n c4)
  have b5 := (b4.setCell (show w.heap.size ≤ (⟨g4, p, none⟩ : Addr).block from (by show w.heap.size ≤ g4; omega)) (.string (str q))).setCell (show w.heap.size ≤ (⟨w.heap.size, 0, none⟩ : Addr).block by simp) (.slice (some ⟨g4, 0, none⟩) n c4)
  have R5 := (R4.far (p := ⟨g4, p, none⟩) (by show w.heap.size + 1 ≠ g4; omega) (.string (str q))).far (p := ⟨w.heap.size, 0, none⟩) (by show w.heap.size + 1 ≠ w.heap.size; omega) (.slice (some ⟨g4, 0, none⟩) n c4)
  have z5 : ((w4.setCell ⟨g4, p, none⟩ (.string (str q))).setCell ⟨w.heap.size, 0, none⟩ (.slice (some ⟨g4, 0, none⟩) n c4)).heap.size = w4.heap.size := by simp [World.setCell]
  obtain ⟨W5, hW5⟩ : ∃ W5, (w4.setCell ⟨g4, p, none⟩ (.string (str q))).setCell ⟨w.heap.size, 0, none⟩ (.slice (some ⟨g4, 0, none⟩) n c4) = W5 := ⟨_, rfl⟩
  rw [hW5] at o5 b5 R5 z5 ⊢
  clear hW5
  have TK := Lib.hid (rtake_any (some ⟨g4, 0, none⟩) c4 A2 c2 T (((hrX.below b5).more (by omega))) hn p hp)
  rw [sL_set] at o5
  have s5 : w.heap.size + 2 ≤ W5.heap.size := by omega
  clear x40 x41 xf0 X4 R4 d4 f4 hown4 hg4 hst4 b4 z5 hrr hrr1
  refine TK.out.mono ?_
  rintro e w6 ⟨A6, c6, rfl, hr6, hc6, hlo6, hb6⟩
  have R6 := R5.below hb6 (by omega)
  have r0 := R6.cell 0
  have r1 := R6.cell 1
  have f0 := R6.frozen 0
  have f1 := R6.frozen 1
  have HF := Lib.hid (And.intro hr6 (And.intro hlo6 hb6))
  have o6 := own_kept_below o5 hb6
  clear hr6 hlo6 hb6 R6
  go_wp2
  have q1 := reads_far (reads_far HF.out.1 (p := ⟨w.heap.size + 1, 0, none⟩) (fun ad h => by have := HF.out.2.1 ad h; show ad.block ≠ w.heap.size + 1; omega) (.slice (some ⟨g4, 0, none⟩) n c4)) (p := ⟨w.heap.size + 1, 1, none⟩) (fun ad h => by have := HF.out.2.1 ad h; show ad.block ≠ w.heap.size + 1; omega) (.slice A6 n c6)
  have q2 := own_far2 (own_far2 o6 (w.heap.size + 1) (by omega) 0 (.slice (some ⟨g4, 0, none⟩) n c4)) (w.heap.size + 1) (by omega) 1 (.slice A6 n c6)
  exact bodyPost_ret (v := .tuple #[.int .i64 0, .agg #[.slice (some ⟨g4, 0, none⟩) n c4, .slice A6 n c6]]) (by simp [results, Try.results53, go_sem, r0, r1]) rfl
    ⟨_, c4, A6, c6, rfl, Reads.of_own q2, q1, hc4, hc6, fun ad h => by cases h; show w.heap.size ≤ g4; omega, fun ad h => by have := HF.out.2.1 ad h; omega, ((bto0 b5 HF.out.2.2).setCell (show w.heap.size ≤ (⟨w.heap.size + 1, 0, none⟩ : Addr).block by simp) _).setCell (show w.heap.size ≤ (⟨w.heap.size + 1, 1, none⟩ : Addr).block by simp) _⟩
end
end Go.Proofs.Ytdimkeoncgjegaa
/-
  New, both sides, with its pages as lists.
-/
namespace Go.Proofs.Ytdimkeoncgjegaa
section
open Go.RowKit

/-- The bytes of a new disk. -/
def zb (n : Nat) : List UInt8 := List.replicate (n * 512) 0
theorem zb_len (n : Nat) : (zb n).length = n * 512 := List.length_replicate
theorem zb_marks (n : Nat) (h : 1 ≤ n) : marksOf (zb n) n = true :: List.replicate (n - 1) false := by
  apply List.ext_getElem
  · rw [marksOf_len, List.length_cons, List.length_replicate]; omega
  · intro i h1 h2
    rw [marksOf_len] at h1
    have hm : (marksOf (zb n) n)[i] = mark (zb n) i := by simp [marksOf]
    rw [hm]
    have hz : (zb n)[i * 512]? = some 0 := by
      unfold zb
      rw [List.getElem?_replicate, if_pos (by omega)]
    unfold mark
    rw [hz]
    cases i with
    | zero => rfl
    | succ i => simp
theorem newDP (n : Nat) (h1 : 1 ≤ n) (h2 : n ≤ 4096) (w : World) : Calls Try.prog 8 #[.int .i64 n] w (RetDP w n (pagesOf (zb n) n) (marksOf (zb n) n)) := by
  refine (new_any n h1 h2 w).mono ?_
  rintro e w' ⟨g, gb, gt, rfl, hd, k1, k2, k3, hb⟩
  rw [newMarks_eq (zb n) n h1] at hd
  have e1 : marksP (zb n) n 0 = marksOf (zb n) n := by rw [zb_marks n h1]; rfl
  rw [e1, zero_rep] at hd
  have hfl := pagesOf_all (zb n) n (zb_len n)
  exact ⟨g, gb, gt, rfl, ⟨by rw [hfl]; exact hd, pagesOf_full _ _ (by rw [zb_len]; exact Nat.le_refl _), pagesOf_len _ _⟩, k1, k2, k3, hb⟩
set_option maxHeartbeats 1000000 in
theorem rzeros_any (m : Nat) (hm : m ≤ 10000000) (w : World) : Calls Try.prog 22 #[.int .i64 m] w (RetB w (.string (str (List.replicate m 0)))) := by
  obtain ⟨i0, hi0, hz0, hs0, hy0⟩ := int_info8 Try.infoU8
  obtain ⟨Z, hZ⟩ : ∃ Z, List.replicate m (0 : UInt8) = Z := ⟨_, rfl⟩
  have e0 : madeCells #[.int .u8 0] m = bV Z := by
    rw [← hZ, ← fillA_rep 0 m]
    rw [fillA_zero (0 : Int) m]
    apply Array.ext
    · simp [fillA]
    · intro j h1 h2
      simp [fillA]
  have mk0 : ∀ W, (Instr.makeSlice 59 (.int .i64 (m : Int)) (.int .i64 (m : Int))).run Try.prog W = .ok (.slice (some ⟨W.heap.size, 0, none⟩) m m) (W.alloc (.cells (bV Z) 5)) := by
    intro W
    have h := run_make (P := Try.prog) W 59 5 i0 (.int .u8 0) Try.underlying59 hi0 hz0 .i64 .i64 (m : Int) (m : Int) (by omega) (by omega) (by rw [hy0]; omega) (by omega)
    rw [Int.toNat_natCast, hs0, Nat.mul_one] at h
    rw [← e0]
    exact h
  have hl : Z.length = m := by rw [← hZ, List.length_replicate]
  have cv := conv_blk (P := Try.prog) (Blk.new w 5 (bV Z)) 59 5 9 Try.underlying59 Try.underlying5 Try.underlying9 m m hl
  rw [hZ]
  clear hi0 hz0 hs0 hy0 e0 hZ hl
  go_enter Try.func22, Try.ntmps22
  go_wp2
  go_ret
  exact ⟨rfl, ball (Below.refl _ _) _⟩
set_option maxRecDepth 100000 in
set_option maxHeartbeats 2000000 in
theorem rnew_ok (n : Nat) (h1 : 1 ≤ n) (h2 : n ≤ 4096) (w : World) : Calls Try.prog 9 #[.int .i64 n] w (RetRD w n (pagesOf (zb n) n) (marksOf (zb n) n)) := by
  have ZC : Hid (∀ W, Calls Try.prog 22 #[.int .i64 (512 * (n : Int))] W (RetB W (.string (str (zb n))))) := by
    intro W
    have h := rzeros_any (n * 512) (by omega) W
    have e : ((n * 512 : Nat) : Int) = 512 * (n : Int) := by omega
    rw [e] at h
    exact h
  have LC := Lib.hid fun W => rload_ok (zb n) n h1 h2 (zb_len n) W
  obtain ⟨ps, hps⟩ : ∃ ps, pagesOf (zb n) n = ps := ⟨_, rfl⟩
  obtain ⟨T, hT⟩ : ∃ T, marksOf (zb n) n = T := ⟨_, rfl⟩
  obtain ⟨z, hz⟩ : ∃ z, zb n = z := ⟨_, rfl⟩
  rw [hps, hT] at LC ⊢
  rw [hz] at ZC LC
  clear hps hT hz
  have hR := Blk.new w 32 #[.slice none 0 0, .slice none 0 0]
  have hb := ball (Below.refl w.heap.size w) (.cells #[.slice none 0 0, .slice none 0 0] 32)
  have hzz : (w.alloc (.cells #[.slice none 0 0, .slice none 0 0] 32)).heap.size = w.heap.size + 1 := by simp
  have HH : Hid (∀ W, Below (w.alloc (.cells #[.slice none 0 0, .slice none 0 0] 32)).heap.size (w.alloc (.cells #[.slice none 0 0, .slice none 0 0] 32)) W → Blk W w.heap.size 32 #[.slice none 0 0, .slice none 0 0] ∧ Below w.heap.size w W ∧ w.heap.size + 1 ≤ W.heap.size) := fun W hW =>
    ⟨hR.below hW hR.lt, bto0 hb hW, by have := hW.size; omega⟩
  have h2I : (n : Int) ≤ 4096 := by omega
  have h1I : (1 : Int) ≤ (n : Int) := by omega
  clear hR hb hzz
  go_enter Try.func9, Try.ntmps9
  go_wp2_with fail
  refine (ZC.out _).mono ?_
  rintro e w1 ⟨rfl, hb1⟩
  go_wp2_with fail
  refine (LC.out _).mono ?_
  rintro e w2 ⟨A, c, A2, c2, rfl, hr1, hr2, hc1, hc2, hlo1, hlo2, hb2⟩
  obtain ⟨R2, b2, _⟩ := HH.out w2 (bto0 hb1 hb2)
  obtain ⟨_, _, z1⟩ := HH.out w1 hb1
  have r0 : w2.cell? ⟨w.heap.size, 0, none⟩ = some (.slice none 0 0) := R2.cell 0
  have r1 : w2.cell? ⟨w.heap.size, 1, none⟩ = some (.slice none 0 0) := R2.cell 1
  have f0 := R2.frozen 0
  have f1 := R2.frozen 1
  have HF := Lib.hid (And.intro hr1 (And.intro hr2 (And.intro hlo1 hlo2)))
  clear hr1 hr2 hlo1 hlo2 R2 hb1 hb2
  go_wp2
  obtain ⟨hr1, hr2, hlo1, hlo2⟩ := HF.out
  have q1 := reads_far (reads_far hr1 (p := ⟨w.heap.size, 0, none⟩) (fun ad h => by have := hlo1 ad h; show ad.block ≠ w.heap.size; omega) (.slice A n c)) (p := ⟨w.heap.size, 1, none⟩) (fun ad h => by have := hlo1 ad h; show ad.block ≠ w.heap.size; omega) (.slice A2 n c2)
  have q2 := reads_far (reads_far hr2 (p := ⟨w.heap.size, 0, none⟩) (fun ad h => by have := hlo2 ad h; show ad.block ≠ w.heap.size; omega) (.slice A n c)) (p := ⟨w.heap.size, 1, none⟩) (fun ad h => by have := hlo2 ad h; show ad.block ≠ w.heap.size; omega) (.slice A2 n c2)
  exact bodyPost_ret (v := .tuple #[.agg #[.slice A n c, .slice A2 n c2], .bool true]) (by simp [results, Try.results9, go_sem, r0, r1]) rfl
    ⟨A, c, A2, c2, rfl, q1, q2, hc1, hc2, fun ad h => by have := hlo1 ad h; omega, fun ad h => by have := hlo2 ad h; omega, (b2.setCell (show w.heap.size ≤ (⟨w.heap.size, 0, none⟩ : Addr).block by simp) _).setCell (show w.heap.size ≤ (⟨w.heap.size, 1, none⟩ : Addr).block by simp) _⟩
theorem rnew_bad (n : Int) (h : n < 1 ∨ 4096 < n) (w : World) : Calls Try.prog 9 #[.int .i64 n] w (RetB w (.tuple #[.agg #[.slice none 0 0, .slice none 0 0], .bool false])) := by
  by_cases h1 : n < 1
  · go_enter Try.func9, Try.ntmps9
    go_wp2
    exact bodyPost_ret (v := .tuple #[.agg #[.slice none 0 0, .slice none 0 0], .bool false]) (by simp [results, Try.results9, go_sem]) rfl ⟨rfl, ball (Below.refl _ _) _⟩
  · have h2 : 4096 < n := by omega
    go_enter Try.func9, Try.ntmps9
    go_wp2
    exact bodyPost_ret (v := .tuple #[.agg #[.slice none 0 0, .slice none 0 0], .bool false]) (by simp [results, Try.results9, go_sem]) rfl ⟨rfl, ball (Below.refl _ _) _⟩
end
end Go.Proofs.Ytdimkeoncgjegaa
/-
  Pool: the law's disk and example; Reset.
-/
namespace Go.Proofs.Ytdimkeoncgjegaa
section
set_option linter.unusedSimpArgs false
set_option linter.unusedVariables false
open Go.RowKit Go.Maps

def RetBegin (w : World) (n : Nat) (e : Ending) (w' : World) : Prop := ∃ g gb gt ps T, e = .returned (.pointer (some ⟨g, 0, none⟩)) ∧ DP w' g gb gt n ps T ∧ Below w.heap.size w w'
def fiveP : List Nat := [1, 2, 1, 3, 2]
def fiveV : Array Value := #[.int .u32 1, .int .u32 2, .int .u32 1, .int .u32 3, .int .u32 2]
theorem five_at (k p : Nat) (h : fiveP[k]? = some p) : fiveV[k]? = some (.int .u32 (p : Nat)) ∧ p < 4 := by
  have hk := lt_of_at h
  unfold fiveP at h hk
  simp only [List.length_cons, List.length_nil] at hk
  have : k = 0 ∨ k = 1 ∨ k = 2 ∨ k = 3 ∨ k = 4 := by omega
  rcases this with rfl | rfl | rfl | rfl | rfl <;> (simp at h; subst h; exact ⟨rfl, by omega⟩)
theorem five_end : fiveP.foldl (stepG 2) ([], 0, 0) = ([3, 2], 4, 1) := by decide +kernel
theorem stepG_small {size : Nat} {s : List Nat × Nat × Nat} {p k : Nat} (h1 : s.2.1 ≤ k) (h2 : s.2.2 ≤ k) : (stepG size s p).2.1 ≤ k + 1 ∧ (stepG size s p).2.2 ≤ k + 1 := by
  unfold stepG
  split <;> (simp only; omega)
theorem fold_small (size : Nat) : ∀ (l : List Nat) (s : List Nat × Nat × Nat) (k : Nat), s.2.1 ≤ k → s.2.2 ≤ k → (l.foldl (stepG size) s).2.1 ≤ k + l.length ∧ (l.foldl (stepG size) s).2.2 ≤ k + l.length
  | [], s, k, h1, h2 => ⟨h1, h2⟩
  | p :: l, s, k, h1, h2 => by
    have h := stepG_small (size := size) (p := p) h1 h2
    have := fold_small size l _ (k + 1) h.1 h.2
    simp only [List.foldl_cons, List.length_cons]
    omega
end
end Go.Proofs.Ytdimkeoncgjegaa
/-
  Pool: Reset; a nil pool.
-/
namespace Go.Proofs.Ytdimkeoncgjegaa
section
set_option linter.unusedSimpArgs false
set_option linter.unusedVariables false
open Go.RowKit Go.Maps

/-- clear of a map of the call's own. -/
theorem own_clear {w : World} {b n : Nat} {D : DataW Unit} (h : w.ownsMap Try.prog 36 Rp b n D) : ∃ w', (∀ ty, (Builtin.clear_ #[93] ty #[.map (some b)]).run Try.prog w = .ok (.tuple #[]) w') ∧ w'.ownsMap Try.prog 36 Rp b 0 (.map []) ∧ w.mapTurned w' b := by
  obtain ⟨es, clock, hb, F, hs, rfl⟩ := h
  refine ⟨ChangeMaps.setBlock w b (.map #[] clock), fun ty => ?_, ⟨#[], clock, ChangeMaps.heap_setBlock_same hb _, ⟨by simp, MapKept.stamped_empty clock, by simp⟩, Nat.le_refl _, rfl⟩, ⟨es, clock, #[], clock, hb, rfl⟩⟩
  have hu : Try.prog.underlying 93 = some (.map 36 94) := Try.underlying93
  simp [Builtin.clear_, run_underlying hu, MapKept.run_getObj_map hb, MapKept.run_setObj_map _ hb, Result.andThen, ChangeMaps.setBlock]
section
variable {w : World} {lo gp gd gb gt n : Nat} {ps : List (List UInt8)} {T : List Bool} {gm size : Nat} {K : List Fr} {D : DataW Unit} {rd ht : Nat}
end
/-! ### a nil pool -/
theorem nget_any (p : Int) (w : World) : Calls Try.prog 58 #[.pointer none, .int .u32 p] w fun e w' => e = .returned (.tuple #[.slice none 0 0, .int .i64 1]) ∧ w = w' := by
  go_enter Try.func58, Try.ntmps58
  go_wp2
  go_ret2
  exact ⟨rfl, rfl⟩
theorem nhead_any (p k : Int) (w : World) : Calls Try.prog 37 #[.pointer none, .int .u32 p, .int .u8 k] w (RetB w (.tuple #[.agg #[.int .u8 0, .int .u16 0, .int .u32 0], .slice none 0 0, .int .i64 1])) := by
  have G := Lib.hid fun W => nget_any p W
  go_enter Try.func37, Try.ntmps37
  go_wp2_with fail
  refine (G.out _).mono ?_
  rintro e w1 ⟨rfl, rfl⟩
  go_wp2
  exact bodyPost_ret (v := .tuple #[.agg #[.int .u8 0, .int .u16 0, .int .u32 0], .slice none 0 0, .int .i64 1]) (by simp only [results, Try.results37]; simp [go_sem]) rfl ⟨rfl, ball (Below.refl _ _) _⟩
theorem npages_any (w : World) : Calls Try.prog 56 #[.pointer none] w fun e w' => e = .returned (.int .i64 0) ∧ w = w' := by
  go_enter Try.func56, Try.ntmps56
  go_wp2
  go_ret
  exact ⟨rfl, rfl⟩
end
end Go.Proofs.Ytdimkeoncgjegaa
/-
  Rows of the call's own: clear, what they are as a string; a row whose block stays.
-/
namespace Go.Proofs.Ytdimkeoncgjegaa
section
set_option linter.unusedSimpArgs false
set_option linter.unusedVariables false
open Go.RowKit

theorem bel3_setCells {B g : Nat} {w0 : World} (hB : B ≤ g) : ∀ (vs : List Value) (o : Nat) (w : World), Below B w0 w → Below B w0 (w.setCells g o vs)
  | [], _, _, h => h
  | v :: r, o, _, h => bel3_setCells hB r (o + 1) _ (h.setCell hB v)
theorem siz3_setCells (g : Nat) : ∀ (vs : List Value) (o : Nat) (w : World), (w.setCells g o vs).heap.size = w.heap.size
  | [], _, _ => rfl
  | v :: r, o, w => (siz3_setCells g r (o + 1) _).trans (by simp [World.setCell])
theorem Try.zeroB3 (w : World) : (zeroValue 5).run Try.prog w = .ok (.int .u8 0) w := by kernel_rfl
/-- clear(own). -/
theorem Own.clr {w : World} {base : Nat} {A : Option Addr} {n c : Nat} {l : List UInt8} (h : Own w base (.slice A n c) l) :
    ∃ w', (∀ ty, (Builtin.clear_ #[59] ty #[.slice A n c]).run Try.prog w = .ok (.tuple #[]) w') ∧ (∀ B w0, B ≤ base → Below B w0 w → Below B w0 w') ∧
      (∀ g, g < w.heap.size → (Value.slice A n c).ownBlock ≠ some g → w'.heap[g]? = w.heap[g]?) ∧ w'.heap.size = w.heap.size := by
  rcases Nat.eq_zero_or_pos n with h0 | h0
  · subst h0
    refine ⟨w, fun ty => ?_, fun _ _ _ k => k, fun _ _ _ => rfl, rfl⟩
    have ht : Try.prog.underlying 59 = some (.slice 5) := Try.underlying59
    cases A <;> simp [Builtin.clear_, run_underlying ht, Sem.run_pure]
  · have hn : n = l.length := h.reads.2
    obtain ⟨g, cap, hv, hbase, hlt⟩ := World.ownsRow.form h (by omega)
    have hA : A = some ⟨g, 0, none⟩ := by injection hv
    have hcc : c = cap := by injection hv
    subst hA; subst hcc
    have h' : w.ownsRow base 5 1 (.slice (some ⟨g, 0, none⟩) l.length c) l.length (bL l) := by rw [hn] at h; exact h
    refine ⟨w.setCells g 0 (List.replicate n (.int .u8 0)), fun ty => ?_, ?_, ?_, by rw [siz3_setCells]⟩
    · refine Lib.run_clear_slice w _ _ ty _ Try.underlying59 Try.zeroB3 rfl rfl g 0 n c h0 (fun j hj => ?_) (fun j hj => ?_)
      · rw [Nat.zero_add, h'.cellAt j (by omega), List.getElem?_eq_getElem (by rw [bL_len]; omega)]
        rfl
      · rw [Nat.zero_add]
        exact h'.frozenAt j
    · intro B w0 hB hb
      exact bel3_setCells (by omega) _ _ _ hb
    · intro g' hg' hne
      refine World.heap_setCells_other w g 0 _ hg' (fun e => hne ?_)
      subst e
      rfl
theorem Reads.cnv {w : World} {B : Nat} {A : Option Addr} {n c : Nat} {l : List UInt8} (h : Reads w B 1 A n (bL l)) :
    (convert 59 9 (.slice A n c)).run Try.prog w = .ok (.string (str l)) w :=
  conv_reads (P := Try.prog) h 59 5 9 Try.underlying59 Try.underlying5 Try.underlying9 c
end
end Go.Proofs.Ytdimkeoncgjegaa
