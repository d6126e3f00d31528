/-
  Dr Ds.
-/
import Derived.Test.YtebobcbaloddaaaGreatMoai
import Derived.Test.YtebobcbaloddaaaGreatMoap
namespace Go.Proofs.YtebobcbaloddaaaGreat
section
set_option linter.unusedSimpArgs false
set_option linter.unusedVariables false
open Go.RowKit
structure DP (w : World) (g gb gt n : Nat) (ps : List (List UInt8)) (T : List Bool) : Prop where
 dk : Dk w g gb gt n (bV ps.flatten) (tV T)
 full : Full ps
 hp : ps.length = n
section
variable {w w' : World} {g gb gt n : Nat} {ps : List (List UInt8)} {T : List Bool}
theorem DP.hT (h : DP w g gb gt n ps T) : T.length = n := by have := h.dk.ht; rwa [tV_size] at this
theorem DP.below (h : DP w g gb gt n ps T) {B : Nat} (hb : Below B w w') (h1 : g < B) (h2 : gb < B) (h3 : gt < B) : DP w' g gb gt n ps T := ⟨h.dk.below hb h1 h2 h3, h.full, h.hp⟩
theorem DP.lts (h : DP w g gb gt n ps T) : g < w.heap.size ∧ gb < w.heap.size ∧ gt < w.heap.size := ⟨h.dk.d.lt, h.dk.b.lt, h.dk.t.lt⟩
theorem DP.mark (h : DP w g gb gt n ps T) (i : Nat) (b : Bool) : DP (w.setCell ⟨gt, i, none⟩ (.bool b)) g gb gt n ps (T.set i b) :=
 ⟨by rw [← tV_set]; exact h.dk.mark i _, h.full, h.hp⟩
theorem read_out (h : DP w g gb gt n ps T) (p : Nat) (hp : n ≤ p) (hp2 : p ≤ 4294967295) (hn : n ≤ 1000000) :
 Calls Tryz.prog 55 #[.pointer (some ⟨g, 0, none⟩), .int .u32 p] w fun e w' => e = .returned (.tuple #[.slice none 0 0, .int .i64 8]) ∧ w = w' := by
 have HB := Lib.hid (has_any h.dk p (by omega) (by omega) hn)
 have hd : decide (p < n) = false := decide_eq_false (by omega)
 clear h
 go_enter Tryz.func55, Tryz.ntmps55
 go_wp2_with (go_at_call 84; refine HB.out.mono ?_; rintro e w' ⟨rfl, rfl⟩)
 go_ret2
 exact ⟨rfl, rfl⟩
def RetRead (w : World) (q : List UInt8) (e : Ending) (w' : World) : Prop := e = .returned (.tuple #[.slice (some ⟨w.heap.size, 0, none⟩) 512 512, .int .i64 0]) ∧ Blk w' w.heap.size 5 (bV q) ∧ Below w.heap.size w w'
set_option maxHeartbeats 1000000 in
theorem read_ok (h : DP w g gb gt n ps T) (p : Nat) (q : List UInt8) (hq : ps[p]? = some q) (hn : n ≤ 1000000) :
 Calls Tryz.prog 55 #[.pointer (some ⟨g, 0, none⟩), .int .u32 p] w (RetRead w q) := by
 have hp : p < n := by rw [← h.hp]; exact lt_of_at hq
 obtain ⟨i0, hi0, hz0, hs0, hy0⟩ := int_info8 Tryz.infoU8
 have mk0 : ∀ W, (Instr.makeSlice 58 (.int .i64 512) (.int .i64 512)).run Tryz.prog W = .ok (.slice (some ⟨W.heap.size, 0, none⟩) 512 512) (W.alloc (.cells (zeroBytes 1) 5)) := by
  intro W
  have h := run_make (P := Tryz.prog) W 58 5 i0 (.int .u8 0) Tryz.underlying58 hi0 hz0 .i64 .i64 512 512 (by omega) (by omega) (by rw [hy0]; omega) (by omega)
  rw [hs0] at h
  exact h
 clear hi0 hz0 hs0 hy0
 have hgl := h.lts
 have hql : (bL q).length = 512 := by rw [bL_len]; exact h.full q (List.mem_of_getElem? hq)
 have hZ : (zeroBytes 1).size = 512 := by simp [zeroBytes, size_madeCells]
 have hsrc : Hid (∀ W, Below w.heap.size w W → ∀ j v, (bL q)[j]? = some v → W.cell? ((⟨gb, p * 512, none⟩ : Addr).add j) = some v) := by
  intro W hW j v hv
  have e : (⟨gb, p * 512, none⟩ : Addr).add j = ⟨gb, p * 512 + j, none⟩ := by unfold Addr.add; split <;> simp_all
  rw [e, (h.dk.b.below hW hgl.2.1).cell]
  have hj := lt_of_at hv
  rw [hql] at hj
  rw [← pflat_page ps h.full p q hq] at hv
  simp only [bL, List.getElem?_map, List.getElem?_take_of_lt hj, List.getElem?_drop] at hv
  rw [bV, List.getElem?_toArray, bL, List.getElem?_map]
  exact hv
 have hinfo : (Tryz.prog.info? 5).map (·.size) = some 1 := by kernel_rfl
 have HI := Lib.hid hinfo; clear hinfo
 have HB := Lib.hid (has_any h.dk p (by omega) (by omega) hn)
 have HP := Lib.hid fun W (hW : Below w.heap.size w W) => dpage_any (h.dk.below hW hgl.1 hgl.2.1 hgl.2.2) p hp hn
 have hd : decide ((p : Int) < (n : Int)) = true := decide_eq_true (by omega)
 have Hql := Lib.hid hql; clear hql
 have HZ := Lib.hid hZ; clear hZ
 have hne : ((w.alloc (.cells (zeroBytes 1) 5)).setRow w.heap.size (splice (zeroBytes 1).toList 0 (bL q)).toArray) = ((w.alloc (.cells (zeroBytes 1) 5)).setRow w.heap.size (bV q)) := by
  rw [splice_all _ _ (by rw [Hql.out]; simpa using HZ.out)]
  rfl
 have HNE := Lib.hid hne; clear hne
 have hB : Below w.heap.size w ((w.alloc (.cells (zeroBytes 1) 5)).setRow w.heap.size (bV q)) := below_setRow (ball (Below.refl _ _) _) (Nat.le_refl _) _
 have hBk : Blk ((w.alloc (.cells (zeroBytes 1) 5)).setRow w.heap.size (bV q)) w.heap.size 5 (bV q) := setRow_at (Blk.new _ _ _)
 have HBB := Lib.hid (And.intro hB hBk); clear hB hBk
 clear h hq
 obtain ⟨W2, hW2⟩ : ∃ W2, ((w.alloc (.cells (zeroBytes 1) 5)).setRow w.heap.size (bV q)) = W2 := ⟨_, rfl⟩
 rw [hW2] at HBB HNE
 clear hW2
 go_enter Tryz.func55, Tryz.ntmps55
 go_wp2_with (first
  | (go_at_call 84; refine HB.out.mono ?_; rintro e w' ⟨rfl, rfl⟩)
  | (go_at_call 85; refine (HP.out _ (ball (Below.refl _ _) _)).mono ?_; rintro e w' ⟨rfl, rfl⟩)
  | (refine wpList_copy_own rfl _ _ 58 58 rfl 5 Tryz.underlying58 HI.out w.heap.size 0 512 512 ⟨gb, p * 512, none⟩ 512 (n * 512 - p * 512) rfl rfl (zeroBytes 1) 5 (Blk.new _ _ _) (bL q) (by rw [Hql.out]; rfl) (hsrc.out _ (ball (Below.refl _ _) _)) (by rw [Hql.out, HZ.out]; exact Nat.le_refl _) (bL_one q) ?_; (show wpList _ _ _ _ _ ((w.alloc (.cells (zeroBytes 1) 5)).setRow w.heap.size (splice (zeroBytes 1).toList 0 (bL q)).toArray)); rw [HNE.out]))
 go_ret2
 exact ⟨rfl, HBB.out.2, HBB.out.1⟩
end
end
end Go.Proofs.YtebobcbaloddaaaGreat
namespace Go.Proofs.YtebobcbaloddaaaGreat
section
set_option linter.unusedSimpArgs false
set_option linter.unusedVariables false
open Go.RowKit
end
end Go.Proofs.YtebobcbaloddaaaGreat
