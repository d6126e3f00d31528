/-
  Several texts in one: Dr Ds.
-/
import Derived.Test.YtebobcbaloddaaaMuai
import Derived.Test.YtebobcbaloddaaaMuap
/-
  Contracts of the disk, its pages as lists: Left, Read, Take.
-/
namespace Go.Proofs.Ytebobcbaloddaaa
section
set_option linter.unusedSimpArgs false
set_option linter.unusedVariables false
open Go.RowKit

/-- A disk that holds these pages and marks. -/
structure DP (w : World) (g gb gt n : Nat) (ps : List (List UInt8)) (T : List Bool) : Prop where
  dk : Dk w g gb gt n (bV ps.flatten) (tV T)
  full : Full ps
  hp : ps.length = n
section
variable {w w' : World} {g gb gt n : Nat} {ps : List (List UInt8)} {T : List Bool}
theorem DP.hT (h : DP w g gb gt n ps T) : T.length = n := by have := h.dk.ht; rwa [tV_size] at this
theorem DP.below (h : DP w g gb gt n ps T) {B : Nat} (hb : Below B w w') (h1 : g < B) (h2 : gb < B) (h3 : gt < B) : DP w' g gb gt n ps T := ⟨h.dk.below hb h1 h2 h3, h.full, h.hp⟩
theorem DP.lts (h : DP w g gb gt n ps T) : g < w.heap.size ∧ gb < w.heap.size ∧ gt < w.heap.size := ⟨h.dk.d.lt, h.dk.b.lt, h.dk.t.lt⟩
theorem DP.mark (h : DP w g gb gt n ps T) (i : Nat) (b : Bool) : DP (w.setCell ⟨gt, i, none⟩ (.bool b)) g gb gt n ps (T.set i b) :=
  ⟨by rw [← tV_set]; exact h.dk.mark i _, h.full, h.hp⟩

theorem left_any (h : DP w g gb gt n ps T) (hn : n ≤ 1000000) : Calls Try.prog 8 #[.pointer (some ⟨g, 0, none⟩)] w fun e w' => e = .returned (.int .i64 (freeN T : Int)) ∧ w = w' := by
  have L := Lib.hid (len_any h.dk)
  have c1 : w.cell? ⟨g, 1, none⟩ = some (.slice (some ⟨gt, 0, none⟩) n n) := h.dk.d.cell 1
  have HT := Lib.hid h.hT
  have ct := fun j => h.dk.t.cell j
  have CT := Lib.hid ct; clear ct
  clear h
  go_enter Try.func8, Try.ntmps8
  go_wp2_with (go_at_call 16; refine L.out.mono ?_; rintro e w' ⟨rfl, rfl⟩)
  go_loop [3, 7] (fun u v => ∃ k : Nat, u = .int .i64 (freeN (T.take k) : Nat) ∧ v = .int .i64 k ∧ k ≤ n) (fun _ v => n - (intOf v).toNat)
  case atStart => exact ⟨0, rfl, rfl, by omega⟩
  case round =>
    obtain ⟨k, rfl, rfl, hk⟩ := hrel
    by_cases hki : k < n
    · have g1 : (0 : Int) ≤ (k : Int) := by omega
      have g2 : (k : Int) < (n : Int) := by omega
      obtain ⟨b, hb⟩ : ∃ b, T[k]? = some b := ⟨_, List.getElem?_eq_getElem (by rw [HT.out]; exact hki)⟩
      have c2 : w.cell? ⟨gt, k, none⟩ = some (.bool b) := (CT.out k).trans (tV_at hb)
      have fs := Lib.hid (free_succ T k b hb)
      have fl := free_le T k
      obtain ⟨F, hF⟩ : ∃ F, freeN (T.take k) = F := ⟨_, rfl⟩
      rw [hF] at fs fl ⊢
      clear hF hb
      cases b
      · go_wp2
        go_round
        case rel => exact ⟨k + 1, by rw [fs.out]; go_num, by go_num, by omega⟩
        case measure => simp [intOf]; omega
      · go_wp2
        go_round
        case rel => exact ⟨k + 1, by rw [fs.out]; go_num, by go_num, by omega⟩
        case measure => simp [intOf]; omega
    · obtain rfl : n = k := by omega
      have e1 : T.take n = T := List.take_of_length_le (by rw [HT.out]; exact Nat.le_refl _)
      rw [e1]
      go_wp2
      go_ret
      exact ⟨rfl, rfl⟩

theorem read_out (h : DP w g gb gt n ps T) (p : Nat) (hp : n ≤ p) (hp2 : p ≤ 4294967295) (hn : n ≤ 1000000) :
    Calls Try.prog 65 #[.pointer (some ⟨g, 0, none⟩), .int .u32 p] w fun e w' => e = .returned (.tuple #[.slice none 0 0, .int .i64 8]) ∧ w = w' := by
  have HB := Lib.hid (has_any h.dk p (by omega) (by omega) hn)
  have hd : decide (p < n) = false := decide_eq_false (by omega)
  clear h
  go_enter Try.func65, Try.ntmps65
  go_wp2_with (go_at_call 56; refine HB.out.mono ?_; rintro e w' ⟨rfl, rfl⟩)
  go_ret2
  exact ⟨rfl, rfl⟩

def RetRead (w : World) (q : List UInt8) (e : Ending) (w' : World) : Prop := e = .returned (.tuple #[.slice (some ⟨w.heap.size, 0, none⟩) 512 512, .int .i64 0]) ∧ Blk w' w.heap.size 5 (bV q) ∧ Below w.heap.size w w'
set_option maxHeartbeats 1000000 in
theorem read_ok (h : DP w g gb gt n ps T) (p : Nat) (q : List UInt8) (hq : ps[p]? = some q) (hn : n ≤ 1000000) :
    Calls Try.prog 65 #[.pointer (some ⟨g, 0, none⟩), .int .u32 p] w (RetRead w q) := by
  have hp : p < n := by rw [← h.hp]; exact lt_of_at hq
  obtain ⟨i0, hi0, hz0, hs0, hy0⟩ := int_info8 Try.infoU8
  have mk0 : ∀ W, (Instr.makeSlice 50 (.int .i64 512) (.int .i64 512)).run Try.prog W = .ok (.slice (some ⟨W.heap.size, 0, none⟩) 512 512) (W.alloc (.cells (zeroBytes 1) 5)) := by
    intro W
    have h := run_make (P := Try.prog) W 50 5 i0 (.int .u8 0) Try.underlying50 hi0 hz0 .i64 .i64 512 512 (by omega) (by omega) (by rw [hy0]; omega) (by omega)
    rw [hs0] at h
    exact h
  clear hi0 hz0 hs0 hy0
  have hgl := h.lts
  have hql : (bL q).length = 512 := by rw [bL_len]; exact h.full q (List.mem_of_getElem? hq)
  have hZ : (zeroBytes 1).size = 512 := by simp [zeroBytes, size_madeCells]
  have hsrc : Hid (∀ W, Below w.heap.size w W → ∀ j v, (bL q)[j]? = some v → W.cell? ((⟨gb, p * 512, none⟩ : Addr).add j) = some v) := by
    intro W hW j v hv
    have e : (⟨gb, p * 512, none⟩ : Addr).add j = ⟨gb, p * 512 + j, none⟩ := by unfold Addr.add; split <;> simp_all
    rw [e, (h.dk.b.below hW hgl.2.1).cell]
    have hj := lt_of_at hv
    rw [hql] at hj
    rw [← pflat_page ps h.full p q hq] at hv
    simp only [bL, List.getElem?_map, List.getElem?_take_of_lt hj, List.getElem?_drop] at hv
    rw [bV, List.getElem?_toArray, bL, List.getElem?_map]
    exact hv
  have hinfo : (Try.prog.info? 5).map (·.size) = some 1 := by kernel_rfl
  have HI := Lib.hid hinfo; clear hinfo
  have HB := Lib.hid (has_any h.dk p (by omega) (by omega) hn)
  have HP := Lib.hid fun W (hW : Below w.heap.size w W) => dpage_any (h.dk.below hW hgl.1 hgl.2.1 hgl.2.2) p hp hn
  have hd : decide ((p : Int) < (n : Int)) = true := decide_eq_true (by omega)
  have Hql := Lib.hid hql; clear hql
  have HZ := Lib.hid hZ; clear hZ
  have hne : ((w.alloc (.cells (zeroBytes 1) 5)).setRow w.heap.size (splice (zeroBytes 1).toList 0 (bL q)).toArray) = ((w.alloc (.cells (zeroBytes 1) 5)).setRow w.heap.size (bV q)) := by
    rw [splice_all _ _ (by rw [Hql.out]; simpa using HZ.out)]
    rfl
  have HNE := Lib.hid hne; clear hne
  have hB : Below w.heap.size w ((w.alloc (.cells (zeroBytes 1) 5)).setRow w.heap.size (bV q)) := below_setRow (ball (Below.refl _ _) _) (Nat.le_refl _) _
  have hBk : Blk ((w.alloc (.cells (zeroBytes 1) 5)).setRow w.heap.size (bV q)) w.heap.size 5 (bV q) := setRow_at (Blk.new _ _ _)
  have HBB := Lib.hid (And.intro hB hBk); clear hB hBk
  clear h hq
  obtain ⟨W2, hW2⟩ : ∃ W2, ((w.alloc (.cells (zeroBytes 1) 5)).setRow w.heap.size (bV q)) = W2 := ⟨_, rfl⟩
  rw [hW2] at HBB HNE
  clear hW2
  go_enter Try.func65, Try.ntmps65
  go_wp2_with (first
    | (go_at_call 56; refine HB.out.mono ?_; rintro e w' ⟨rfl, rfl⟩)
    | (go_at_call 57; refine (HP.out _ (ball (Below.refl _ _) _)).mono ?_; rintro e w' ⟨rfl, rfl⟩)
    | (refine wpList_copy_own rfl _ _ 50 50 rfl 5 Try.underlying50 HI.out w.heap.size 0 512 512 ⟨gb, p * 512, none⟩ 512 (n * 512 - p * 512) rfl rfl (zeroBytes 1) 5 (Blk.new _ _ _) (bL q) (by rw [Hql.out]; rfl) (hsrc.out _ (ball (Below.refl _ _) _)) (by rw [Hql.out, HZ.out]; exact Nat.le_refl _) (bL_one q) ?_; (show wpList _ _ _ _ _ ((w.alloc (.cells (zeroBytes 1) 5)).setRow w.heap.size (splice (zeroBytes 1).toList 0 (bL q)).toArray)); rw [HNE.out]))
  go_ret2
  exact ⟨rfl, HBB.out.2, HBB.out.1⟩
end

theorem first_free : ∀ T : List Bool, (∃ i : Nat, T[i]? = some false ∧ ∀ j : Nat, j < i → T[j]? = some true) ∨ (∀ j : Nat, j < T.length → T[j]? = some true)
  | [] => .inr (by simp)
  | false :: T => .inl ⟨0, rfl, by omega⟩
  | true :: T => by
    rcases first_free T with ⟨i, h1, h2⟩ | h
    · refine .inl ⟨i + 1, by simpa using h1, fun j hj => ?_⟩
      cases j with
      | zero => rfl
      | succ j => simpa using h2 j (by omega)
    · refine .inr fun j hj => ?_
      cases j with
      | zero => rfl
      | succ j => simpa using h j (by simpa using hj)
end
end Go.Proofs.Ytebobcbaloddaaa
/-
  A page of bytes that are all the same, of any size; the disk's Copy.
-/
namespace Go.Proofs.Ytebobcbaloddaaa
section
set_option linter.unusedSimpArgs false
set_option linter.unusedVariables false
open Go.RowKit

def RetCopy (w : World) (n : Nat) (ps : List (List UInt8)) (T : List Bool) (e : Ending) (w' : World) : Prop :=
  ∃ g gb gt, e = .returned (.pointer (some ⟨g, 0, none⟩)) ∧ DP w' g gb gt n ps T ∧ w.heap.size ≤ g ∧ w.heap.size ≤ gb ∧ w.heap.size ≤ gt ∧ Below w.heap.size w w'
end
end Go.Proofs.Ytebobcbaloddaaa
