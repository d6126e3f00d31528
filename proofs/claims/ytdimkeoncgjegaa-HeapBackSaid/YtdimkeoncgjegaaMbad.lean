/-
  Several texts in one: Dh Dr Pa Pb Ds.
-/
import Derived.Test.YtdimkeoncgjegaaMbac
import Derived.Test.YtdimkeoncgjegaaMbab
import Derived.Deep.RegionHeld3
import Derived.BigGuardPart
import Derived.BigQuiet
import Derived.Laws.LoneSync
import Derived.RegionTactic
/-
  The law DiskApart's walk: pages written, the loop over the operations.
-/
namespace Go.Proofs.Ytdimkeoncgjegaa
section
open Go.RowKit

theorem fillA_rep (b : UInt8) (n : Nat) : fillA (b.toNat : Int) n n = bV (List.replicate n b) := by
  apply Array.ext
  · simp [fillA, bV_size]
  · intro j h1 h2
    have hj : j < n := by simpa [fillA] using h1
    have : (bV (List.replicate n b))[j]? = some (.int .u8 (b.toNat : Int)) := bV_at (by simp [hj])
    rw [Array.getElem?_eq_getElem h2] at this
    simp only [fillA, Array.getElem_ofFn, if_pos hj]
    exact (Option.some.inj this).symm
theorem zero_rep (n : Nat) : zeroBytes n = bV (List.replicate (n * 512) 0) := by
  apply Array.ext
  · simp [zeroBytes, bV_size, size_madeCells]
  · intro j h1 h2
    have hj : j < n * 512 := by simpa [zeroBytes, size_madeCells] using h1
    have : (bV (List.replicate (n * 512) 0))[j]? = some (.int .u8 ((0 : UInt8).toNat : Int)) := bV_at (by simp [hj])
    rw [Array.getElem?_eq_getElem h2] at this
    rw [Option.some.inj this]
    simp [zeroBytes, madeCells, Nat.mod_one]
theorem byte_of {x : Int} (h0 : 0 ≤ x) (h1 : x ≤ 255) : ∃ b : UInt8, x = (b.toNat : Int) := ⟨UInt8.ofNat x.toNat, by simp; omega⟩
/-- A disk that holds these bytes. -/
def DkL (w : World) (g gb gt n : Nat) (L : List UInt8) : Prop := L.length = n * 512 ∧ ∃ ts, Dk w g gb gt n (bV L) ts
theorem DkL.below {w w' : World} {g gb gt n B : Nat} {L : List UInt8} (h : DkL w g gb gt n L) (hb : Below B w w') (h1 : g < B) (h2 : gb < B) (h3 : gt < B) : DkL w' g gb gt n L := by
  obtain ⟨hl, ts, hd⟩ := h
  exact ⟨hl, ts, hd.below hb h1 h2 h3⟩
theorem DkL.lts {w : World} {g gb gt n : Nat} {L : List UInt8} (h : DkL w g gb gt n L) : g < w.heap.size ∧ gb < w.heap.size ∧ gt < w.heap.size := by
  obtain ⟨hl, ts, hd⟩ := h
  exact ⟨hd.d.lt, hd.b.lt, hd.t.lt⟩
/-- What a write leaves: the disk with these bytes; every other block as it was. -/
def Wrote (w : World) (g gb gt n : Nat) (L : List UInt8) (e : Ending) (w' : World) : Prop :=
  e = .returned (.int .i64 0) ∧ DkL w' g gb gt n L ∧ (∀ B, B ≤ gb → B ≤ gt → Below B w w') ∧ (∀ g', g' ≠ gb → g' ≠ gt → w'.heap[g']? = w.heap[g']?) ∧ w'.heap.size = w.heap.size
theorem writeL {w : World} {g gb gt n : Nat} {L : List UInt8} (h : DkL w g gb gt n L) (p : Nat) (hp : p < n) (hn : n ≤ 1000000) (ad : Addr) (c B : Nat) (r : List UInt8) (hr : Reads w B 1 (some ad) 512 (bL r)) :
    Calls Try.prog 28 #[.pointer (some ⟨g, 0, none⟩), .int .u32 p, .slice (some ad) 512 c] w (Wrote w g gb gt n (splice L (p * 512) r)) := by
  obtain ⟨hl, ts, hd⟩ := h
  have hu : ts[p]? = some (ts[p]'(by rw [hd.ht]; exact hp)) := Array.getElem?_eq_getElem _
  have hrl : r.length = 512 := by have := hr.1; rw [bL_len] at this; omega
  refine (write_ok hd p hp hn ad c B (bL r) hr (bL_one r) _ hu).mono ?_
  rintro e w' ⟨rfl, rfl⟩
  rw [splice_bV]
  have hl2 : (splice L (p * 512) r).length = n * 512 := by rw [length_splice _ _ _ (by omega), hl]
  have h1 := hd.wrote (new := bV (splice L (p * 512) r)) (by rw [bV_size, hl2])
  refine ⟨rfl, ⟨hl2, _, h1.mark p _⟩, ?_, ?_, ?_⟩
  · intro B h1 h2
    exact (below_setRow (Below.refl _ _) h1 _).setCell h2 _
  · intro g' h1 h2
    exact (Below.heap_setCell _ _ _ _ h2).trans (setRow_other _ _ _ _ h1)
  · simp [World.setCell, World.setRow]
end
end Go.Proofs.Ytdimkeoncgjegaa
/-
  Contracts of the disk, its pages as lists: Left, Read, Take.
-/
namespace Go.Proofs.Ytdimkeoncgjegaa
section
open Go.RowKit

/-- A disk that holds these pages and marks. -/
structure DP (w : World) (g gb gt n : Nat) (ps : List (List UInt8)) (T : List Bool) : Prop where
  dk : Dk w g gb gt n (bV ps.flatten) (tV T)
  full : Full ps
  hp : ps.length = n
section
variable {w w' : World} {g gb gt n : Nat} {ps : List (List UInt8)} {T : List Bool}
theorem DP.hT (h : DP w g gb gt n ps T) : T.length = n := by have := h.dk.ht; rwa [tV_size] at this
theorem DP.below (h : DP w g gb gt n ps T) {B : Nat} (hb : Below B w w') (h1 : g < B) (h2 : gb < B) (h3 : gt < B) : DP w' g gb gt n ps T := ⟨h.dk.below hb h1 h2 h3, h.full, h.hp⟩
theorem DP.lts (h : DP w g gb gt n ps T) : g < w.heap.size ∧ gb < w.heap.size ∧ gt < w.heap.size := ⟨h.dk.d.lt, h.dk.b.lt, h.dk.t.lt⟩
theorem DP.mark (h : DP w g gb gt n ps T) (i : Nat) (b : Bool) : DP (w.setCell ⟨gt, i, none⟩ (.bool b)) g gb gt n ps (T.set i b) :=
  ⟨by rw [← tV_set]; exact h.dk.mark i _, h.full, h.hp⟩

theorem left_any (h : DP w g gb gt n ps T) (hn : n ≤ 1000000) : Calls Try.prog 32 #[.pointer (some ⟨g, 0, none⟩)] w fun e w' => e = .returned (.int .i64 (freeN T : Int)) ∧ w = w' := by
  have L := Lib.hid (len_any h.dk)
  have c1 : w.cell? ⟨g, 1, none⟩ = some (.slice (some ⟨gt, 0, none⟩) n n) := h.dk.d.cell 1
  have HT := Lib.hid h.hT
  have ct := fun j => h.dk.t.cell j
  have CT := Lib.hid ct; clear ct
  clear h
  go_enter Try.func32, Try.ntmps32
  go_wp2_with (go_at_call 40; refine L.out.mono ?_; rintro e w' ⟨rfl, rfl⟩)
  go_loop [3, 7] (fun u v => ∃ k : Nat, u = .int .i64 (freeN (T.take k) : Nat) ∧ v = .int .i64 k ∧ k ≤ n) (fun _ v => n - (intOf v).toNat)
  case atStart => exact ⟨0, rfl, rfl, by omega⟩
  case round =>
    obtain ⟨k, rfl, rfl, hk⟩ := hrel
    by_cases hki : k < n
    · have g1 : (0 : Int) ≤ (k : Int) := by omega
      have g2 : (k : Int) < (n : Int) := by omega
      obtain ⟨b, hb⟩ : ∃ b, T[k]? = some b := ⟨_, List.getElem?_eq_getElem (by rw [HT.out]; exact hki)⟩
      have c2 : w.cell? ⟨gt, k, none⟩ = some (.bool b) := (CT.out k).trans (tV_at hb)
      have fs := Lib.hid (free_succ T k b hb)
      have fl := free_le T k
      obtain ⟨F, hF⟩ : ∃ F, freeN (T.take k) = F := ⟨_, rfl⟩
      rw [hF] at fs fl ⊢
      clear hF hb
      cases b
      · go_wp2
        go_round
        case rel => exact ⟨k + 1, by rw [fs.out]; go_num, by go_num, by omega⟩
        case measure => simp [intOf]; omega
      · go_wp2
        go_round
        case rel => exact ⟨k + 1, by rw [fs.out]; go_num, by go_num, by omega⟩
        case measure => simp [intOf]; omega
    · obtain rfl : n = k := by omega
      have e1 : T.take n = T := List.take_of_length_le (by rw [HT.out]; exact Nat.le_refl _)
      rw [e1]
      go_wp2
      go_ret
      exact ⟨rfl, rfl⟩

theorem read_out (h : DP w g gb gt n ps T) (p : Nat) (hp : n ≤ p) (hp2 : p ≤ 4294967295) (hn : n ≤ 1000000) :
    Calls Try.prog 71 #[.pointer (some ⟨g, 0, none⟩), .int .u32 p] w fun e w' => e = .returned (.tuple #[.slice none 0 0, .int .i64 8]) ∧ w = w' := by
  have HB := Lib.hid (has_any h.dk p (by omega) (by omega) hn)
  have hd : decide (p < n) = false := decide_eq_false (by omega)
  clear h
  go_enter Try.func71, Try.ntmps71
  go_wp2_with (go_at_call 49; refine HB.out.mono ?_; rintro e w' ⟨rfl, rfl⟩)
  go_ret2
  exact ⟨rfl, rfl⟩

def RetRead (w : World) (q : List UInt8) (e : Ending) (w' : World) : Prop := e = .returned (.tuple #[.slice (some ⟨w.heap.size, 0, none⟩) 512 512, .int .i64 0]) ∧ Blk w' w.heap.size 5 (bV q) ∧ Below w.heap.size w w'
set_option maxHeartbeats 1000000 in
theorem read_ok (h : DP w g gb gt n ps T) (p : Nat) (q : List UInt8) (hq : ps[p]? = some q) (hn : n ≤ 1000000) :
    Calls Try.prog 71 #[.pointer (some ⟨g, 0, none⟩), .int .u32 p] w (RetRead w q) := by
  have hp : p < n := by rw [← h.hp]; exact lt_of_at hq
  obtain ⟨i0, hi0, hz0, hs0, hy0⟩ := int_info8 Try.infoU8
  have mk0 : ∀ W, (Instr.makeSlice 59 (.int .i64 512) (.int .i64 512)).run Try.prog W = .ok (.slice (some ⟨W.heap.size, 0, none⟩) 512 512) (W.alloc (.cells (zeroBytes 1) 5)) := by
    intro W
    have h := run_make (P := Try.prog) W 59 5 i0 (.int .u8 0) Try.underlying59 hi0 hz0 .i64 .i64 512 512 (by omega) (by omega) (by rw [hy0]; omega) (by omega)
    rw [hs0] at h
    exact h
  clear hi0 hz0 hs0 hy0
  have hgl := h.lts
  have hql : (bL q).length = 512 := by rw [bL_len]; exact h.full q (List.mem_of_getElem? hq)
  have hZ : (zeroBytes 1).size = 512 := by simp [zeroBytes, size_madeCells]
  have hsrc : Hid (∀ W, Below w.heap.size w W → ∀ j v, (bL q)[j]? = some v → W.cell? ((⟨gb, p * 512, none⟩ : Addr).add j) = some v) := by
    intro W hW j v hv
    have e : (⟨gb, p * 512, none⟩ : Addr).add j = ⟨gb, p * 512 + j, none⟩ := by unfold Addr.add; split <;> simp_all
    rw [e, (h.dk.b.below hW hgl.2.1).cell]
    have hj := lt_of_at hv
    rw [hql] at hj
    rw [← pflat_page ps h.full p q hq] at hv
    simp only [bL, List.getElem?_map, List.getElem?_take_of_lt hj, List.getElem?_drop] at hv
    rw [bV, List.getElem?_toArray, bL, List.getElem?_map]
    exact hv
  have hinfo : (Try.prog.info? 5).map (·.size) = some 1 := by kernel_rfl
  have HI := Lib.hid hinfo; clear hinfo
  have HB := Lib.hid (has_any h.dk p (by omega) (by omega) hn)
  have HP := Lib.hid fun W (hW : Below w.heap.size w W) => dpage_any (h.dk.below hW hgl.1 hgl.2.1 hgl.2.2) p hp hn
  have hd : decide ((p : Int) < (n : Int)) = true := decide_eq_true (by omega)
  have Hql := Lib.hid hql; clear hql
  have HZ := Lib.hid hZ; clear hZ
  have hne : ((w.alloc (.cells (zeroBytes 1) 5)).setRow w.heap.size (splice (zeroBytes 1).toList 0 (bL q)).toArray) = ((w.alloc (.cells (zeroBytes 1) 5)).setRow w.heap.size (bV q)) := by
    rw [splice_all _ _ (by rw [Hql.out]; simpa using HZ.out)]
    rfl
  have HNE := Lib.hid hne; clear hne
  have hB : Below w.heap.size w ((w.alloc (.cells (zeroBytes 1) 5)).setRow w.heap.size (bV q)) := below_setRow (ball (Below.refl _ _) _) (Nat.le_refl _) _
  have hBk : Blk ((w.alloc (.cells (zeroBytes 1) 5)).setRow w.heap.size (bV q)) w.heap.size 5 (bV q) := setRow_at (Blk.new _ _ _)
  have HBB := Lib.hid (And.intro hB hBk); clear hB hBk
  clear h hq
  obtain ⟨W2, hW2⟩ : ∃ W2, ((w.alloc (.cells (zeroBytes 1) 5)).setRow w.heap.size (bV q)) = W2 := ⟨_, rfl⟩
  rw [hW2] at HBB HNE
  clear hW2
  go_enter Try.func71, Try.ntmps71
  go_wp2_with (first
    | (go_at_call 49; refine HB.out.mono ?_; rintro e w' ⟨rfl, rfl⟩)
    | (go_at_call 50; refine (HP.out _ (ball (Below.refl _ _) _)).mono ?_; rintro e w' ⟨rfl, rfl⟩)
    | (refine wpList_copy_own rfl _ _ 59 59 rfl 5 Try.underlying59 HI.out w.heap.size 0 512 512 ⟨gb, p * 512, none⟩ 512 (n * 512 - p * 512) rfl rfl (zeroBytes 1) 5 (Blk.new _ _ _) (bL q) (by rw [Hql.out]; rfl) (hsrc.out _ (ball (Below.refl _ _) _)) (by rw [Hql.out, HZ.out]; exact Nat.le_refl _) (bL_one q) ?_; (show wpList _ _ _ _ _ ((w.alloc (.cells (zeroBytes 1) 5)).setRow w.heap.size (splice (zeroBytes 1).toList 0 (bL q)).toArray)); rw [HNE.out]))
  go_ret2
  exact ⟨rfl, HBB.out.2, HBB.out.1⟩
end

theorem first_free : ∀ T : List Bool, (∃ i : Nat, T[i]? = some false ∧ ∀ j : Nat, j < i → T[j]? = some true) ∨ (∀ j : Nat, j < T.length → T[j]? = some true)
  | [] => .inr (by simp)
  | false :: T => .inl ⟨0, rfl, by omega⟩
  | true :: T => by
    rcases first_free T with ⟨i, h1, h2⟩ | h
    · refine .inl ⟨i + 1, by simpa using h1, fun j hj => ?_⟩
      cases j with
      | zero => rfl
      | succ j => simpa using h2 j (by omega)
    · refine .inr fun j hj => ?_
      cases j with
      | zero => rfl
      | succ j => simpa using h j (by simpa using hj)
end
end Go.Proofs.Ytdimkeoncgjegaa
/-
  Pool: the counts; frames leave and enter a row.
-/
namespace Go.Proofs.Ytdimkeoncgjegaa
section
set_option linter.unusedSimpArgs false
set_option linter.unusedVariables false
open Go.RowKit

theorem add64_any (g o x : Nat) (w : World) (hc : w.cell? ⟨g, o, none⟩ = some (.int .u64 x)) (hf : w.frozen? ⟨g, o, none⟩ = false) (hx : x ≤ 1000000) :
    Calls Try.prog 69 #[.pointer (some ⟨g, o, none⟩), .int .u64 1] w fun e w' => e = .returned (.int .u64 (x + 1 : Nat)) ∧ w' = w.setCell ⟨g, o, none⟩ (.int .u64 (x + 1 : Nat)) := by
  have hs : (Op.intArith .add .u64 (x : Int) 1).run Try.prog w = .ok (.int .u64 (x + 1 : Nat)) w := by
    simp [go_sem, IntKind.wrap_u64]; omega
  have ad := run_call_add (P := Try.prog) Try.func77 (by kernel_rfl) (by kernel_rfl) (by kernel_rfl) .u64 (by kernel_rfl) hc hf hs
  go_enter Try.func69, Try.ntmps69
  go_wp2
  go_ret
  exact ⟨rfl, rfl⟩
/-- A frame leaves its row: what is stored. -/
theorem leave_raw (fg ab ao zb zo : Nat) (u v : Value) (w : World) (h2 : w.cell? ⟨fg, 2, none⟩ = some (.pointer (some ⟨ab, ao, none⟩))) (h3 : w.cell? ⟨fg, 3, none⟩ = some (.pointer (some ⟨zb, zo, none⟩)))
    (ha : w.cell? ⟨ab, ao + 3, none⟩ = some u) (fa : w.frozen? ⟨ab, ao + 3, none⟩ = false) (hz : ((w.setCell ⟨ab, ao + 3, none⟩ (.pointer (some ⟨zb, zo, none⟩))).cell? ⟨zb, zo + 2, none⟩) = some v) (fz : w.frozen? ⟨zb, zo + 2, none⟩ = false) :
    Calls Try.prog 70 #[.pointer (some ⟨fg, 0, none⟩)] w fun e w' => e = .returned (.tuple #[]) ∧ ((w.setCell ⟨ab, ao + 3, none⟩ (.pointer (some ⟨zb, zo, none⟩))).setCell ⟨zb, zo + 2, none⟩ (.pointer (some ⟨ab, ao, none⟩))).drew = w' := by
  go_enter Try.func70, Try.ntmps70
  go_wp2
  go_region
  all_goals (go_end0; exact ⟨rfl, rfl⟩)
/-- A frame enters a row: what is stored. -/
theorem enter_raw (fg ab ao gp : Nat) (o1 o2 u v : Value) (w : World) (h2 : w.cell? ⟨fg, 2, none⟩ = some o1) (h3 : w.cell? ⟨fg, 3, none⟩ = some o2) (f2 : w.frozen? ⟨fg, 2, none⟩ = false) (f3 : w.frozen? ⟨fg, 3, none⟩ = false) (he : w.cell? ⟨gp, 3 + 2, none⟩ = some (.pointer (some ⟨ab, ao, none⟩)))
    (fe : w.frozen? ⟨gp, 3 + 2, none⟩ = false) (ha : w.cell? ⟨ab, ao + 3, none⟩ = some u) (fa : w.frozen? ⟨ab, ao + 3, none⟩ = false) (n1 : ab ≠ fg) (n2 : gp ≠ fg) (n3 : ab = gp → ao = 3) :
    Calls Try.prog 73 #[.pointer (some ⟨fg, 0, none⟩), .pointer (some ⟨gp, 3, none⟩)] w fun e w' => e = .returned (.tuple #[]) ∧
      ((((w.setCell ⟨fg, 2, none⟩ (.pointer (some ⟨ab, ao, none⟩))).setCell ⟨fg, 3, none⟩ (.pointer (some ⟨gp, 3, none⟩))).setCell ⟨ab, ao + 3, none⟩ (.pointer (some ⟨fg, 0, none⟩))).setCell ⟨gp, 5, none⟩ (.pointer (some ⟨fg, 0, none⟩))) = w' := by
  have hx : ((((w.setCell ⟨fg, 2, none⟩ (.pointer (some ⟨ab, ao, none⟩))).setCell ⟨fg, 3, none⟩ (.pointer (some ⟨gp, 3, none⟩))).setCell ⟨ab, ao + 3, none⟩ (.pointer (some ⟨fg, 0, none⟩)))).cell? ⟨gp, 5, none⟩ = some (.pointer (some ⟨ab, ao, none⟩)) := by
    rw [World.cell?_setCell_other _ _ _ _ (by intro e; injection e with e1 e2; have := n3 e1; omega), World.cell?_setCell_other _ _ _ _ (by intro e; injection e with e1 e2; exact n2 e1.symm), World.cell?_setCell_other _ _ _ _ (by intro e; injection e with e1 e2; exact n2 e1.symm)]
    exact he
  clear n3
  go_enter Try.func73, Try.ntmps73
  go_wp2
  go_end0
  exact ⟨rfl, rfl⟩
end
end Go.Proofs.Ytdimkeoncgjegaa
/-
  Pool: frames in a ring.
-/
namespace Go.Proofs.Ytdimkeoncgjegaa
section
set_option linter.unusedSimpArgs false
set_option linter.unusedVariables false
open Go.RowKit

/-- A frame: its block, page, its bytes' block, its bytes. -/
structure Fr where
  g : Nat
  p : Nat
  b : Nat
  l : List UInt8
/-- The i-th node of the ring: 0 the ends, then the frames, then the ends again. -/
def adr (gp : Nat) (K : List Fr) : Nat → Addr
  | 0 => ⟨gp, 3, none⟩
  | i + 1 => match K[i]? with
    | some f => ⟨f.g, 0, none⟩
    | none => ⟨gp, 3, none⟩
theorem adr_at {gp : Nat} {K : List Fr} {i : Nat} {f : Fr} (h : K[i]? = some f) : adr gp K (i + 1) = ⟨f.g, 0, none⟩ := by simp [adr, h]
theorem adr_past {gp : Nat} {K : List Fr} {i : Nat} (h : K.length < i) : adr gp K i = ⟨gp, 3, none⟩ := by
  obtain ⟨j, rfl⟩ : ∃ j, i = j + 1 := ⟨i - 1, by omega⟩
  simp [adr, List.getElem?_eq_none (show K.length ≤ j by omega)]
theorem adr_cases (gp : Nat) (K : List Fr) (i : Nat) : (adr gp K i = ⟨gp, 3, none⟩ ∧ (i = 0 ∨ K.length < i)) ∨ ∃ j f, i = j + 1 ∧ K[j]? = some f ∧ adr gp K i = ⟨f.g, 0, none⟩ := by
  cases i with
  | zero => exact .inl ⟨rfl, .inl rfl⟩
  | succ j =>
    rcases h : K[j]? with _ | f
    · exact .inl ⟨by simp [adr, h], .inr (by have := List.getElem?_eq_none_iff.1 h; omega)⟩
    · exact .inr ⟨j, f, rfl, h, adr_at h⟩
theorem adr_erase (gp : Nat) (K : List Fr) (i j : Nat) (hi : i < K.length) : adr gp (K.eraseIdx i) j = adr gp K (if j ≤ i then j else j + 1) := by
  cases j with
  | zero => simp [adr]
  | succ j =>
    by_cases hj : j + 1 ≤ i
    · rw [if_pos hj]
      simp only [adr, List.getElem?_eraseIdx]
      rw [if_pos (by omega)]
    · rw [if_neg hj]
      simp only [adr, List.getElem?_eraseIdx]
      rw [if_neg (by omega)]
theorem adr_snoc (gp : Nat) (K : List Fr) (f : Fr) (j : Nat) : adr gp (K ++ [f]) j = if j = K.length + 1 then ⟨f.g, 0, none⟩ else adr gp K j := by
  cases j with
  | zero => simp [adr]
  | succ j =>
    by_cases hj : j = K.length
    · subst hj; simp [adr]
    · rw [if_neg (by omega)]
      simp only [adr]
      rcases Nat.lt_or_ge j K.length with h | h
      · rw [List.getElem?_append_left h]
      · rw [List.getElem?_eq_none (show (K ++ [f]).length ≤ j by simp; omega), List.getElem?_eq_none h]
def frC (gp : Nat) (K : List Fr) (i : Nat) (f : Fr) : Array Value := #[.int .u32 f.p, .slice (some ⟨f.b, 0, none⟩) 512 512, .pointer (some (adr gp K i)), .pointer (some (adr gp K (i + 2)))]
def plC (gp : Nat) (K : List Fr) (x0 x1 x2 x7 x8 : Value) : Array Value := #[x0, x1, x2, .int .u32 0, .slice none 0 0, .pointer (some (adr gp K K.length)), .pointer (some (adr gp K 1)), x7, x8]
structure Rg (w : World) (lo gp : Nat) (K : List Fr) (x0 x1 x2 x7 x8 : Value) : Prop where
  low : lo ≤ gp
  pool : Blk w gp 104 (plC gp K x0 x1 x2 x7 x8)
  fr : ∀ (i : Nat) (f : Fr), K[i]? = some f → Blk w f.g 96 (frC gp K i f) ∧ lo ≤ f.g
  inj : ∀ (i j : Nat) (f f' : Fr), K[i]? = some f → K[j]? = some f' → f.g = f'.g → i = j
/-- A block behind a store, wherever that goes. -/
theorem Blk.upd {w : World} {g : Nat} {t : TypeId} {cs : Array Value} (h : Blk w g t cs) (b o : Nat) (v : Value) : Blk (w.setCell ⟨b, o, none⟩ v) g t (if g = b then cs.setIfInBounds o v else cs) := by
  by_cases hb : g = b
  · subst hb; rw [if_pos rfl]; exact h.set_ o v
  · rw [if_neg hb]; exact h.far hb v
section
variable {w : World} {lo gp : Nat} {K : List Fr} {x0 x1 x2 x7 x8 : Value}
theorem Rg.ne (h : Rg w lo gp K x0 x1 x2 x7 x8) {i : Nat} {f : Fr} (hi : K[i]? = some f) : f.g ≠ gp := ((h.fr i f hi).1).ne_ h.pool (by decide)
theorem Rg.node (h : Rg w lo gp K x0 x1 x2 x7 x8) (i : Nat) : ∃ b o t cs, adr gp K i = ⟨b, o, none⟩ ∧ Blk w b t cs ∧ o + 3 < cs.size ∧ lo ≤ b ∧ (b = gp → o = 3) := by
  rcases adr_cases gp K i with ⟨e, _⟩ | ⟨j, f, rfl, hj, e⟩
  · exact ⟨gp, 3, _, _, e, h.pool, by simp [plC], h.low, fun _ => rfl⟩
  · exact ⟨f.g, 0, _, _, e, (h.fr j f hj).1, by simp [frC], (h.fr j f hj).2, fun e' => absurd e' (h.ne hj)⟩
theorem Rg.blk_fr (h : Rg w lo gp K x0 x1 x2 x7 x8) {m : Nat} {f : Fr} (hm : K[m]? = some f) (i : Nat) : f.g = (adr gp K i).block ↔ i = m + 1 := by
  rcases adr_cases gp K i with ⟨e, hi⟩ | ⟨j, f', rfl, hj, e⟩
  · rw [e]
    have hlt := lt_of_at hm
    exact ⟨fun e' => absurd e' (h.ne hm), fun e' => by omega⟩
  · rw [e]
    constructor
    · intro e'; have := h.inj m j f f' hm hj e'; omega
    · intro e'
      have : j = m := by omega
      subst this
      rw [hm] at hj
      injection hj with hj
      rw [hj]
theorem Rg.blk_pl (h : Rg w lo gp K x0 x1 x2 x7 x8) (i : Nat) : gp = (adr gp K i).block ↔ i = 0 ∨ K.length < i := by
  rcases adr_cases gp K i with ⟨e, hi⟩ | ⟨j, f', rfl, hj, e⟩
  · rw [e]; exact ⟨fun _ => hi, fun _ => rfl⟩
  · rw [e]
    have hlt := lt_of_at hj
    exact ⟨fun e' => absurd e'.symm (h.ne hj), fun e' => by omega⟩
/-- What else stays. -/
structure Stay (w w' : World) (lo gp : Nat) (K : List Fr) : Prop where
  size : w'.heap.size = w.heap.size
  heap : ∀ g, g ≠ gp → (∀ (j : Nat) (f : Fr), K[j]? = some f → g ≠ f.g) → w'.heap[g]? = w.heap[g]?
  below : ∀ B w0, B ≤ lo → Below B w0 w → Below B w0 w'
theorem adr_off_fr {m : Nat} {f : Fr} (hm : K[m]? = some f) : (adr gp K (m + 1)).off = 0 := by rw [adr_at hm]
theorem adr_off_pl (i : Nat) (h : i = 0 ∨ K.length < i) : (adr gp K i).off = 3 := by
  rcases h with rfl | h
  · rfl
  · rw [adr_past h]
theorem leave_any (h : Rg w lo gp K x0 x1 x2 x7 x8) {i : Nat} {f : Fr} (hi : K[i]? = some f) :
    Calls Try.prog 70 #[.pointer (some ⟨f.g, 0, none⟩)] w fun e w' => e = .returned (.tuple #[]) ∧ Rg w' lo gp (K.eraseIdx i) x0 x1 x2 x7 x8 ∧
      (∃ x y, Blk w' f.g 96 #[.int .u32 f.p, .slice (some ⟨f.b, 0, none⟩) 512 512, x, y]) ∧ Stay w w' lo gp K := by
  have hlt := lt_of_at hi
  obtain ⟨ab, ao, ta, ca, ea, ba, sa, la, _⟩ := h.node i
  obtain ⟨zb, zo, tz, cz, ez, bz, sz, lz, _⟩ := h.node (i + 2)
  have hf := (h.fr i f hi).1
  have h2 : w.cell? ⟨f.g, 2, none⟩ = some (.pointer (some ⟨ab, ao, none⟩)) := by rw [hf.cell]; simp [frC, ea]
  have h3 : w.cell? ⟨f.g, 3, none⟩ = some (.pointer (some ⟨zb, zo, none⟩)) := by rw [hf.cell]; simp [frC, ez]
  have ha : w.cell? ⟨ab, ao + 3, none⟩ = some ca[ao + 3] := by rw [ba.cell, Array.getElem?_eq_getElem sa]
  have hz : ∃ v, (w.setCell ⟨ab, ao + 3, none⟩ (.pointer (some ⟨zb, zo, none⟩))).cell? ⟨zb, zo + 2, none⟩ = some v := by
    have hu := bz.upd ab (ao + 3) (.pointer (some ⟨zb, zo, none⟩))
    refine ⟨_, (hu.cell (zo + 2)).trans (Array.getElem?_eq_getElem ?_)⟩
    split
    · rw [Array.size_setIfInBounds]; omega
    · omega
  obtain ⟨v, hz⟩ := hz
  refine (leave_raw f.g ab ao zb zo _ _ w h2 h3 ha (ba.frozen _) hz (bz.frozen _)).mono ?_
  rintro e w' ⟨rfl, rfl⟩
  have hup : ∀ {g : Nat} {t : TypeId} {cs : Array Value}, Blk w g t cs → Blk (((w.setCell ⟨ab, ao + 3, none⟩ (.pointer (some ⟨zb, zo, none⟩))).setCell ⟨zb, zo + 2, none⟩ (.pointer (some ⟨ab, ao, none⟩))).drew) g t
      (if g = zb then (if g = ab then cs.setIfInBounds (ao + 3) (.pointer (some ⟨zb, zo, none⟩)) else cs).setIfInBounds (zo + 2) (.pointer (some ⟨ab, ao, none⟩)) else (if g = ab then cs.setIfInBounds (ao + 3) (.pointer (some ⟨zb, zo, none⟩)) else cs)) :=
    fun hb => ((hb.upd ab (ao + 3) _).upd zb (zo + 2) _).drew
  have eab : (adr gp K i).block = ab ∧ (adr gp K i).off = ao := by rw [ea]; exact ⟨rfl, rfl⟩
  have ezb : (adr gp K (i + 2)).block = zb ∧ (adr gp K (i + 2)).off = zo := by rw [ez]; exact ⟨rfl, rfl⟩
  have hfr : ∀ (m : Nat) (f' : Fr), K[m]? = some f' → Blk (((w.setCell ⟨ab, ao + 3, none⟩ (.pointer (some ⟨zb, zo, none⟩))).setCell ⟨zb, zo + 2, none⟩ (.pointer (some ⟨ab, ao, none⟩))).drew) f'.g 96
      #[.int .u32 f'.p, .slice (some ⟨f'.b, 0, none⟩) 512 512, .pointer (some (if m = i + 1 then adr gp K i else adr gp K m)), .pointer (some (if m + 1 = i then adr gp K (i + 2) else adr gp K (m + 2)))] := by
    intro m f' hm
    have hb := hup (h.fr m f' hm).1
    have k1 := h.blk_fr hm i
    have k2 := h.blk_fr hm (i + 2)
    rw [eab.1] at k1
    rw [ezb.1] at k2
    by_cases c1 : m + 1 = i
    · have d1 : f'.g = ab := k1.2 c1.symm
      have d2 : ¬ f'.g = zb := fun e => by have := k2.1 e; omega
      have d3 : ao = 0 := by rw [← eab.2, ← c1]; exact adr_off_fr hm
      subst d3
      rw [if_neg d2, if_pos d1] at hb
      rw [if_neg (by omega), if_pos c1, ez]
      exact hb
    · have d1 : ¬ f'.g = ab := fun e => c1 (k1.1 e).symm
      by_cases c2 : m = i + 1
      · have d2 : f'.g = zb := k2.2 (by omega)
        have d3 : zo = 0 := by rw [← ezb.2, show i + 2 = m + 1 from by omega]; exact adr_off_fr hm
        subst d3
        rw [if_pos d2, if_neg d1] at hb
        rw [if_pos c2, if_neg c1, ea]
        exact hb
      · have d2 : ¬ f'.g = zb := fun e => by have := k2.1 e; omega
        rw [if_neg d2, if_neg d1] at hb
        rw [if_neg c2, if_neg c1]
        exact hb
  refine ⟨rfl, ⟨h.low, ?_, ?_, ?_⟩, ⟨_, _, hfr i f hi⟩, ⟨?_, ?_, ?_⟩⟩
  · have hb := hup h.pool
    have k1 := h.blk_pl i
    have k2 := h.blk_pl (i + 2)
    rw [eab.1] at k1
    rw [ezb.1] at k2
    have hl : (K.eraseIdx i).length = K.length - 1 := List.length_eraseIdx_of_lt hlt
    have e1 : adr gp (K.eraseIdx i) (K.eraseIdx i).length = if K.length = i + 1 then adr gp K i else adr gp K K.length := by
      rw [hl, adr_erase gp K i _ hlt]
      by_cases c : K.length = i + 1
      · rw [if_pos (by omega), if_pos c, show K.length - 1 = i from by omega]
      · rw [if_neg (by omega), if_neg c, show K.length - 1 + 1 = K.length from by omega]
    have e2 : adr gp (K.eraseIdx i) 1 = if i = 0 then adr gp K (i + 2) else adr gp K 1 := by
      rw [adr_erase gp K i _ hlt]
      by_cases c : i = 0
      · subst c; rfl
      · rw [if_pos (by omega), if_neg c]
    unfold plC
    rw [e1, e2]
    by_cases c1 : i = 0
    · have d1 : gp = ab := k1.2 (.inl c1)
      have d3 : ao = 3 := by rw [← eab.2]; exact adr_off_pl i (.inl c1)
      by_cases c2 : K.length = i + 1
      · have d2 : gp = zb := k2.2 (by omega)
        have d4 : zo = 3 := by rw [← ezb.2]; exact adr_off_pl (i + 2) (by omega)
        subst d3
        subst d4
        rw [if_pos d2, if_pos d1] at hb
        rw [if_pos c1, if_pos c2, ez, ea]
        exact hb
      · have d2 : ¬ gp = zb := fun e => by have := k2.1 e; omega
        subst d3
        rw [if_neg d2, if_pos d1] at hb
        rw [if_pos c1, if_neg c2, ez]
        exact hb
    · have d1 : ¬ gp = ab := fun e => by have := k1.1 e; omega
      by_cases c2 : K.length = i + 1
      · have d2 : gp = zb := k2.2 (by omega)
        have d4 : zo = 3 := by rw [← ezb.2]; exact adr_off_pl (i + 2) (by omega)
        subst d4
        rw [if_pos d2, if_neg d1] at hb
        rw [if_neg c1, if_pos c2, ea]
        exact hb
      · have d2 : ¬ gp = zb := fun e => by have := k2.1 e; omega
        rw [if_neg d2, if_neg d1] at hb
        rw [if_neg c1, if_neg c2]
        exact hb
  · intro j f' hj
    rw [List.getElem?_eraseIdx] at hj
    by_cases hji : j < i
    · rw [if_pos hji] at hj
      have hb := hfr j f' hj
      refine ⟨?_, (h.fr j f' hj).2⟩
      unfold frC
      rw [adr_erase gp K i _ hlt, adr_erase gp K i _ hlt, if_pos (by omega)]
      rw [if_neg (by omega)] at hb
      by_cases c1 : j + 1 = i
      · rw [if_neg (by omega), show j + 2 + 1 = i + 2 from by omega]
        rw [if_pos c1] at hb
        exact hb
      · rw [if_pos (by omega)]
        rw [if_neg c1] at hb
        exact hb
    · rw [if_neg hji] at hj
      have hb := hfr (j + 1) f' hj
      refine ⟨?_, (h.fr (j + 1) f' hj).2⟩
      unfold frC
      rw [adr_erase gp K i _ hlt, adr_erase gp K i _ hlt]
      rw [if_neg (show ¬ j + 1 + 1 = i by omega)] at hb
      rw [if_neg (show ¬ j + 2 ≤ i by omega)]
      by_cases c1 : j = i
      · subst c1
        rw [if_pos rfl] at hb
        rw [if_pos (Nat.le_refl _)]
        exact hb
      · rw [if_neg (by omega)] at hb
        rw [if_neg (by omega)]
        exact hb
  · intro j1 j2 f1 f2 hj1 hj2 hg
    rw [List.getElem?_eraseIdx] at hj1 hj2
    split at hj1 <;> split at hj2
    · exact h.inj _ _ _ _ hj1 hj2 hg
    · have := h.inj _ _ _ _ hj1 hj2 hg; omega
    · have := h.inj _ _ _ _ hj1 hj2 hg; omega
    · have := h.inj _ _ _ _ hj1 hj2 hg; omega
  · simp [World.setCell]
  · intro g hg hk
    have na : g ≠ ab := by
      rcases adr_cases gp K i with ⟨e, _⟩ | ⟨j, f', _, hj, e⟩
      · rw [e] at eab; rw [← eab.1]; exact hg
      · rw [e] at eab; rw [← eab.1]; exact hk j f' hj
    have nz : g ≠ zb := by
      rcases adr_cases gp K (i + 2) with ⟨e, _⟩ | ⟨j, f', _, hj, e⟩
      · rw [e] at ezb; rw [← ezb.1]; exact hg
      · rw [e] at ezb; rw [← ezb.1]; exact hk j f' hj
    show ((w.setCell _ _).setCell _ _).heap[g]? = _
    rw [Below.heap_setCell _ _ _ _ nz, Below.heap_setCell _ _ _ _ na]
  · intro B w0 hB hb
    exact ((hb.setCell (show B ≤ (⟨ab, ao + 3, none⟩ : Addr).block from Nat.le_trans hB la) _).setCell (show B ≤ (⟨zb, zo + 2, none⟩ : Addr).block from Nat.le_trans hB lz) _).drew
end
end
end Go.Proofs.Ytdimkeoncgjegaa
/-
  A page of bytes that are all the same, of any size; the disk's Copy.
-/
namespace Go.Proofs.Ytdimkeoncgjegaa
section
open Go.RowKit

def RetCopy (w : World) (n : Nat) (ps : List (List UInt8)) (T : List Bool) (e : Ending) (w' : World) : Prop :=
  ∃ g gb gt, e = .returned (.pointer (some ⟨g, 0, none⟩)) ∧ DP w' g gb gt n ps T ∧ w.heap.size ≤ g ∧ w.heap.size ≤ gb ∧ w.heap.size ≤ gt ∧ Below w.heap.size w w'
end
end Go.Proofs.Ytdimkeoncgjegaa
