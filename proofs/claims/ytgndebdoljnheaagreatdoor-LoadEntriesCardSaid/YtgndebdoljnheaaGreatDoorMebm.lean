/-
  Several texts in one: M1 M2 M3.
-/
import Derived.Test.YtgndebdoljnheaaGreatDoorMeav
import Derived.Test.YtgndebdoljnheaaGreatDoorMebj
import Derived.Test.YtgndebdoljnheaaGreatDoorMebc
import Derived.Test.YtgndebdoljnheaaGreatDoorMeao
import Derived.Test.YtgndebdoljnheaaGreatDoorMeaz
/-
  Loading, the chapter's example: an empty script: its book, whether it may be, its writings.
-/
namespace Go.Proofs.YtgndebdoljnheaaGreatDoor
section
set_option linter.unusedSimpArgs false
set_option linter.unusedVariables false
open Go.RowKit

theorem book_end13 {W : World} {R : Nat} {tm : Array Value} {Q : Ending → World → Prop} (hR : Blk W R 60 #[.slice none 0 0, .slice none 0 0])
    (h2 : tm[2]? = some (.pointer (some ⟨R, 0, none⟩))) (h : Q (.returned (.agg #[.slice none 0 0, .slice none 0 0])) W) :
    bodyPost Tryz.prog Tryz.f33 Q Exit.ret { tmps := tm, defers := [] } W := by
  have q0 : W.cell? ⟨R, 0, none⟩ = _ := hR.cell 0
  have q1 : W.cell? ⟨R, 1, none⟩ = _ := hR.cell 1
  exact bodyPost_ret (v := .agg #[.slice none 0 0, .slice none 0 0]) (by simp [results, Tryz.results33, go_sem, h2, q0, q1]) rfl h
set_option maxRecDepth 100000 in
theorem blank_nil (w : World) : Calls Tryz.prog 33 #[.agg #[.slice none 0 0, .slice none 0 0, .slice none 0 0]] w (RetB w (.agg #[.slice none 0 0, .slice none 0 0])) := by
  go_enter Tryz.func33, Tryz.ntmps33
  go_wp2
  go_loop [14] (fun v => v = .int .i64 0) (fun _ => 0)
  case atStart => exact rfl
  case round =>
    subst hrel
    go_wp2
    go_loop [49] (fun v => v = .int .i64 0) (fun _ => 0)
    case atStart => exact rfl
    case round =>
      subst hrel
      go_wp2
      have hR : Blk (((w.alloc (.cells #[.slice none 0 0, .slice none 0 0, .slice none 0 0] 28)).alloc (.cells #[.slice none 0 0, .slice none 0 0] 60)).alloc (.cells #[.slice none 0 0, .slice none 0 0] 60)) (w.heap.size + 1) 60 #[.slice none 0 0, .slice none 0 0] := (Blk.newAt (by simp)).alloc _
      exact book_end13 hR (by simp) ⟨rfl, ball (ball (ball (Below.refl _ _) _) _) _⟩
set_option maxRecDepth 100000 in
theorem may13_nil (w : World) : Calls Tryz.prog 31 #[.agg #[.slice none 0 0, .slice none 0 0, .slice none 0 0]] w (RetB w (.bool true)) := by
  have BK := Lib.hid fun W => blank_nil W
  have MY := Lib.hid fun W => may_nil W
  have hX := Blk.new w 28 #[.slice none 0 0, .slice none 0 0, .slice none 0 0]
  have hb0 := ball (Below.refl w.heap.size w) (.cells #[.slice none 0 0, .slice none 0 0, .slice none 0 0] 28)
  have H0 := Lib.hid (And.intro hX hb0)
  clear hX hb0
  go_enter Tryz.func31, Tryz.ntmps31
  go_wp2_with fail
  refine (BK.out _).mono ?_
  rintro e w1 ⟨rfl, hb1⟩
  have b01 := bto0 H0.out.2 hb1
  have hX1 := H0.out.1.below hb1 H0.out.1.lt
  have Y2 := Blk.new w1 60 #[.slice none 0 0, .slice none 0 0]
  have X2 := hX1.alloc (.cells #[.slice none 0 0, .slice none 0 0] 60)
  have b02 := ball b01 (.cells #[.slice none 0 0, .slice none 0 0] 60)
  have y0 : (w1.alloc (.cells #[.slice none 0 0, .slice none 0 0] 60)).cell? ⟨w1.heap.size, 0, none⟩ = some (.slice none 0 0) := Y2.cell 0
  have y1 : (w1.alloc (.cells #[.slice none 0 0, .slice none 0 0] 60)).cell? ⟨w1.heap.size, 1, none⟩ = some (.slice none 0 0) := Y2.cell 1
  have H2 := Lib.hid (And.intro X2 (And.intro Y2 b02))
  have hs2 := X2.lt
  have hs3 := Y2.lt
  clear b01 hX1 hb1 Y2 X2 b02
  go_wp2_with fail
  refine (MY.out _).mono ?_
  rintro e w3 ⟨rfl, hb3⟩
  have X3 := H2.out.1.below hb3 H2.out.1.lt
  have Y3 := H2.out.2.1.below hb3 H2.out.2.1.lt
  have x2 : w3.cell? ⟨w.heap.size, 2, none⟩ = some (.slice none 0 0) := X3.cell 2
  have z0 : w3.cell? ⟨w1.heap.size, 0, none⟩ = some (.slice none 0 0) := Y3.cell 0
  have z1 : w3.cell? ⟨w1.heap.size, 1, none⟩ = some (.slice none 0 0) := Y3.cell 1
  have H3 := Lib.hid (bto0 H2.out.2.2 hb3)
  have hs4 := X3.lt
  have hs5 := Y3.lt
  clear hb3 X3 Y3
  go_wp2
  go_loop [24] (fun v => v = .int .i64 0) (fun _ => 0)
  case atStart => exact rfl
  case round =>
    subst hrel
    go_wp2
    go_ret
    exact ⟨rfl, H3.out⟩
end
end Go.Proofs.YtgndebdoljnheaaGreatDoor
/-
  Loading, the chapter's example: no writings; the empty book is stored on one page.
-/
namespace Go.Proofs.YtgndebdoljnheaaGreatDoor
section
set_option linter.unusedSimpArgs false
set_option linter.unusedVariables false
open Go.RowKit

def RetWr13 (w : World) (e : Ending) (w' : World) : Prop := ∃ (A : Option Addr) (c : Nat), e = .returned (.tuple #[.slice A 0 c, .int .i64 0]) ∧ Below w.heap.size w w'
theorem Tryz.infoS13 : (Tryz.prog.info? 94).map (fun i => (i.zero, i.size, i.bytes)) = some (some (.slice none 0 0), 1, 24) := by kernel_rfl
theorem Tryz.infoR13 : (Tryz.prog.info? 39).map (fun i => (i.zero, i.size, i.bytes)) = some (some (.slice none 0 0), 1, 24) := by kernel_rfl
theorem mkS13 (W : World) : (Instr.makeSlice 86 (.int .i64 0) (.int .i64 0)).run Tryz.prog W = .ok (.slice (some ⟨W.heap.size, 0, none⟩) 0 0) (W.alloc (.cells (madeCells #[.slice none 0 0] 0) 94)) := by
  obtain ⟨i, hi, hz, hs, hy⟩ := int_info8 Tryz.infoS13
  have h := run_make (P := Tryz.prog) W 86 94 i (.slice none 0 0) Tryz.underlying86 hi hz .i64 .i64 0 0 (by omega) (by omega) (by rw [hy]; omega) (by omega)
  rw [hs] at h
  exact h
theorem mkR13 (W : World) : (Instr.makeSlice 90 (.int .i64 0) (.int .i64 0)).run Tryz.prog W = .ok (.slice (some ⟨W.heap.size, 0, none⟩) 0 0) (W.alloc (.cells (madeCells #[.slice none 0 0] 0) 39)) := by
  obtain ⟨i, hi, hz, hs, hy⟩ := int_info8 Tryz.infoR13
  have h := run_make (P := Tryz.prog) W 90 39 i (.slice none 0 0) Tryz.underlying90 hi hz .i64 .i64 0 0 (by omega) (by omega) (by rw [hy]; omega) (by omega)
  rw [hs] at h
  exact h
set_option maxRecDepth 100000 in
theorem write13_nil (w : World) : Calls Tryz.prog 32 #[.agg #[.slice none 0 0, .slice none 0 0, .slice none 0 0]] w (RetWr13 w) := by
  have mk := mkS13
  go_enter Tryz.func32, Tryz.ntmps32
  go_wp2
  go_loop [24] (fun v => v = .int .i64 0) (fun _ => 0)
  case atStart => exact rfl
  case round =>
    subst hrel
    go_wp2
    go_loop [61] (fun v => v = .int .i64 0) (fun _ => 0)
    case atStart => exact rfl
    case round =>
      subst hrel
      go_wp2
      go_ret2
      exact ⟨_, _, rfl, by with_reducible repeat (first | exact Below.refl _ _ | refine bdr ?_ _ | refine Below.drew ?_ | refine ball ?_ _)⟩
/-- What Store of the empty book leaves. -/
def RetSt13 (w : World) (g gb gt : Nat) (e : Ending) (w' : World) : Prop :=
  e = .returned (.int .i64 0) ∧ (∃ (ps' : List (List UInt8)) (T' : List Bool), DP w' g gb gt 1 ps' T') ∧ w.heap.size ≤ w'.heap.size ∧ (∀ B w0, B ≤ gb → B ≤ gt → Below B w0 w → B ≤ w.heap.size → Below B w0 w') ∧ ∀ g', g' ≠ gb → g' ≠ gt → g' < w.heap.size → w'.heap[g']? = w.heap[g']?
theorem own_lit13 {w : World} {t : TypeId} {g : Nat} (hg : g = w.heap.size) (v : Value) : (w.alloc (.cells #[v] t)).ownsRow w.heap.size t 1 (.slice (some ⟨g, 0, none⟩) 1 1) 1 [v] := by
  subst hg
  exact ⟨rfl, .inr ⟨w.heap.size, 1, #[v], rfl, Nat.le_refl _, heap_alloc_new w _, Nat.le_refl _, by decide, by simp, rfl⟩⟩
set_option maxRecDepth 100000 in
set_option maxHeartbeats 4000000 in
theorem store_nil {w : World} {g gb gt : Nat} {ps : List (List UInt8)} {T : List Bool} (h : DP w g gb gt 1 ps T) :
    Calls Tryz.prog 36 #[.pointer (some ⟨g, 0, none⟩), .agg #[.slice none 0 0, .slice none 0 0]] w (RetSt13 w g gb gt) := by
  have hb0 := ball (Below.refl w.heap.size w) (.cells #[.slice none 0 0, .slice none 0 0] 60)
  have PA := Lib.hid fun W => put_nil W
  have hi8 : (Tryz.prog.info? 5).map (·.size) = some 1 := by
    obtain ⟨j0, hj0, _, hjs, _⟩ := int_info8 Tryz.infoB
    rw [hj0, Option.map_some, hjs]
  have HI := Lib.hid hi8
  have H0 := Lib.hid (And.intro h hb0)
  clear h hb0 hi8
  go_enter Tryz.func36, Tryz.ntmps36
  go_wp2_with fail
  refine (PA.out _).mono ?_
  rintro e w1 ⟨A5, c5, rfl, own1, hb1⟩
  obtain ⟨A', c', e', hc5⟩ := Own.form own1
  injection e' with e1 e2 e3
  subst e1
  subst e3
  have hc5 : 2 ≤ c5 := hc5
  have bw1 := bto0 H0.out.2 hb1
  have own2 := own1.alloc (.cells #[.int .u32 0] 48)
  have hpB : Blk (w1.alloc (.cells #[.int .u32 0] 48)) w1.heap.size 48 #[.int .u32 0] := Blk.new _ _ _
  have bw2 := ball bw1 (.cells #[.int .u32 0] 48)
  have hz1 := bw1.size
  have H2 := Lib.hid (And.intro own2 (And.intro hpB bw2))
  have y0 : (w1.alloc (.cells #[.int .u32 0] 48)).cell? ⟨w1.heap.size, 0, none⟩ = some (.int .u32 0) := hpB.cell 0
  have hmn : min (2 : Int) 504 = ((2 : Nat) : Int) := rfl
  clear own1 hb1 bw1 own2 hpB bw2
  go_wp2_with fail
  go_loopw [7] (fun u7 wr => u7 = .slice (some ⟨w1.heap.size, 0, none⟩) 1 1 ∧ wr = w1.alloc (.cells #[.int .u32 0] 48)) (fun _ _ => 0)
  case atStart => exact ⟨rfl, rfl⟩
  case round =>
    obtain ⟨rfl, rfl⟩ := hrel
    obtain ⟨Ap, cp, rdp⟩ := cutb_hi (A := A5) (n := 2) (c := c5) .i64 2 2 rfl (Nat.le_refl _) hc5
    obtain ⟨Aq, cq, rdq⟩ := cutb_lo (A := A5) (n := 2) (c := c5) .i64 2 2 rfl (Nat.le_refl _) hc5
    have PU : Hid (∀ W, Calls Tryz.prog 65 #[.agg #[.int .u8 4, .int .u16 2, .int .u32 0]] W (RetHead W 4 2 0)) := Lib.hid fun W => dput_any 4 2 0 (by omega) (by omega) W
    have HRD := Lib.hid rdp
    clear rdp rdq
    go_wp2_with fail
    go_loopw [5, 47] (fun u5 u47 wr => (u47 = .int .i64 0 ∧ u5 = .slice A5 2 c5 ∧ wr = w1.alloc (.cells #[.int .u32 0] 48)) ∨ (u47 = .int .i64 1 ∧ (∃ (ps' : List (List UInt8)) (T' : List Bool), DP wr g gb gt 1 ps' T') ∧ w.heap.size ≤ wr.heap.size ∧ (∀ B w0, B ≤ gb → B ≤ gt → Below B w0 w → B ≤ w.heap.size → Below B w0 wr) ∧ ∀ g', g' ≠ gb → g' ≠ gt → g' < w.heap.size → wr.heap[g']? = w.heap[g']?)) (fun _ u47 _ => 1 - (intOf u47).toNat)
    case atStart => exact .inl ⟨rfl, rfl, rfl⟩
    case round =>
      rcases hrel with ⟨rfl, rfl, rfl⟩ | ⟨rfl, hd, h1, h2, h3⟩
      rotate_left
      · have HF := Lib.hid (And.intro hd (And.intro h1 (And.intro h2 h3)))
        clear hd h1 h2 h3
        go_wp2
        go_ret
        exact ⟨rfl, HF.out.1, HF.out.2.1, HF.out.2.2.1, HF.out.2.2.2⟩
      · go_wp2_with fail
        refine (PU.out _).mono ?_
        rintro e w3 ⟨g3, rfl, hB3, hg3, hb3⟩
        have b03 := bto0 H2.out.2.2 hb3
        have srd := HRD.out _ _ _ (H2.out.1.below hb3).reads.1
        have HSRC : Hid (∃ ad, Ap = some ad ∧ ∀ j v, (bL [0, 0])[j]? = some v → w3.cell? (ad.add j) = some v) := by
          obtain ⟨ad', hA, _, hcl⟩ := srd.2 (by omega)
          exact ⟨ad', hA, hcl⟩
        have HB3 := Lib.hid (And.intro hB3 (And.intro b03 (Nat.le_trans H2.out.2.2.size hg3)))
        clear srd hB3 hg3 hb3 b03
        go_wp2_with (refine wpList_copy_splice rfl _ _ 74 74 rfl 5 Tryz.underlying74 HI.out (some ⟨g3, 8, none⟩) Ap 504 504 2 c5 rfl rfl g3 8 (bL (headL 4 2 0)) 5 HB3.out.1 (bL [0, 0]) rfl (fun hq => ⟨rfl, HSRC.out⟩) (by rw [bL_len, bL_len]; have := headP_len 4 2 0 4 (by omega); unfold headL; rw [this]; decide) (bL_one [0, 0]) w.heap.size w HB3.out.2.1 HB3.out.2.2 ?_; intro w4 hg4 hb4)
        have hHl : (headL 4 2 0).length = 512 := headP_len 4 2 0 4 (by omega)
        have hQ : Blk w4 g3 5 (bV (splice (headL 4 2 0) 8 [0, 0])) := by
          have h := hg4.out
          rw [splice_bL] at h
          exact h
        have hQl : (splice (headL 4 2 0) 8 [0, 0]).length = 512 := by rw [length_splice _ 8 [0, 0] (by rw [hHl]; decide)]; exact hHl
        obtain ⟨q, hq⟩ : ∃ q, splice (headL 4 2 0) 8 [0, 0] = q := ⟨_, rfl⟩
        rw [hq] at hQ hQl
        have lts := H0.out.1.lts
        have dp4 := H0.out.1.below hb4 lts.1 lts.2.1 lts.2.2
        have rdn := Own.new hQ (by rw [hQl]; decide) (Nat.zero_le _) hQl.symm
        have WR : Hid (Calls Tryz.prog 66 #[.pointer (some ⟨g, 0, none⟩), .int .u32 0, .slice (some ⟨g3, 0, none⟩) 512 512] w4 fun e w' => e = .returned (.int .i64 0) ∧ Left w4 w' g gb gt 1 (ps.set 0 q) (T.set 0 true)) := Lib.hid (writeDP dp4 0 (by omega) (by omega) ⟨g3, 0, none⟩ 512 w4.heap.size q rdn.reads.1)
        have H4 := Lib.hid hb4
        clear hg4 hb4 hQ hQl hq dp4 rdn hHl lts
        go_wp2_with fail
        refine WR.out.mono ?_
        rintro e w5 ⟨rfl, lf5⟩
        have H5 := Lib.hid lf5
        clear lf5 WR
        go_wp2
        refine ⟨.inr ⟨rfl, ⟨_, _, H5.out.1⟩, by rw [H5.out.2.2.2]; exact H4.out.size, fun B w0 h1 h2 h3 h4 => (h3.trans (H4.out.mono h4)).trans (H5.out.2.1 B h1 h2), fun g' h1 h2 h3 => (H5.out.2.2.1 g' h1 h2).trans (H4.out.block g' h3)⟩, by simp [intOf]⟩
end
end Go.Proofs.YtgndebdoljnheaaGreatDoor
/-
  Loading, the chapter's example: an empty script is loaded onto one page.
-/
namespace Go.Proofs.YtgndebdoljnheaaGreatDoor
section
set_option linter.unusedSimpArgs false
set_option linter.unusedVariables false
open Go.RowKit

def RetLoad13 (w : World) (e : Ending) (w' : World) : Prop :=
  ∃ (g gb gt : Nat) (ps : List (List UInt8)) (T : List Bool), e = .returned (.tuple #[.pointer (some ⟨g, 0, none⟩), .agg #[.slice none 0 0, .slice none 0 0], .int .i64 0]) ∧ DP w' g gb gt 1 ps T ∧ w.heap.size ≤ g ∧ w.heap.size ≤ gb ∧ w.heap.size ≤ gt ∧ Below w.heap.size w w'
theorem load13_end {W : World} {R : Nat} {tm : Array Value} {v4 : Value} {Q : Ending → World → Prop} (hR : Blk W R 60 #[.slice none 0 0, .slice none 0 0])
    (h4 : tm[4]? = some v4) (h5 : tm[5]? = some (.pointer (some ⟨R, 0, none⟩))) (h6 : tm[6]? = some (.int .i64 0)) (h : Q (.returned (.tuple #[v4, .agg #[.slice none 0 0, .slice none 0 0], .int .i64 0])) W) :
    bodyPost Tryz.prog Tryz.f18 Q Exit.ret { tmps := tm, defers := [] } W := by
  have q0 : W.cell? ⟨R, 0, none⟩ = _ := hR.cell 0
  have q1 : W.cell? ⟨R, 1, none⟩ = _ := hR.cell 1
  exact bodyPost_ret (v := .tuple #[v4, .agg #[.slice none 0 0, .slice none 0 0], .int .i64 0]) (by simp [results, Tryz.results18, go_sem, h4, h5, h6, q0, q1]) rfl h
theorem DP.same13 {w w' : World} {g gb gt n : Nat} {ps : List (List UInt8)} {T : List Bool} (h : DP w g gb gt n ps T) (h1 : w'.heap[g]? = w.heap[g]?) (h2 : w'.heap[gb]? = w.heap[gb]?) (h3 : w'.heap[gt]? = w.heap[gt]?) : DP w' g gb gt n ps T :=
  ⟨⟨h1.trans h.dk.d, h2.trans h.dk.b, h3.trans h.dk.t, h.dk.hb, h.dk.ht⟩, h.full, h.hp⟩
set_option maxRecDepth 100000 in
set_option maxHeartbeats 4000000 in
theorem load13_nil (w : World) : Calls Tryz.prog 18 #[.int .i64 1, .agg #[.slice none 0 0, .slice none 0 0, .slice none 0 0]] w (RetLoad13 w) := by
  have ND : Hid (∀ W, Calls Tryz.prog 30 #[.int .i64 1] W (RetDP W 1 (pagesOf (zb 1) 1) (marksOf (zb 1) 1))) := Lib.hid fun W => newDP 1 (by omega) (by omega) W
  have MY := Lib.hid fun W => may13_nil W
  have WR := Lib.hid fun W => write13_nil W
  have BK := Lib.hid fun W => blank_nil W
  have mk := mkR13
  have X0 := (Blk.new w 28 #[.slice none 0 0, .slice none 0 0, .slice none 0 0]).alloc (.cells #[.slice none 0 0, .slice none 0 0] 60)
  have Y0 : Blk ((w.alloc (.cells #[.slice none 0 0, .slice none 0 0, .slice none 0 0] 28)).alloc (.cells #[.slice none 0 0, .slice none 0 0] 60)) (w.heap.size + 1) 60 #[.slice none 0 0, .slice none 0 0] := Blk.newAt (by simp)
  have b0 := ball (ball (Below.refl w.heap.size w) (.cells #[.slice none 0 0, .slice none 0 0, .slice none 0 0] 28)) (.cells #[.slice none 0 0, .slice none 0 0] 60)
  have hz0 : ((w.alloc (.cells #[.slice none 0 0, .slice none 0 0, .slice none 0 0] 28)).alloc (.cells #[.slice none 0 0, .slice none 0 0] 60)).heap.size = w.heap.size + 1 + 1 := by simp
  have H0 := Lib.hid (And.intro X0 (And.intro Y0 (And.intro b0 hz0)))
  clear X0 Y0 b0 hz0
  go_enter Tryz.func18, Tryz.ntmps18
  go_wp2_with fail
  refine (ND.out _).mono ?_
  rintro e w1 ⟨g, gb, gt, rfl, dp1, hg1, hg2, hg3, hb1⟩
  have X1 := H0.out.1.below hb1 H0.out.1.lt
  have Y1 := H0.out.2.1.below hb1 H0.out.2.1.lt
  have b1 := bto0 H0.out.2.2.1 hb1
  have x0 : w1.cell? ⟨w.heap.size, 0, none⟩ = some (.slice none 0 0) := X1.cell 0
  have x1 : w1.cell? ⟨w.heap.size, 1, none⟩ = some (.slice none 0 0) := X1.cell 1
  have x2 : w1.cell? ⟨w.heap.size, 2, none⟩ = some (.slice none 0 0) := X1.cell 2
  have hs1 := X1.lt
  rw [H0.out.2.2.2] at hg1 hg2 hg3
  have H1 := Lib.hid (And.intro X1 (And.intro Y1 (And.intro b1 (And.intro dp1 (And.intro hg1 (And.intro hg2 hg3))))))
  clear X1 Y1 b1 dp1 hg1 hg2 hg3 hb1
  go_wp2_with fail
  refine (MY.out _).mono ?_
  rintro e w2 ⟨rfl, hb2⟩
  have X2 := H1.out.1.below hb2 H1.out.1.lt
  have z0 : w2.cell? ⟨w.heap.size, 0, none⟩ = some (.slice none 0 0) := X2.cell 0
  have z1 : w2.cell? ⟨w.heap.size, 1, none⟩ = some (.slice none 0 0) := X2.cell 1
  have z2 : w2.cell? ⟨w.heap.size, 2, none⟩ = some (.slice none 0 0) := X2.cell 2
  have hs2 := X2.lt
  have H2 := Lib.hid (And.intro X2 hb2)
  clear X2 hb2 x0 x1 x2
  go_wp2_with fail
  refine (WR.out _).mono ?_
  rintro e w3 ⟨A3, c3, rfl, hb3⟩
  have X3 := H2.out.1.below hb3 H2.out.1.lt
  have x0 : w3.cell? ⟨w.heap.size, 0, none⟩ = some (.slice none 0 0) := X3.cell 0
  have x1 : w3.cell? ⟨w.heap.size, 1, none⟩ = some (.slice none 0 0) := X3.cell 1
  have x2 : w3.cell? ⟨w.heap.size, 2, none⟩ = some (.slice none 0 0) := X3.cell 2
  have hs3 := X3.lt
  have H3 := Lib.hid (bto0 H2.out.2 hb3)
  clear X3 hb3 z0 z1 z2
  go_wp2_with fail
  refine (BK.out _).mono ?_
  rintro e w4 ⟨rfl, hb4⟩
  have b14 := bto0 H3.out hb4
  have Y5 := (Blk.new w4 60 #[.slice none 0 0, .slice none 0 0]).alloc (.cells (madeCells #[.slice none 0 0] 0) 39)
  have b15 := ball (ball b14 (.cells #[.slice none 0 0, .slice none 0 0] 60)) (.cells (madeCells #[.slice none 0 0] 0) 39)
  have y0 : (w4.alloc (.cells #[.slice none 0 0, .slice none 0 0] 60)).cell? ⟨w4.heap.size, 0, none⟩ = some (.slice none 0 0) := (Blk.new w4 60 #[.slice none 0 0, .slice none 0 0]).cell 0
  have y1 : (w4.alloc (.cells #[.slice none 0 0, .slice none 0 0] 60)).cell? ⟨w4.heap.size, 1, none⟩ = some (.slice none 0 0) := (Blk.new w4 60 #[.slice none 0 0, .slice none 0 0]).cell 1
  have y2 : ((w4.alloc (.cells #[.slice none 0 0, .slice none 0 0] 60)).alloc (.cells (madeCells #[.slice none 0 0] 0) 39)).cell? ⟨w4.heap.size, 0, none⟩ = some (.slice none 0 0) := Y5.cell 0
  have y3 : ((w4.alloc (.cells #[.slice none 0 0, .slice none 0 0] 60)).alloc (.cells (madeCells #[.slice none 0 0] 0) 39)).cell? ⟨w4.heap.size, 1, none⟩ = some (.slice none 0 0) := Y5.cell 1
  have dp5 := H1.out.2.2.2.1.below b15 H1.out.2.2.2.1.lts.1 H1.out.2.2.2.1.lts.2.1 H1.out.2.2.2.1.lts.2.2
  have ST := Lib.hid (store_nil dp5)
  have H5 := Lib.hid (And.intro Y5 (And.intro b15 dp5))
  clear Y5 b15 b14 hb4 dp5 x0 x1 x2
  go_wp2_with fail
  go_loop [48] (fun v => v = .int .i64 0) (fun _ => 0)
  case atStart => exact rfl
  case round =>
    subst hrel
    go_wp2_with fail
    go_loop [80] (fun v => v = .int .i64 0) (fun _ => 0)
    case atStart => exact rfl
    case round =>
      subst hrel
      go_wp2_with fail
      refine ST.out.mono ?_
      rintro e w6 ⟨rfl, ⟨ps6, T6, dp6⟩, hz6, hbel, hheap⟩
      have hY := H5.out.1
      have hdp := H5.out.2.2
      have Y6 : Blk w6 w4.heap.size 60 #[.slice none 0 0, .slice none 0 0] := (hheap _ (hY.ne_ hdp.dk.b (by decide)) (hY.ne_ hdp.dk.t (by decide)) hY.lt).trans hY
      have b16 : Below (w.heap.size + 1 + 1) w1 w6 := hbel _ _ H1.out.2.2.2.2.2.1 H1.out.2.2.2.2.2.2 (H5.out.2.1.mono (by have := H1.out.2.1.lt; omega)) (by have := H1.out.2.1.lt; have := H5.out.2.1.size; omega)
      have R6 := H1.out.2.1.below b16 (by omega)
      have b06 := H1.out.2.2.1.trans (b16.mono (by omega))
      have y0 : w6.cell? ⟨w4.heap.size, 0, none⟩ = some (.slice none 0 0) := Y6.cell 0
      have y1 : w6.cell? ⟨w4.heap.size, 1, none⟩ = some (.slice none 0 0) := Y6.cell 1
      have r0 : w6.cell? ⟨w.heap.size + 1, 0, none⟩ = some (.slice none 0 0) := R6.cell 0
      have r1 : w6.cell? ⟨w.heap.size + 1, 1, none⟩ = some (.slice none 0 0) := R6.cell 1
      have f0 := R6.frozen 0
      have f1 := R6.frozen 1
      have hs6 := R6.lt
      have hs7 := Y6.lt
      have H6 := Lib.hid (And.intro R6 (And.intro b06 dp6))
      clear hY hdp Y6 b16 R6 b06 dp6 hheap hbel ST
      go_wp2_with fail
      go_region
      all_goals
        go_wp2_with fail
        have R7 := ((H6.out.1.set_ 0 (.slice none 0 0)).set_ 1 (.slice none 0 0)).drew
        have b07 := ((H6.out.2.1.setCell (p := ⟨w.heap.size + 1, 0, none⟩) (by simp) (.slice none 0 0)).setCell (p := ⟨w.heap.size + 1, 1, none⟩) (by simp) (.slice none 0 0)).drew
        have dp7 : DP ((w6.setCell ⟨w.heap.size + 1, 0, none⟩ (.slice none 0 0)).setCell ⟨w.heap.size + 1, 1, none⟩ (.slice none 0 0)).drew g gb gt 1 ps6 T6 := H6.out.2.2.same13 ((Below.heap_setCell _ _ _ _ (by have := H1.out.2.2.2.2.1; simp; omega)).trans (Below.heap_setCell _ _ _ _ (by have := H1.out.2.2.2.2.1; simp; omega))) ((Below.heap_setCell _ _ _ _ (by have := H1.out.2.2.2.2.2.1; simp; omega)).trans (Below.heap_setCell _ _ _ _ (by have := H1.out.2.2.2.2.2.1; simp; omega))) ((Below.heap_setCell _ _ _ _ (by have := H1.out.2.2.2.2.2.2; simp; omega)).trans (Below.heap_setCell _ _ _ _ (by have := H1.out.2.2.2.2.2.2; simp; omega)))
        exact load13_end (v4 := .pointer (some ⟨g, 0, none⟩)) R7 (by simp) (by simp) (by simp) ⟨g, gb, gt, ps6, T6, rfl, dp7, by have := H1.out.2.2.2.2.1; omega, by have := H1.out.2.2.2.2.2.1; omega, by have := H1.out.2.2.2.2.2.2; omega, b07⟩
set_option maxRecDepth 100000 in
theorem fixed13_any (w : World) : Calls Tryz.prog 6 #[] w (RetB w (.bool true)) := by
  have LD := Lib.hid fun W => load13_nil W
  go_enter Tryz.func6, Tryz.ntmps6
  go_wp2_with fail
  refine (LD.out _).mono ?_
  rintro e w1 ⟨g, gb, gt, ps, T, rfl, dp, _, _, _, hb1⟩
  have dp2 := dp.below (ball (Below.refl w1.heap.size w1) (.cells #[.slice none 0 0, .slice none 0 0] 60)) dp.lts.1 dp.lts.2.1 dp.lts.2.2
  have LN := Lib.hid (len_any dp2.dk)
  have Y := Blk.new w1 60 #[.slice none 0 0, .slice none 0 0]
  have y0 : (w1.alloc (.cells #[.slice none 0 0, .slice none 0 0] 60)).cell? ⟨w1.heap.size, 0, none⟩ = some (.slice none 0 0) := Y.cell 0
  have H1 := Lib.hid (ball hb1 (.cells #[.slice none 0 0, .slice none 0 0] 60))
  clear dp dp2 hb1 Y
  go_wp2_with (go_at_call 19; refine LN.out.mono ?_; rintro e w' ⟨rfl, rfl⟩)
  go_ret
  exact ⟨by first | rfl | simp, H1.out⟩
end
end Go.Proofs.YtgndebdoljnheaaGreatDoor
