
/-
  Great of an empty book; of rows.
-/
import Derived.Test.YtblpflobpffjnaaDoorWs
import Derived.Test.YtblpflobpffjnaaDoorWn
set_option linter.unusedSimpArgs false
set_option linter.unusedVariables false
namespace Go.Proofs.YtblpflobpffjnaaDoor
open Go.RowKit

set_option maxRecDepth 100000 in
set_option maxHeartbeats 2000000 in
theorem great12_nil (w : World) : Calls Tryd.prog 6 #[.agg #[.slice none 0 0, .slice none 0 0]] w (RetB w (.bool false)) := by
  have HB := Lib.hid (And.intro (ball (Below.refl w.heap.size w) (.cells #[.slice none 0 0, .slice none 0 0] 25)) (Blk.new w 25 #[.slice none 0 0, .slice none 0 0]))
  go_enter Tryd.func6, Tryd.ntmps6
  go_wp2
  go_loopw [3, 10] (fun u v wr => u = .int .i64 0 ∧ v = .int .i64 0 ∧ Below w.heap.size w wr ∧ Blk wr w.heap.size 25 #[.slice none 0 0, .slice none 0 0]) (fun _ _ _ => 0)
  case atStart => exact ⟨rfl, rfl, HB.out.1, HB.out.2⟩
  case round =>
    obtain ⟨rfl, rfl, hb, hB⟩ := hrel
    have b0 : wr.cell? ⟨w.heap.size, 0, none⟩ = some (.slice none 0 0) := hB.cell 0
    have b1 : wr.cell? ⟨w.heap.size, 1, none⟩ = some (.slice none 0 0) := hB.cell 1
    have HX := Lib.hid (And.intro hb hB)
    clear hb hB
    go_wp2
    clear b0 b1
    obtain ⟨wo, rfl⟩ : ∃ wo : World, wo = wr := ⟨_, rfl⟩
    go_loopw [3, 56] (fun u v wr => u = .int .i64 0 ∧ v = .int .i64 0 ∧ Below w.heap.size w wr) (fun _ _ _ => 0)
    case atStart => exact ⟨rfl, rfl, HX.out.1⟩
    case round =>
      obtain ⟨rfl, rfl, hb⟩ := hrel
      go_wp2
      go_ret
      exact ⟨rfl, hb⟩

theorem wrapI30 {z : Int} (h0 : 0 ≤ z) (h1 : z ≤ 100000000000000000) : wrap64 z = z := by unfold wrap64; omega
/-- Some truth: where it is not so, no row is too great. -/
def RetG13 (w : World) (rows : List Rw) (e : Ending) (w' : World) : Prop := ∃ b : Bool, e = .returned (.bool b) ∧ Below w.heap.size w w' ∧ (b = false → ∀ r ∈ rows, grV 0 r.l = false)
set_option maxRecDepth 100000 in
set_option maxHeartbeats 4000000 in
theorem great13_any (g : Nat) (RA : Option Addr) (rn rc : Nat) (rows : List Rw) (w : World) (hg : w.cell? ⟨g, 0, none⟩ = some (.slice RA rn rc)) (hr : Reads w w.heap.size 1 RA rn (vRw rows)) (he : ∀ r ∈ rows, Reads w w.heap.size 3 r.A r.n (vV r.l) ∧ r.n ≤ maxLen ∧ ∀ v ∈ r.l, v.s.size ≤ maxLen) (hn : rn ≤ maxLen) :
    Calls Tryd.prog 10 #[.agg #[.slice none 0 0, .slice none 0 0, .slice (some ⟨g, 0, none⟩) 1 1]] w (RetG13 w rows) := by
  have hgl : g < w.heap.size := cell_block hg
  have hln : rows.length = rn := by have := hr.1; rw [vRw_len] at this; omega
  have HB := Lib.hid (And.intro (ball (Below.refl w.heap.size w) (.cells #[.slice none 0 0, .slice none 0 0, .slice (some ⟨g, 0, none⟩) 1 1] 46)) (Blk.new w 46 #[.slice none 0 0, .slice none 0 0, .slice (some ⟨g, 0, none⟩) 1 1]))
  have HG := Lib.hid fun (W : World) (hb : Below w.heap.size w W) => (hb.cell (p := ⟨g, 0, none⟩) hgl).trans hg
  have HR := Lib.hid fun (W : World) (hb : Below w.heap.size w W) => hr.below hb
  have HE := Lib.hid fun (W : World) (hb : Below w.heap.size w W) r hm => (And.intro ((he r hm).1.below hb) (he r hm).2)
  have HLN := Lib.hid hln
  have nI : (rn : Int) ≤ 9223372036854775807 := by unfold maxLen at hn; omega
  clear hg hr he hln hn
  go_enter Tryd.func10, Tryd.ntmps10
  go_wp2
  go_loopw [3, 9] (fun u v wr => Below w.heap.size w wr ∧ Blk wr w.heap.size 46 #[.slice none 0 0, .slice none 0 0, .slice (some ⟨g, 0, none⟩) 1 1] ∧ ((u = .int .i64 0 ∧ v = .int .i64 0) ∨ ((∃ x : Int, u = .int .i64 x) ∧ v = .int .i64 1 ∧ Hid (∀ r ∈ rows, grV 0 r.l = false)))) (fun _ v _ => 1 - (intOf v).toNat)
  case atStart => exact ⟨HB.out.1, HB.out.2, .inl ⟨rfl, rfl⟩⟩
  case round =>
    obtain ⟨hb, hB, hor⟩ := hrel
    have b0 : wr.cell? ⟨w.heap.size, 0, none⟩ = some (.slice none 0 0) := hB.cell 0
    have b1 : wr.cell? ⟨w.heap.size, 1, none⟩ = some (.slice none 0 0) := hB.cell 1
    have b2 : wr.cell? ⟨w.heap.size, 2, none⟩ = some (.slice (some ⟨g, 0, none⟩) 1 1) := hB.cell 2
    have g0 := HG.out wr hb
    have hbz := hb.size
    rcases hor with ⟨rfl, rfl⟩ | ⟨⟨x, rfl⟩, rfl, hall⟩
    · have HX := Lib.hid (And.intro hb hB)
      clear hb hB
      go_wp2
      clear b0 b1 b2 g0
      obtain ⟨wo, rfl⟩ : ∃ wo : World, wo = wr := ⟨_, rfl⟩
      go_loopw [3, 18] (fun u v wr => ∃ (x : Int) (k : Nat), u = .int .i64 x ∧ k ≤ rn ∧ v = .int .i64 k ∧ 0 ≤ x ∧ x ≤ 1500 ∧ Below w.heap.size w wr ∧ Blk wr w.heap.size 46 #[.slice none 0 0, .slice none 0 0, .slice (some ⟨g, 0, none⟩) 1 1] ∧ Hid (∀ j, j < k → ∀ r, rows[j]? = some r → grV 0 r.l = false)) (fun _ v _ => rn - (intOf v).toNat)
      case atStart => exact ⟨0, 0, rfl, Nat.zero_le _, rfl, by omega, by omega, HX.out.1, HX.out.2, Lib.hid fun j hj => by omega⟩
      case round =>
        obtain ⟨x, k, rfl, hk, rfl, hx0, hx1, hb, hB, hall⟩ := hrel
        have b0 : wr.cell? ⟨w.heap.size, 0, none⟩ = some (.slice none 0 0) := hB.cell 0
        have b1 : wr.cell? ⟨w.heap.size, 1, none⟩ = some (.slice none 0 0) := hB.cell 1
        have b2 : wr.cell? ⟨w.heap.size, 2, none⟩ = some (.slice (some ⟨g, 0, none⟩) 1 1) := hB.cell 2
        have g0 := HG.out wr hb
        have k0 : (0 : Int) ≤ (k : Int) := by omega
        by_cases hlt : k < rn
        · have k1 : (k : Int) < (rn : Int) := by omega
          obtain ⟨ad, r, rfl, hab, hr, d0⟩ := (HR.out wr hb).rw_ hlt
          have hre := HE.out wr hb r (List.mem_of_getElem? hr)
          have HRR := Lib.hid hr
          have rI : (r.n : Int) ≤ 9223372036854775807 := by have := hre.2.1; unfold maxLen at this; omega
          have HGG := Lib.hid (great_any r.A r.n r.c r.l wr w.heap.size hre.1 hre.2.2 hre.2.1)
          have HXX := Lib.hid (And.intro hb hB)
          have hX1 : 0 ≤ x + (1 + min (r.n : Int) 3000) := by omega
          clear hre hr hb hB
          by_cases hgt : 1500 < x + (1 + min (r.n : Int) 3000)
          · go_wp2
            go_ret
            exact ⟨true, rfl, HXX.out.1, fun h => by cases h⟩
          · have hgt' : x + (1 + min (r.n : Int) 3000) ≤ 1500 := by omega
            cases hgv : grV 0 r.l with
            | true =>
              rw [hgv] at HGG
              clear hgv
              go_wp2_with (go_at_call 13; (with_reducible refine HGG.out.mono ?_); rintro e w' ⟨rfl, rfl⟩)
              go_ret
              exact ⟨true, rfl, HXX.out.1, fun h => by cases h⟩
            | false =>
              have hst : Hid (∀ j, j < k + 1 → ∀ r, rows[j]? = some r → grV 0 r.l = false) := Lib.hid fun j hj u hu => by
                by_cases h : j < k
                · exact hall.out j h u hu
                · have : j = k := by omega
                  subst this
                  rw [HRR.out] at hu
                  injection hu with hu
                  subst hu
                  exact hgv
              rw [hgv] at HGG
              clear hgv
              go_wp2_with (go_at_call 13; (with_reducible refine HGG.out.mono ?_); rintro e w' ⟨rfl, rfl⟩)
              go_roundw
              case rel =>
               exact ⟨_, k + 1, rfl, by omega, by go_num, hX1, hgt', HXX.out.1, HXX.out.2, hst⟩
              case measure => simp [intOf]; omega
        · obtain rfl : rn = k := by omega
          have hfa : Hid (∀ r ∈ rows, grV 0 r.l = false) := Lib.hid fun r hr => by
            obtain ⟨j, hj, he⟩ := List.mem_iff_getElem.1 hr
            exact hall.out j (by rw [← HLN.out]; exact hj) r (by rw [List.getElem?_eq_getElem hj, he])
          have HXX := Lib.hid (And.intro hb hB)
          clear hb hB
          go_wp2
          go_roundw
          case rel => exact ⟨HXX.out.1, HXX.out.2, .inr ⟨⟨_, rfl⟩, by first | rfl | go_num, hfa⟩⟩
          case measure => simp [intOf]
    · have HX := Lib.hid hb
      have hgz : w.heap.size < wr.heap.size := hB.lt
      clear hb hB
      go_wp2_with fail
      refine (great12_nil _).mono ?_
      rintro e w1 ⟨rfl, hb1⟩
      have hbw := bto0 HX.out hb1
      have c2 : w1.cell? ⟨w.heap.size, 2, none⟩ = some (.slice (some ⟨g, 0, none⟩) 1 1) := (hb1.cell (by simp; omega)).trans b2
      go_wp2
      go_ret
      exact ⟨false, rfl, hbw, fun _ => hall.out⟩
end Go.Proofs.YtblpflobpffjnaaDoor
