/-
  The chapter's example of stats: all of it.
-/
import Derived.Test.YtcflblgbgoldlaaUr
set_option linter.unusedSimpArgs false
set_option linter.unusedVariables false
namespace Go.Proofs.Ytcflblgbgoldlaa
open Go.RowKit

/-- The example, where it lies: but for the source. -/
structure AtAll (w : World) (gt gn gc g gw gd : Nat) : Prop where
  ht : gt < w.heap.size
  hn : gn < w.heap.size
  hc : gc < w.heap.size
  hw : gw < w.heap.size
  hd : gd < w.heap.size
  t0 : w.cell? ⟨gt, 0, none⟩ = some (.string ⟨#[116]⟩)
  t1 : w.cell? ⟨gt, 1, none⟩ = some (.slice (some ⟨gc, 0, none⟩) 1 1)
  t2 : w.cell? ⟨gt, 2, none⟩ = some (.int .u32 0)
  t3 : w.cell? ⟨gt, 3, none⟩ = some (.int .i64 100)
  t4 : w.cell? ⟨gt, 4, none⟩ = some (.int .i64 0)
  n0 : w.cell? ⟨gn, 0, none⟩ = some (.int .i64 0)
  c0 : w.cell? ⟨gc, 0, none⟩ = some (.string ⟨#[120]⟩)
  c1 : w.cell? ⟨gc, 1, none⟩ = some (.int .u8 1)
  c2 : w.cell? ⟨gc, 2, none⟩ = some (.int .i64 20)
  c3 : w.cell? ⟨gc, 3, none⟩ = some (.int .i64 0)
  h2 : AtTwo w g
  d0 : w.cell? ⟨gd, 0, none⟩ = some (.int .i64 0)
  b0 : w.cell? ⟨gw, 0, none⟩ = some (.int .u8 4)
  b1 : w.cell? ⟨gw, 1, none⟩ = some (.string ⟨#[61]⟩)
  b2 : w.cell? ⟨gw, 2, none⟩ = some (.bool false)
  b3 : w.cell? ⟨gw, 3, none⟩ = some (.int .u8 0)
  b4 : w.cell? ⟨gw, 4, none⟩ = some (.int .i64 0)
  b5 : w.cell? ⟨gw, 5, none⟩ = some (.string ⟨#[]⟩)
  b6 : w.cell? ⟨gw, 6, none⟩ = some (.string ⟨#[]⟩)
  b7 : w.cell? ⟨gw, 7, none⟩ = some (.string ⟨#[]⟩)
  b8 : w.cell? ⟨gw, 8, none⟩ = some (.int .i64 0)
  b9 : w.cell? ⟨gw, 9, none⟩ = some (.int .i64 0)
  b10 : w.cell? ⟨gw, 10, none⟩ = some (.slice (some ⟨g, 0, none⟩) 2 2)
theorem AtAll.below {w w' : World} {gt gn gc g gw gd : Nat} (h : AtAll w gt gn gc g gw gd) (hb : Below w.heap.size w w') : AtAll w' gt gn gc g gw gd := by
  obtain ⟨ht, hn, hc, hw, hd, t0, t1, t2, t3, t4, n0, c0, c1, c2, c3, h2, d0, b0, b1, b2, b3, b4, b5, b6, b7, b8, b9, b10⟩ := h
  have k : ∀ g j, g < w.heap.size → w'.cell? ⟨g, j, none⟩ = w.cell? ⟨g, j, none⟩ := fun g j hg => hb.cell (p := ⟨g, j, none⟩) hg
  have hz := hb.size
  exact ⟨by omega, by omega, by omega, by omega, by omega, (k _ _ ht).trans t0, (k _ _ ht).trans t1, (k _ _ ht).trans t2, (k _ _ ht).trans t3, (k _ _ ht).trans t4, (k _ _ hn).trans n0, (k _ _ hc).trans c0, (k _ _ hc).trans c1, (k _ _ hc).trans c2, (k _ _ hc).trans c3, h2.below hb, (k _ _ hd).trans d0, (k _ _ hw).trans b0, (k _ _ hw).trans b1, (k _ _ hw).trans b2, (k _ _ hw).trans b3, (k _ _ hw).trans b4, (k _ _ hw).trans b5, (k _ _ hw).trans b6, (k _ _ hw).trans b7, (k _ _ hw).trans b8, (k _ _ hw).trans b9, (k _ _ hw).trans b10⟩
theorem AtAll.src {w : World} {gt gn gc g gw gd g' : Nat} {t : TypeId} (h : AtAll w gt gn gc g gw gd) (b : Blk w g' t #[.slice (some ⟨gt, 0, none⟩) 1 1, .slice none 0 0, .slice (some ⟨gn, 0, none⟩) 1 1]) : AtSrc w g' gt gn gc :=
  ⟨b.lt, h.ht, h.hn, h.hc, b.cell 0, b.cell 1, b.cell 2, h.t0, h.t1, h.t2, h.t3, h.t4, h.n0, h.c0, h.c1, h.c2, h.c3⟩
@[reducible] def blkV (gn gw : Nat) : Value := .agg #[.bool false, .slice (some ⟨gn, 0, none⟩) 1 1, .slice none 0 0, .slice none 0 0, .slice none 0 0, .slice (some ⟨gw, 0, none⟩) 1 1, .bool false, .slice none 0 0, .slice none 0 0, .slice none 0 0, .int .i64 0]
set_option maxRecDepth 100000 in
theorem Part_any (gt gn gc g gw gd : Nat) (w : World) (h : AtAll w gt gn gc g gw gd) :
  Calls Try.prog 9 #[.agg #[.slice (some ⟨gt, 0, none⟩) 1 1, .slice none 0 0], blkV gn gw, .int .i64 0, .slice (some ⟨gd, 0, none⟩) 1 1] w (RetB w (.int .u64 5)) := by
  have N := Lib.hid fun W => (count_any 100 (by omega) W : Calls Try.prog 17 #[.int .i64 100] W (RetB W (.int .u64 100)))
  have H := Lib.hid h
  clear h
  go_enter Try.func9, Try.ntmps9
  go_wp2_with fail
  have sr : Blk (((w.alloc (Obj.cells #[.slice (some ⟨gt, 0, none⟩) 1 1, .slice none 0 0] 35)).alloc (Obj.cells #[.bool false, .slice (some ⟨gn, 0, none⟩) 1 1, .slice none 0 0, .slice none 0 0, .slice none 0 0, .slice (some ⟨gw, 0, none⟩) 1 1, .bool false, .slice none 0 0, .slice none 0 0, .slice none 0 0, .int .i64 0] 47)).alloc (Obj.cells #[.slice (some ⟨gt, 0, none⟩) 1 1, .slice none 0 0, .slice (some ⟨gn, 0, none⟩) 1 1] 59)) (w.heap.size + 1 + 1) 59 #[.slice (some ⟨gt, 0, none⟩) 1 1, .slice none 0 0, .slice (some ⟨gn, 0, none⟩) 1 1] := Blk.newAt (by simp)
  refine (table_any _ gt gn gc _ ((H.out.below (ball (ball (ball (Below.refl _ _) _) _) _)).src sr)).mono ?_
  rintro e w1 ⟨rfl, hb1⟩
  have hz1 := hb1.size
  (try simp at hz1)
  have BW := (bto0 (by with_reducible repeat (first | exact Below.refl _ _ | refine ball ?_ _)) hb1 : Below w.heap.size w w1)
  have S1 := Lib.hid (blkOf hb1 (by (try simp) <;> omega) sr)
  have K : Blk w1 (w.heap.size + 1) 47 #[.bool false, .slice (some ⟨gn, 0, none⟩) 1 1, .slice none 0 0, .slice none 0 0, .slice none 0 0, .slice (some ⟨gw, 0, none⟩) 1 1, .bool false, .slice none 0 0, .slice none 0 0, .slice none 0 0, .int .i64 0] := blkOf hb1 (by (try simp) <;> omega) (by with_reducible repeat (first | exact Blk.newAt (by simp) | refine Blk.drew ?_ | refine Blk.alloc ?_ _))
  have K_0 : (w1).cell? ⟨w.heap.size + 1, 0, none⟩ = some (.bool false) := K.cell 0
  have K_1 : (w1).cell? ⟨w.heap.size + 1, 1, none⟩ = some (.slice (some ⟨gn, 0, none⟩) 1 1) := K.cell 1
  have K_2 : (w1).cell? ⟨w.heap.size + 1, 2, none⟩ = some (.slice none 0 0) := K.cell 2
  have K_3 : (w1).cell? ⟨w.heap.size + 1, 3, none⟩ = some (.slice none 0 0) := K.cell 3
  have K_4 : (w1).cell? ⟨w.heap.size + 1, 4, none⟩ = some (.slice none 0 0) := K.cell 4
  have K_5 : (w1).cell? ⟨w.heap.size + 1, 5, none⟩ = some (.slice (some ⟨gw, 0, none⟩) 1 1) := K.cell 5
  have K_6 : (w1).cell? ⟨w.heap.size + 1, 6, none⟩ = some (.bool false) := K.cell 6
  have K_7 : (w1).cell? ⟨w.heap.size + 1, 7, none⟩ = some (.slice none 0 0) := K.cell 7
  have K_8 : (w1).cell? ⟨w.heap.size + 1, 8, none⟩ = some (.slice none 0 0) := K.cell 8
  have K_9 : (w1).cell? ⟨w.heap.size + 1, 9, none⟩ = some (.slice none 0 0) := K.cell 9
  have K_10 : (w1).cell? ⟨w.heap.size + 1, 10, none⟩ = some (.int .i64 0) := K.cell 10
  have KH := Lib.hid K
  have BH := Lib.hid BW
  have lt1 : w.heap.size + 1 < w1.heap.size := by omega
  clear sr hb1 BW K
  go_wp2_with fail
  refine (N.out _).mono ?_
  rintro e w2 ⟨rfl, hb2⟩
  have hz2 := hb2.size
  (try simp at hz2)
  have BW := bto0 (ball BH.out _) hb2
  have BH2 := Lib.hid (show Below w.heap.size w w2 from BW)
  have A2 := Lib.hid (H.out.below BW)
  have S2 := Lib.hid (A2.out.src (blkOf hb2 (by (try simp) <;> omega) (S1.out.alloc _)))
  have KH2 := Lib.hid (blkOf hb2 (by (try simp) <;> omega) (KH.out.alloc _))
  clear BW hb2 K_0 K_1 K_2 K_3 K_4 K_5 K_6 K_7 K_8 K_9 K_10 S1 KH BH
  go_wp2
  go_loopw [12, 33] (fun u v wr => ∃ (n k : Nat), u = .int .u64 n ∧ v = .int .i64 k ∧ (k = 0 ∧ n = 100 ∨ k = 1 ∧ n = 5) ∧ Below w2.heap.size w2 wr) (fun _ v _ => 1 - (intOf v).toNat)
  case atStart => exact ⟨100, 0, rfl, rfl, .inl ⟨rfl, rfl⟩, Below.refl _ _⟩
  case round =>
    obtain ⟨n, k, rfl, rfl, hk, hb⟩ := hrel
    rcases hk with ⟨rfl, rfl⟩ | ⟨rfl, rfl⟩
    · obtain ⟨ht, hn, hc, hw, hd, t0, t1, t2, t3, t4, n0, c0, c1, c2, c3, h2, d0, b0, b1, b2, b3, b4, b5, b6, b7, b8, b9, b10⟩ := A2.out.below hb
      have K5 : wr.cell? ⟨w.heap.size + 1, 5, none⟩ = some (.slice (some ⟨gw, 0, none⟩) 1 1) := (KH2.out.below hb (by omega)).cell 5
      have P := Lib.hid (part_any _ _ _ _ _ wr (S2.out.below hb) h2)
      have HB := Lib.hid hb
      clear hb h2
      go_wp2_with fail
      refine P.out.mono ?_
      rintro e w3 ⟨rfl, hb3⟩
      go_wp2
      go_round
      case rel => exact ⟨5, 1, rfl, rfl, .inr ⟨rfl, rfl⟩, bto0 HB.out hb3⟩
      case measure => decide
    · go_wp2
      go_ret
      exact ⟨by rfl, bto0 BH2.out hb⟩
theorem AtAll.of {w : World} {gt gn gc g gw gd : Nat} (bt : Blk w gt 31 #[.string ⟨#[116]⟩, .slice (some ⟨gc, 0, none⟩) 1 1, .int .u32 0, .int .i64 100, .int .i64 0]) (bn : Blk w gn 3 #[.int .i64 0])
    (bc : Blk w gc 27 #[.string ⟨#[120]⟩, .int .u8 1, .int .i64 20, .int .i64 0]) (b2 : Blk w g 40 #[.int .u8 2, .string ⟨#[]⟩, .bool false, .int .u8 0, .int .i64 0, .string ⟨#[]⟩, .string ⟨#[]⟩, .string ⟨#[]⟩, .int .i64 0, .int .i64 0, .slice none 0 0, .int .u8 1, .string ⟨#[]⟩, .bool false, .int .u8 1, .int .i64 5, .string ⟨#[]⟩, .string ⟨#[]⟩, .string ⟨#[]⟩, .int .i64 0, .int .i64 0, .slice none 0 0]) (bw : Blk w gw 40 #[.int .u8 4, .string ⟨#[61]⟩, .bool false, .int .u8 0, .int .i64 0, .string ⟨#[]⟩, .string ⟨#[]⟩, .string ⟨#[]⟩, .int .i64 0, .int .i64 0, .slice (some ⟨g, 0, none⟩) 2 2]) (bd : Blk w gd 3 #[.int .i64 0]) : AtAll w gt gn gc g gw gd :=
  ⟨bt.lt, bn.lt, bc.lt, bw.lt, bd.lt, bt.cell 0, bt.cell 1, bt.cell 2, bt.cell 3, bt.cell 4, bn.cell 0, bc.cell 0, bc.cell 1, bc.cell 2, bc.cell 3, ⟨⟨b2.lt, b2.cell 0, b2.cell 1, b2.cell 2, b2.cell 3, b2.cell 4, b2.cell 5, b2.cell 6, b2.cell 7, b2.cell 8, b2.cell 9, b2.cell 10⟩, b2.cell 11, b2.cell 12, b2.cell 13, b2.cell 14, b2.cell 15, b2.cell 16, b2.cell 17, b2.cell 18, b2.cell 19, b2.cell 20, b2.cell 21⟩, bd.cell 0, bw.cell 0, bw.cell 1, bw.cell 2, bw.cell 3, bw.cell 4, bw.cell 5, bw.cell 6, bw.cell 7, bw.cell 8, bw.cell 9, bw.cell 10⟩
theorem fixed20_any (w : World) : Calls Try.prog 4 #[] w (RetB w (.bool true)) := by
  go_enter Try.func4, Try.ntmps4
  go_wp2_with fail
  refine (Part_any (w.heap.size + 1) (w.heap.size + 1 + 1 + 1 + 1 + 1) w.heap.size (w.heap.size + 1 + 1 + 1) (w.heap.size + 1 + 1 + 1 + 1 + 1 + 1) (w.heap.size + 1 + 1 + 1 + 1 + 1 + 1 + 1) _ (AtAll.of (by with_reducible repeat (first | exact Blk.newAt (by simp) | refine Blk.alloc ?_ _)) (((Blk.newAt (by simp)).alloc _).alloc _) (by with_reducible repeat (first | exact Blk.newAt (by simp) | refine Blk.alloc ?_ _)) (by with_reducible repeat (first | exact Blk.newAt (by simp) | refine Blk.alloc ?_ _)) (by with_reducible repeat (first | exact Blk.newAt (by simp) | refine Blk.alloc ?_ _)) (by with_reducible repeat (first | exact Blk.newAt (by simp) | refine Blk.alloc ?_ _)))).mono ?_
  rintro e w1 ⟨rfl, hb1⟩
  have BW := (bto0 (by with_reducible repeat (first | exact Below.refl _ _ | refine ball ?_ _)) hb1 : Below w.heap.size w w1)
  clear hb1
  go_wp2
  go_ret
  exact ⟨rfl, BW⟩
end Go.Proofs.Ytcflblgbgoldlaa
