/-
  Same: of two tables, two indexes, two books.
-/
import Derived.Test.YtflolnilagogpaaIi
set_option linter.unusedSimpArgs false
set_option linter.unusedVariables false
namespace Go.Proofs.Ytflolnilagogpaa
open Go.RowKit

theorem blkOf {B : Nat} {w w' : World} {g : Nat} {t : TypeId} {cs : Array Value} (hb : Below B w w') (hg : g < B) (h : Blk w g t cs) : Blk w' g t cs := h.below hb hg
theorem Blk.newAt {w : World} {t : TypeId} {cs : Array Value} {g : Nat} (h : g = w.heap.size) : Blk (w.alloc (.cells cs t)) g t cs := by subst h; exact Blk.new _ _ _
theorem beq_int (x y : Int) : ∃ b : Bool, (x == y) = b ∧ (b = true ↔ x = y) := ⟨_, rfl, by simp⟩
theorem beq_nm (x y : ByteArray) : ∃ b : Bool, (x.toList == y.toList) = b ∧ (b = true ↔ x.data.toList = y.data.toList) := by
  rcases nm_cases2 x y with ⟨h1, h2⟩ | ⟨h1, h2⟩
  · exact ⟨true, h2, fun _ => h1, fun _ => rfl⟩
  · exact ⟨false, h2, fun h => (by cases h), fun h => absurd h h1⟩
theorem TbOk.mv {w w' : World} {t : Tb} (h : TbOk w w.heap.size t) (hb : Below w.heap.size w w') : TbOk w' w'.heap.size t := by
  obtain ⟨h1, h2⟩ := h
  have h3 := h1.under hb
  exact ⟨⟨h3.1, h3.2.1, h3.2.2.1.more hb.size, h3.2.2.2⟩, h2⟩
theorem IxIn.mv {w w' : World} {x : Ix} (h : IxIn w w.heap.size x) (hb : Below w.heap.size w w') : IxIn w' w'.heap.size x := by
  have h3 := h.under hb
  exact ⟨h3.1, h3.2.1.more hb.size, h3.2.2.1.more hb.size, h3.2.2.2⟩
set_option maxRecDepth 100000 in
set_option maxHeartbeats 2000000 in
theorem sameTable_any (p q : Tb) (w : World) (hp : TbOk w w.heap.size p) (hq : TbOk w w.heap.size q) : Calls Try.prog 32 #[p.agg, q.agg] w (RetM w (p.pt = q.pt)) := by
  have EQ : Hid (∀ W, Below w.heap.size w W → Calls Try.prog 50 #[.slice p.A p.n p.c, .slice q.A q.n q.c] W (RetM W (p.cols.map Cl.pc = q.cols.map Cl.pc))) := Lib.hid fun W hW => eqc_any _ _ _ _ _ _ _ _ W (hp.mv hW).1.2.2.1 (hq.mv hW).1.2.2.1 (Nat.le_trans hp.1.2.1.1 hp.1.2.1.2) (Nat.le_trans hq.1.2.1.1 hq.1.2.1.2)
  have hbb : Below w.heap.size w ((w.alloc (.cells #[.string p.nm, .slice p.A p.n p.c, .int .u32 p.f, .int .i64 p.r, .int .i64 p.p] 44)).alloc (.cells #[.string q.nm, .slice q.A q.n q.c, .int .u32 q.f, .int .i64 q.r, .int .i64 q.p] 44)) := ball (ball (Below.refl _ _) _) _
  have HBB := Lib.hid hbb
  have hE : p.pt = q.pt ↔ (p.nm.data.toList = q.nm.data.toList ∧ p.cols.map Cl.pc = q.cols.map Cl.pc ∧ p.f = q.f ∧ p.r = q.r ∧ p.p = q.p) := by
    unfold Tb.pt
    rw [PT.mk.injEq]
  have HE := Lib.hid hE
  obtain ⟨b1, e1, c1⟩ := beq_nm p.nm q.nm
  obtain ⟨b3, e3, c3⟩ := beq_int p.f q.f
  obtain ⟨b4, e4, c4⟩ := beq_int p.r q.r
  obtain ⟨b5, e5, c5⟩ := beq_int p.p q.p
  have HC := Lib.hid (And.intro c1 (And.intro c3 (And.intro c4 c5)))
  clear hp hq hbb hE c1 c3 c4 c5
  cases b1 with
  | false =>
    go_enter Try.func32, Try.ntmps32
    go_wp2
    go_ret
    exact ⟨false, rfl, ⟨fun h => (by cases h), fun h => absurd (HC.out.1.2 (HE.out.1 h).1) (by decide)⟩, HBB.out⟩
  | true =>
    go_enter Try.func32, Try.ntmps32
    go_wp2_with fail
    refine (EQ.out _ (by with_reducible repeat (first | exact Below.refl _ _ | refine Below.drew ?_ | refine bdr ?_ _ | refine ball ?_ _))).mono ?_
    rintro e w1 ⟨b2, rfl, c2, hb1⟩
    have hz1 := hb1.size
    (try simp at hz1)
    have P : Blk w1 (w.heap.size) 44 #[.string p.nm, .slice p.A p.n p.c, .int .u32 p.f, .int .i64 p.r, .int .i64 p.p] := blkOf hb1 (by (try simp) <;> omega) (by with_reducible repeat (first | exact Blk.newAt (by simp) | refine Blk.drew ?_ | refine Blk.alloc ?_ _))
    have P_0 : (w1).cell? ⟨w.heap.size, 0, none⟩ = some (.string p.nm) := P.cell 0
    have P_1 : (w1).cell? ⟨w.heap.size, 1, none⟩ = some (.slice p.A p.n p.c) := P.cell 1
    have P_2 : (w1).cell? ⟨w.heap.size, 2, none⟩ = some (.int .u32 p.f) := P.cell 2
    have P_3 : (w1).cell? ⟨w.heap.size, 3, none⟩ = some (.int .i64 p.r) := P.cell 3
    have P_4 : (w1).cell? ⟨w.heap.size, 4, none⟩ = some (.int .i64 p.p) := P.cell 4
    have Q : Blk w1 (w.heap.size + 1) 44 #[.string q.nm, .slice q.A q.n q.c, .int .u32 q.f, .int .i64 q.r, .int .i64 q.p] := blkOf hb1 (by (try simp) <;> omega) (by with_reducible repeat (first | exact Blk.newAt (by simp) | refine Blk.drew ?_ | refine Blk.alloc ?_ _))
    have Q_0 : (w1).cell? ⟨w.heap.size + 1, 0, none⟩ = some (.string q.nm) := Q.cell 0
    have Q_1 : (w1).cell? ⟨w.heap.size + 1, 1, none⟩ = some (.slice q.A q.n q.c) := Q.cell 1
    have Q_2 : (w1).cell? ⟨w.heap.size + 1, 2, none⟩ = some (.int .u32 q.f) := Q.cell 2
    have Q_3 : (w1).cell? ⟨w.heap.size + 1, 3, none⟩ = some (.int .i64 q.r) := Q.cell 3
    have Q_4 : (w1).cell? ⟨w.heap.size + 1, 4, none⟩ = some (.int .i64 q.p) := Q.cell 4
    have HB := Lib.hid (And.intro c2 (bto0 HBB.out hb1))
    clear P Q hb1 c2
    cases b2 with
    | false =>
      go_wp2
      go_ret
      exact ⟨false, rfl, ⟨fun h => (by cases h), fun h => absurd (HB.out.1.2 (HE.out.1 h).2.1) (by decide)⟩, HB.out.2⟩
    | true =>
      cases b3 <;> cases b4 <;> cases b5
      all_goals
        go_wp2
        go_ret
        first
          | exact ⟨true, rfl, ⟨fun _ => HE.out.2 ⟨HC.out.1.1 (by first | rfl | trivial), HB.out.1.1 (by first | rfl | trivial), HC.out.2.1.1 (by first | rfl | trivial), HC.out.2.2.1.1 (by first | rfl | trivial), HC.out.2.2.2.1 (by first | rfl | trivial)⟩, fun _ => rfl⟩, HB.out.2⟩
          | exact ⟨false, rfl, ⟨fun h => (by cases h), fun h => (by
              have h1 := HE.out.1 h
              first
                | exact absurd (HC.out.2.1.2 h1.2.2.1) (by decide)
                | exact absurd (HC.out.2.2.1.2 h1.2.2.2.1) (by decide)
                | exact absurd (HC.out.2.2.2.2 h1.2.2.2.2) (by decide))⟩, HB.out.2⟩
set_option maxRecDepth 100000 in
set_option maxHeartbeats 4000000 in
theorem sameIndex_any (p q : Ix) (w : World) (hp : IxIn w w.heap.size p) (hq : IxIn w w.heap.size q) : Calls Try.prog 34 #[p.agg, q.agg] w (RetM w (p.px = q.px)) := by
  have EQ : Hid (∀ W, Below w.heap.size w W → Calls Try.prog 51 #[.slice p.A p.n p.c, .slice q.A q.n q.c] W (RetM W (p.cs = q.cs))) := Lib.hid fun W hW => eqi_any _ _ _ _ _ _ _ _ W (hp.mv hW).2.1 (hq.mv hW).2.1 (Nat.le_trans hp.1.2.1.1 hp.1.2.1.2) (Nat.le_trans hq.1.2.1.1 hq.1.2.1.2)
  have EQ2 : Hid (∀ W, Below w.heap.size w W → Calls Try.prog 51 #[.slice p.B p.m p.e, .slice q.B q.m q.e] W (RetM W (p.ds = q.ds))) := Lib.hid fun W hW => eqi_any _ _ _ _ _ _ _ _ W (hp.mv hW).2.2.1 (hq.mv hW).2.2.1 (Nat.le_trans hp.1.2.2.1 hp.1.2.2.2) (Nat.le_trans hq.1.2.2.1 hq.1.2.2.2)
  have hbb : Below w.heap.size w ((w.alloc (.cells #[.string p.nm, .int .i64 p.tb, .slice p.A p.n p.c, .int .u32 p.root, .int .i64 p.lv, .int .i64 p.hi, .slice p.B p.m p.e] 49)).alloc (.cells #[.string q.nm, .int .i64 q.tb, .slice q.A q.n q.c, .int .u32 q.root, .int .i64 q.lv, .int .i64 q.hi, .slice q.B q.m q.e] 49)) := ball (ball (Below.refl _ _) _) _
  have HBB := Lib.hid hbb
  have hE : p.px = q.px ↔ (p.nm.data.toList = q.nm.data.toList ∧ p.tb = q.tb ∧ p.cs = q.cs ∧ p.root = q.root ∧ p.lv = q.lv ∧ p.hi = q.hi ∧ p.ds = q.ds) := by
    unfold Ix.px
    rw [PX.mk.injEq]
  have HE := Lib.hid hE
  obtain ⟨b1, e1, c1⟩ := beq_nm p.nm q.nm
  obtain ⟨b6, e6, c6⟩ := beq_int p.tb q.tb
  obtain ⟨b3, e3, c3⟩ := beq_int p.root q.root
  obtain ⟨b4, e4, c4⟩ := beq_int p.lv q.lv
  obtain ⟨b5, e5, c5⟩ := beq_int p.hi q.hi
  have HC := Lib.hid (And.intro c1 (And.intro c6 (And.intro c3 (And.intro c4 c5))))
  clear hp hq hbb hE c1 c3 c4 c5 c6
  by_cases h16 : (b1 && b6) = false
  · cases b1 <;> cases b6
    all_goals first
      | (exfalso; revert h16; decide)
      | (clear h16
         go_enter Try.func34, Try.ntmps34
         go_wp2
         go_ret
         exact ⟨false, rfl, ⟨fun h => (by cases h), fun h => (by
           have h1 := HE.out.1 h
           first
             | exact absurd (HC.out.1.2 h1.1) (by decide)
             | exact absurd (HC.out.2.1.2 h1.2.1) (by decide))⟩, HBB.out⟩)
  · obtain ⟨rfl, rfl⟩ : b1 = true ∧ b6 = true := by cases b1 <;> cases b6 <;> simp at h16 ⊢
    clear h16
    go_enter Try.func34, Try.ntmps34
    go_wp2_with fail
    refine (EQ.out _ (by with_reducible repeat (first | exact Below.refl _ _ | refine Below.drew ?_ | refine bdr ?_ _ | refine ball ?_ _))).mono ?_
    rintro e w1 ⟨b2, rfl, c2, hb1⟩
    have hz1 := hb1.size
    (try simp at hz1)
    have P : Blk w1 (w.heap.size) 49 #[.string p.nm, .int .i64 p.tb, .slice p.A p.n p.c, .int .u32 p.root, .int .i64 p.lv, .int .i64 p.hi, .slice p.B p.m p.e] := blkOf hb1 (by (try simp) <;> omega) (by with_reducible repeat (first | exact Blk.newAt (by simp) | refine Blk.drew ?_ | refine Blk.alloc ?_ _))
    have P_0 : (w1).cell? ⟨w.heap.size, 0, none⟩ = some (.string p.nm) := P.cell 0
    have P_1 : (w1).cell? ⟨w.heap.size, 1, none⟩ = some (.int .i64 p.tb) := P.cell 1
    have P_2 : (w1).cell? ⟨w.heap.size, 2, none⟩ = some (.slice p.A p.n p.c) := P.cell 2
    have P_3 : (w1).cell? ⟨w.heap.size, 3, none⟩ = some (.int .u32 p.root) := P.cell 3
    have P_4 : (w1).cell? ⟨w.heap.size, 4, none⟩ = some (.int .i64 p.lv) := P.cell 4
    have P_5 : (w1).cell? ⟨w.heap.size, 5, none⟩ = some (.int .i64 p.hi) := P.cell 5
    have P_6 : (w1).cell? ⟨w.heap.size, 6, none⟩ = some (.slice p.B p.m p.e) := P.cell 6
    have Q : Blk w1 (w.heap.size + 1) 49 #[.string q.nm, .int .i64 q.tb, .slice q.A q.n q.c, .int .u32 q.root, .int .i64 q.lv, .int .i64 q.hi, .slice q.B q.m q.e] := blkOf hb1 (by (try simp) <;> omega) (by with_reducible repeat (first | exact Blk.newAt (by simp) | refine Blk.drew ?_ | refine Blk.alloc ?_ _))
    have Q_0 : (w1).cell? ⟨w.heap.size + 1, 0, none⟩ = some (.string q.nm) := Q.cell 0
    have Q_1 : (w1).cell? ⟨w.heap.size + 1, 1, none⟩ = some (.int .i64 q.tb) := Q.cell 1
    have Q_2 : (w1).cell? ⟨w.heap.size + 1, 2, none⟩ = some (.slice q.A q.n q.c) := Q.cell 2
    have Q_3 : (w1).cell? ⟨w.heap.size + 1, 3, none⟩ = some (.int .u32 q.root) := Q.cell 3
    have Q_4 : (w1).cell? ⟨w.heap.size + 1, 4, none⟩ = some (.int .i64 q.lv) := Q.cell 4
    have Q_5 : (w1).cell? ⟨w.heap.size + 1, 5, none⟩ = some (.int .i64 q.hi) := Q.cell 5
    have Q_6 : (w1).cell? ⟨w.heap.size + 1, 6, none⟩ = some (.slice q.B q.m q.e) := Q.cell 6
    have hbw1 := bto0 HBB.out hb1
    have HB := Lib.hid (And.intro c2 hbw1)
    clear P Q hb1 c2 hbw1
    have dd : ∀ (a b : Bool), (a && b) = false → a = false ∨ b = false := by decide
    by_cases h345 : (b2 && b3 && b4 && b5) = false
    · cases b2 <;> cases b3 <;> cases b4 <;> cases b5
      all_goals first
        | (exfalso; revert h345; decide)
        | (clear h345
           go_wp2
           go_ret
           exact ⟨false, rfl, ⟨fun h => (by cases h), fun h => (by
             have h1 := HE.out.1 h
             first
               | exact absurd (HB.out.1.2 h1.2.2.1) (by decide)
               | exact absurd (HC.out.2.2.1.2 h1.2.2.2.1) (by decide)
               | exact absurd (HC.out.2.2.2.1.2 h1.2.2.2.2.1) (by decide)
               | exact absurd (HC.out.2.2.2.2.2 h1.2.2.2.2.2.1) (by decide))⟩, HB.out.2⟩)
    · obtain ⟨rfl, rfl, rfl, rfl⟩ : b2 = true ∧ b3 = true ∧ b4 = true ∧ b5 = true := by cases b2 <;> cases b3 <;> cases b4 <;> cases b5 <;> simp at h345 ⊢
      clear h345 dd
      go_wp2_with fail
      refine (EQ2.out _ (bto0 HB.out.2 (by with_reducible repeat (first | exact Below.refl _ _ | refine Below.drew ?_ | refine bdr ?_ _ | refine ball ?_ _)))).mono ?_
      rintro e w2 ⟨b7, rfl, c7, hb2⟩
      have HD := Lib.hid (And.intro c7 (bto0 HB.out.2 hb2))
      clear c7 hb2
      go_wp2
      go_ret
      exact ⟨b7, rfl, ⟨fun h => HE.out.2 ⟨HC.out.1.1 (by first | rfl | trivial), HC.out.2.1.1 (by first | rfl | trivial), HB.out.1.1 (by first | rfl | trivial), HC.out.2.2.1.1 (by first | rfl | trivial), HC.out.2.2.2.1.1 (by first | rfl | trivial), HC.out.2.2.2.2.1 (by first | rfl | trivial), HD.out.1.1 h⟩, fun h => HD.out.1.2 (HE.out.1 h).2.2.2.2.2.2⟩, HD.out.2⟩
end Go.Proofs.Ytflolnilagogpaa
