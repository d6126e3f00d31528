/-
  Several texts in one: Ij Ir.
-/
import Derived.Test.YtflolnilagogpaaMgl
/-
  Same: of two tables, two indexes, two books.
-/
namespace Go.Proofs.Ytflolnilagogpaa
section
set_option linter.unusedSimpArgs false
set_option linter.unusedVariables false
open Go.RowKit

theorem blkOf {B : Nat} {w w' : World} {g : Nat} {t : TypeId} {cs : Array Value} (hb : Below B w w') (hg : g < B) (h : Blk w g t cs) : Blk w' g t cs := h.below hb hg
theorem Blk.newAt {w : World} {t : TypeId} {cs : Array Value} {g : Nat} (h : g = w.heap.size) : Blk (w.alloc (.cells cs t)) g t cs := by subst h; exact Blk.new _ _ _
theorem beq_int (x y : Int) : ∃ b : Bool, (x == y) = b ∧ (b = true ↔ x = y) := ⟨_, rfl, by simp⟩
theorem beq_nm (x y : ByteArray) : ∃ b : Bool, (x.toList == y.toList) = b ∧ (b = true ↔ x.data.toList = y.data.toList) := by
  rcases nm_cases2 x y with ⟨h1, h2⟩ | ⟨h1, h2⟩
  · exact ⟨true, h2, fun _ => h1, fun _ => rfl⟩
  · exact ⟨false, h2, fun h => (by cases h), fun h => absurd h h1⟩
theorem TbOk.mv {w w' : World} {t : Tb} (h : TbOk w w.heap.size t) (hb : Below w.heap.size w w') : TbOk w' w'.heap.size t := by
  obtain ⟨h1, h2⟩ := h
  have h3 := h1.under hb
  exact ⟨⟨h3.1, h3.2.1, h3.2.2.1.more hb.size, h3.2.2.2⟩, h2⟩
theorem IxIn.mv {w w' : World} {x : Ix} (h : IxIn w w.heap.size x) (hb : Below w.heap.size w w') : IxIn w' w'.heap.size x := by
  have h3 := h.under hb
  exact ⟨h3.1, h3.2.1.more hb.size, h3.2.2.1.more hb.size, h3.2.2.2⟩
set_option maxRecDepth 100000 in
set_option maxHeartbeats 2000000 in
theorem sameTable_any (p q : Tb) (w : World) (hp : TbOk w w.heap.size p) (hq : TbOk w w.heap.size q) : Calls Try.prog 32 #[p.agg, q.agg] w (RetM w (p.pt = q.pt)) := by
  have EQ : Hid (∀ W, Below w.heap.size w W → Calls Try.prog 50 #[.slice p.A p.n p.c, .slice q.A q.n q.c] W (RetM W (p.cols.map Cl.pc = q.cols.map Cl.pc))) := Lib.hid fun W hW => eqc_any _ _ _ _ _ _ _ _ W (hp.mv hW).1.2.2.1 (hq.mv hW).1.2.2.1 (Nat.le_trans hp.1.2.1.1 hp.1.2.1.2) (Nat.le_trans hq.1.2.1.1 hq.1.2.1.2)
  have hbb : Below w.heap.size w ((w.alloc (.cells #[.string p.nm, .slice p.A p.n p.c, .int .u32 p.f, .int .i64 p.r, .int .i64 p.p] 44)).alloc (.cells #[.string q.nm, .slice q.A q.n q.c, .int .u32 q.f, .int .i64 q.r, .int .i64 q.p] 44)) := ball (ball (Below.refl _ _) _) _
  have HBB := Lib.hid hbb
  have hE : p.pt = q.pt ↔ (p.nm.data.toList = q.nm.data.toList ∧ p.cols.map Cl.pc = q.cols.map Cl.pc ∧ p.f = q.f ∧ p.r = q.r ∧ p.p = q.p) := by
    unfold Tb.pt
    rw [PT.mk.injEq]
  have HE := Lib.hid hE
  obtain ⟨b1, e1, c1⟩ := beq_nm p.nm q.nm
  obtain ⟨b3, e3, c3⟩ := beq_int p.f q.f
  obtain ⟨b4, e4, c4⟩ := beq_int p.r q.r
  obtain ⟨b5, e5, c5⟩ := beq_int p.p q.p
  have HC := Lib.hid (And.intro c1 (And.intro c3 (And.intro c4 c5)))
  clear hp hq hbb hE c1 c3 c4 c5
  cases b1 with
  | false =>
    go_enter Try.func32, Try.ntmps32
    go_wp2
    go_ret
    exact ⟨false, rfl, ⟨fun h => (by cases h), fun h => absurd (HC.out.1.2 (HE.out.1 h).1) (by decide)⟩, HBB.out⟩
  | true =>
    go_enter Try.func32, Try.ntmps32
    go_wp2_with fail
    refine (EQ.out _ (by with_reducible repeat (first | exact Below.refl _ _ | refine Below.drew ?_ | refine bdr ?_ _ | refine ball ?_ _))).mono ?_
    rintro e w1 ⟨b2, rfl, c2, hb1⟩
    have hz1 := hb1.size
    (try simp at hz1)
    have P : Blk w1 (w.heap.size) 44 #[.string p.nm, .slice p.A p.n p.c, .int .u32 p.f, .int .i64 p.r, .int .i64 p.p] := blkOf hb1 (by (try simp) <;> omega) (by with_reducible repeat (first | exact Blk.newAt (by simp) | refine Blk.drew ?_ | refine Blk.alloc ?_ _))
    have P_0 : (w1).cell? ⟨w.heap.size, 0, none⟩ = some (.string p.nm) := P.cell 0
    have P_1 : (w1).cell? ⟨w.heap.size, 1, none⟩ = some (.slice p.A p.n p.c) := P.cell 1
    have P_2 : (w1).cell? ⟨w.heap.size, 2, none⟩ = some (.int .u32 p.f) := P.cell 2
    have P_3 : (w1).cell? ⟨w.heap.size, 3, none⟩ = some (.int .i64 p.r) := P.cell 3
    have P_4 : (w1).cell? ⟨w.heap.size, 4, none⟩ = some (.int .i64 p.p) := P.cell 4
    have Q : Blk w1 (w.heap.size + 1) 44 #[.string q.nm, .slice q.A q.n q.c, .int .u32 q.f, .int .i64 q.r, .int .i64 q.p] := blkOf hb1 (by (try simp) <;> omega) (by with_reducible repeat (first | exact Blk.newAt (by simp) | refine Blk.drew ?_ | refine Blk.alloc ?_ _))
    have Q_0 : (w1).cell? ⟨w.heap.size + 1, 0, none⟩ = some (.string q.nm) := Q.cell 0
    have Q_1 : (w1).cell? ⟨w.heap.size + 1, 1, none⟩ = some (.slice q.A q.n q.c) := Q.cell 1
    have Q_2 : (w1).cell? ⟨w.heap.size + 1, 2, none⟩ = some (.int .u32 q.f) := Q.cell 2
    have Q_3 : (w1).cell? ⟨w.heap.size + 1, 3, none⟩ = some (.int .i64 q.r) := Q.cell 3
    have Q_4 : (w1).cell? ⟨w.heap.size + 1, 4, none⟩ = some (.int .i64 q.p) := Q.cell 4
    have HB := Lib.hid (And.intro c2 (bto0 HBB.out hb1))
    clear P Q hb1 c2
    cases b2 with
    | false =>
      go_wp2
      go_ret
      exact ⟨false, rfl, ⟨fun h => (by cases h), fun h => absurd (HB.out.1.2 (HE.out.1 h).2.1) (by decide)⟩, HB.out.2⟩
    | true =>
      cases b3 <;> cases b4 <;> cases b5
      all_goals
        go_wp2
        go_ret
        first
          | exact ⟨true, rfl, ⟨fun _ => HE.out.2 ⟨HC.out.1.1 (by first | rfl | trivial), HB.out.1.1 (by first | rfl | trivial), HC.out.2.1.1 (by first | rfl | trivial), HC.out.2.2.1.1 (by first | rfl | trivial), HC.out.2.2.2.1 (by first | rfl | trivial)⟩, fun _ => rfl⟩, HB.out.2⟩
          | exact ⟨false, rfl, ⟨fun h => (by cases h), fun h => (by
              have h1 := HE.out.1 h
              first
                | exact absurd (HC.out.2.1.2 h1.2.2.1) (by decide)
                | exact absurd (HC.out.2.2.1.2 h1.2.2.2.1) (by decide)
                | exact absurd (HC.out.2.2.2.2 h1.2.2.2.2) (by decide))⟩, HB.out.2⟩
set_option maxRecDepth 100000 in
set_option maxHeartbeats 4000000 in
theorem sameIndex_any (p q : Ix) (w : World) (hp : IxIn w w.heap.size p) (hq : IxIn w w.heap.size q) : Calls Try.prog 34 #[p.agg, q.agg] w (RetM w (p.px = q.px)) := by
  have EQ : Hid (∀ W, Below w.heap.size w W → Calls Try.prog 51 #[.slice p.A p.n p.c, .slice q.A q.n q.c] W (RetM W (p.cs = q.cs))) := Lib.hid fun W hW => eqi_any _ _ _ _ _ _ _ _ W (hp.mv hW).2.1 (hq.mv hW).2.1 (Nat.le_trans hp.1.2.1.1 hp.1.2.1.2) (Nat.le_trans hq.1.2.1.1 hq.1.2.1.2)
  have EQ2 : Hid (∀ W, Below w.heap.size w W → Calls Try.prog 51 #[.slice p.B p.m p.e, .slice q.B q.m q.e] W (RetM W (p.ds = q.ds))) := Lib.hid fun W hW => eqi_any _ _ _ _ _ _ _ _ W (hp.mv hW).2.2.1 (hq.mv hW).2.2.1 (Nat.le_trans hp.1.2.2.1 hp.1.2.2.2) (Nat.le_trans hq.1.2.2.1 hq.1.2.2.2)
  have hbb : Below w.heap.size w ((w.alloc (.cells #[.string p.nm, .int .i64 p.tb, .slice p.A p.n p.c, .int .u32 p.root, .int .i64 p.lv, .int .i64 p.hi, .slice p.B p.m p.e] 49)).alloc (.cells #[.string q.nm, .int .i64 q.tb, .slice q.A q.n q.c, .int .u32 q.root, .int .i64 q.lv, .int .i64 q.hi, .slice q.B q.m q.e] 49)) := ball (ball (Below.refl _ _) _) _
  have HBB := Lib.hid hbb
  have hE : p.px = q.px ↔ (p.nm.data.toList = q.nm.data.toList ∧ p.tb = q.tb ∧ p.cs = q.cs ∧ p.root = q.root ∧ p.lv = q.lv ∧ p.hi = q.hi ∧ p.ds = q.ds) := by
    unfold Ix.px
    rw [PX.mk.injEq]
  have HE := Lib.hid hE
  obtain ⟨b1, e1, c1⟩ := beq_nm p.nm q.nm
  obtain ⟨b6, e6, c6⟩ := beq_int p.tb q.tb
  obtain ⟨b3, e3, c3⟩ := beq_int p.root q.root
  obtain ⟨b4, e4, c4⟩ := beq_int p.lv q.lv
  obtain ⟨b5, e5, c5⟩ := beq_int p.hi q.hi
  have HC := Lib.hid (And.intro c1 (And.intro c6 (And.intro c3 (And.intro c4 c5))))
  clear hp hq hbb hE c1 c3 c4 c5 c6
  by_cases h16 : (b1 && b6) = false
  · cases b1 <;> cases b6
    all_goals first
      | (exfalso; revert h16; decide)
      | (clear h16
         go_enter Try.func34, Try.ntmps34
         go_wp2
         go_ret
         exact ⟨false, rfl, ⟨fun h => (by cases h), fun h => (by
           have h1 := HE.out.1 h
           first
             | exact absurd (HC.out.1.2 h1.1) (by decide)
             | exact absurd (HC.out.2.1.2 h1.2.1) (by decide))⟩, HBB.out⟩)
  · obtain ⟨rfl, rfl⟩ : b1 = true ∧ b6 = true := by cases b1 <;> cases b6 <;> simp at h16 ⊢
    clear h16
    go_enter Try.func34, Try.ntmps34
    go_wp2_with fail
    refine (EQ.out _ (by with_reducible repeat (first | exact Below.refl _ _ | refine Below.drew ?_ | refine bdr ?_ _ | refine ball ?_ _))).mono ?_
    rintro e w1 ⟨b2, rfl, c2, hb1⟩
    have hz1 := hb1.size
    (try simp at hz1)
    have P : Blk w1 (w.heap.size) 49 #[.string p.nm, .int .i64 p.tb, .slice p.A p.n p.c, .int .u32 p.root, .int .i64 p.lv, .int .i64 p.hi, .slice p.B p.m p.e] := blkOf hb1 (by (try simp) <;> omega) (by with_reducible repeat (first | exact Blk.newAt (by simp) | refine Blk.drew ?_ | refine Blk.alloc ?_ _))
    have P_0 : (w1).cell? ⟨w.heap.size, 0, none⟩ = some (.string p.nm) := P.cell 0
    have P_1 : (w1).cell? ⟨w.heap.size, 1, none⟩ = some (.int .i64 p.tb) := P.cell 1
    have P_2 : (w1).cell? ⟨w.heap.size, 2, none⟩ = some (.slice p.A p.n p.c) := P.cell 2
    have P_3 : (w1).cell? ⟨w.heap.size, 3, none⟩ = some (.int .u32 p.root) := P.cell 3
    have P_4 : (w1).cell? ⟨w.heap.size, 4, none⟩ = some (.int .i64 p.lv) := P.cell 4
    have P_5 : (w1).cell? ⟨w.heap.size, 5, none⟩ = some (.int .i64 p.hi) := P.cell 5
    have P_6 : (w1).cell? ⟨w.heap.size, 6, none⟩ = some (.slice p.B p.m p.e) := P.cell 6
    have Q : Blk w1 (w.heap.size + 1) 49 #[.string q.nm, .int .i64 q.tb, .slice q.A q.n q.c, .int .u32 q.root, .int .i64 q.lv, .int .i64 q.hi, .slice q.B q.m q.e] := blkOf hb1 (by (try simp) <;> omega) (by with_reducible repeat (first | exact Blk.newAt (by simp) | refine Blk.drew ?_ | refine Blk.alloc ?_ _))
    have Q_0 : (w1).cell? ⟨w.heap.size + 1, 0, none⟩ = some (.string q.nm) := Q.cell 0
    have Q_1 : (w1).cell? ⟨w.heap.size + 1, 1, none⟩ = some (.int .i64 q.tb) := Q.cell 1
    have Q_2 : (w1).cell? ⟨w.heap.size + 1, 2, none⟩ = some (.slice q.A q.n q.c) := Q.cell 2
    have Q_3 : (w1).cell? ⟨w.heap.size + 1, 3, none⟩ = some (.int .u32 q.root) := Q.cell 3
    have Q_4 : (w1).cell? ⟨w.heap.size + 1, 4, none⟩ = some (.int .i64 q.lv) := Q.cell 4
    have Q_5 : (w1).cell? ⟨w.heap.size + 1, 5, none⟩ = some (.int .i64 q.hi) := Q.cell 5
    have Q_6 : (w1).cell? ⟨w.heap.size + 1, 6, none⟩ = some (.slice q.B q.m q.e) := Q.cell 6
    have hbw1 := bto0 HBB.out hb1
    have HB := Lib.hid (And.intro c2 hbw1)
    clear P Q hb1 c2 hbw1
    have dd : ∀ (a b : Bool), (a && b) = false → a = false ∨ b = false := by decide
    by_cases h345 : (b2 && b3 && b4 && b5) = false
    · cases b2 <;> cases b3 <;> cases b4 <;> cases b5
      all_goals first
        | (exfalso; revert h345; decide)
        | (clear h345
           go_wp2
           go_ret
           exact ⟨false, rfl, ⟨fun h => (by cases h), fun h => (by
             have h1 := HE.out.1 h
             first
               | exact absurd (HB.out.1.2 h1.2.2.1) (by decide)
               | exact absurd (HC.out.2.2.1.2 h1.2.2.2.1) (by decide)
               | exact absurd (HC.out.2.2.2.1.2 h1.2.2.2.2.1) (by decide)
               | exact absurd (HC.out.2.2.2.2.2 h1.2.2.2.2.2.1) (by decide))⟩, HB.out.2⟩)
    · obtain ⟨rfl, rfl, rfl, rfl⟩ : b2 = true ∧ b3 = true ∧ b4 = true ∧ b5 = true := by cases b2 <;> cases b3 <;> cases b4 <;> cases b5 <;> simp at h345 ⊢
      clear h345 dd
      go_wp2_with fail
      refine (EQ2.out _ (bto0 HB.out.2 (by with_reducible repeat (first | exact Below.refl _ _ | refine Below.drew ?_ | refine bdr ?_ _ | refine ball ?_ _)))).mono ?_
      rintro e w2 ⟨b7, rfl, c7, hb2⟩
      have HD := Lib.hid (And.intro c7 (bto0 HB.out.2 hb2))
      clear c7 hb2
      go_wp2
      go_ret
      exact ⟨b7, rfl, ⟨fun h => HE.out.2 ⟨HC.out.1.1 (by first | rfl | trivial), HC.out.2.1.1 (by first | rfl | trivial), HB.out.1.1 (by first | rfl | trivial), HC.out.2.2.1.1 (by first | rfl | trivial), HC.out.2.2.2.1.1 (by first | rfl | trivial), HC.out.2.2.2.2.1 (by first | rfl | trivial), HD.out.1.1 h⟩, fun h => HD.out.1.2 (HE.out.1 h).2.2.2.2.2.2⟩, HD.out.2⟩
end
end Go.Proofs.Ytflolnilagogpaa
/-
  The program's May.
-/
namespace Go.Proofs.Ytflolnilagogpaa
section
set_option linter.unusedSimpArgs false
set_option linter.unusedVariables false
open Go.RowKit

theorem mayB_iff {b : PB} {ns xs : List ByteArray} (hns : ns.map (fun s => s.data.toList) = b.ts.map PT.nm) (hxs : xs.map (fun s => s.data.toList) = b.xs.map PX.nm) :
    MayB b ↔ (b.ts.length ≤ 16 ∧ b.xs.length ≤ 16) ∧ (∀ i, i < b.ts.length → ∀ t, b.ts[i]? = some t → MayT t) ∧ Apart ns ns.length ∧ (∀ i, i < b.xs.length → ∀ x, b.xs[i]? = some x → MayX b.ts x) ∧ Apart xs xs.length := by
  constructor
  · rintro ⟨h1, h2, h3, h4⟩
    exact ⟨⟨h1, h2⟩, fun i hi t ht => (h3 i hi t ht).1, apart_of hns h3, fun i hi x hx => (h4 i hi x hx).1, apart_of hxs h4⟩
  · rintro ⟨⟨h1, h2⟩, h3, h4, h5, h6⟩
    exact ⟨h1, h2, good_of hns h3 h4, good_of hxs h5 h6⟩
set_option maxRecDepth 100000 in
set_option maxHeartbeats 8000000 in
theorem may_any (A : Option Addr) (n c : Nat) (l : List Tb) (B : Option Addr) (m d : Nat) (r : List Ix) (w : World) (hk : BkIn w A n c l B m d r) :
    Calls Try.prog 11 #[.agg #[.slice A n c, .slice B m d]] w (RetM w (MayB (pbk l r))) := by
  have hlp : (l.map Tb.pt).length = n := by rw [List.length_map]; exact hk.ln
  have hrp : (r.map Ix.px).length = m := by rw [List.length_map]; exact hk.rn
  have hln : (l.map Tb.nm).length = n := by rw [List.length_map]; exact hk.ln
  have hrn : (r.map Ix.nm).length = m := by rw [List.length_map]; exact hk.rn
  have nI : (n : Int) ≤ 9223372036854775807 := by have := hk.hn.1; have := hk.hn.2; unfold maxLen at this; omega
  have mI : (m : Int) ≤ 9223372036854775807 := by have := hk.hm.1; have := hk.hm.2; unfold maxLen at this; omega
  have IFF : Hid (MayB (pbk l r) ↔ (n ≤ 16 ∧ m ≤ 16) ∧ (∀ i, i < n → ∀ t, (l.map Tb.pt)[i]? = some t → MayT t) ∧ Apart (l.map Tb.nm) n ∧ (∀ i, i < m → ∀ x, (r.map Ix.px)[i]? = some x → MayX (l.map Tb.pt) x) ∧ Apart (r.map Ix.nm) m) := Lib.hid (by
    have h := mayB_iff (b := pbk l r) (ns := l.map Tb.nm) (xs := r.map Ix.nm) (by show _ = (l.map Tb.pt).map PT.nm; rw [List.map_map, List.map_map]; rfl) (by show _ = (r.map Ix.px).map PX.nm; rw [List.map_map, List.map_map]; rfl)
    rw [h, hln, hrn]
    show (((l.map Tb.pt).length ≤ 16 ∧ (r.map Ix.px).length ≤ 16) ∧ (∀ i, i < (l.map Tb.pt).length → _) ∧ _ ∧ (∀ i, i < (r.map Ix.px).length → _) ∧ _) ↔ _
    rw [hlp, hrp]
    exact Iff.rfl)
  have HC := Lib.hid (And.intro hk (And.intro hln hrn))
  clear hk hlp hrp hln hrn
  have HB0 : Hid (Below w.heap.size w (w.alloc (.cells #[.slice A n c, .slice B m d] 25)) ∧ Blk (w.alloc (.cells #[.slice A n c, .slice B m d] 25)) w.heap.size 25 #[.slice A n c, .slice B m d]) := Lib.hid ⟨ball (Below.refl _ _) _, Blk.new _ _ _⟩
  by_cases c16 : n ≤ 16
  · by_cases d16 : m ≤ 16
    · have c16I : (n : Int) ≤ 16 := by omega
      have d16I : (m : Int) ≤ 16 := by omega
      have e16 : decide (16 < (n : Int)) = false := decide_eq_false (by omega)
      have f16 : decide (16 < (m : Int)) = false := decide_eq_false (by omega)
      go_enter Try.func11, Try.ntmps11
      go_wp2
      go_loopw [3, 21] (fun u v wr => ∃ i : Nat, i ≤ n ∧ v = .int .i64 i ∧ OwnS wr w.heap.size u ((l.map Tb.nm).take i) ∧ Below w.heap.size w wr ∧ Blk wr w.heap.size 25 #[.slice A n c, .slice B m d] ∧ ∀ j, j < i → ∀ t, (l.map Tb.pt)[j]? = some t → MayT t) (fun _ v _ => n - (intOf v).toNat)
      case atStart => exact ⟨0, by omega, rfl, OwnS.nil _ _, HB0.out.1, HB0.out.2, fun j hj => by omega⟩
      case round =>
        obtain ⟨wo, rfl⟩ : ∃ wo : World, wo = wr := ⟨_, rfl⟩
        obtain ⟨i, hi, rfl, own, hb, hbk, hg⟩ := hrel
        have q0 : (0 : Int) ≤ (i : Int) := by omega
        have blt := hbk.lt
        have b0 : wo.cell? ⟨w.heap.size, 0, none⟩ = some (.slice A n c) := hbk.cell 0
        have b1 : wo.cell? ⟨w.heap.size, 1, none⟩ = some (.slice B m d) := hbk.cell 1
        by_cases hlt : i < n
        · have q1 : (i : Int) < (n : Int) := by omega
          obtain ⟨ad, q, hA, hab, hq, d0, d1, d2, d3, d4⟩ := (HC.out.1.hr.below hb).tb_ hlt
          have hpq : (l.map Tb.pt)[i]? = some q.pt := by rw [List.getElem?_map, hq]; rfl
          have htk : (l.map Tb.nm).take (i + 1) = (l.map Tb.nm).take i ++ [q.nm] := by rw [List.take_add_one, List.getElem?_map, hq]; rfl
          have hlk : ((l.map Tb.nm).take i).length = i := by rw [List.length_take]; have := HC.out.2.1; omega
          subst hA
          have TC := Lib.hid (fun (W : World) (hW : Below wo.heap.size wo W) => (mayTable_any q W (TbOk.mv (HC.out.1.hl q (List.mem_of_getElem? hq)) (bto0 hb hW)) : Calls Try.prog 20 #[q.agg] W (RetM W (MayT q.pt))))
          have HQ := Lib.hid (And.intro hpq (And.intro htk (And.intro hlk (And.intro own (And.intro hb (And.intro hbk hg))))))
          clear hpq htk hlk own hb hbk hg hq
          go_wp2_with (first
            | (go_at_call 20; (with_reducible refine (TC.out _ (by with_reducible repeat (first | exact Below.refl _ _ | refine Below.drew ?_ | refine bdr ?_ _ | refine ball ?_ _))).mono ?_); rintro e w1 ⟨b, rfl, hbb, hb1⟩; have bo1 := (bto0 (ball (Below.refl wo.heap.size wo) (.cells #[.string q.nm, .slice q.A q.n q.c, .int .u32 q.f, .int .i64 q.r, .int .i64 q.p] 44)) hb1); have hX := ((Blk.new wo 44 #[.string q.nm, .slice q.A q.n q.c, .int .u32 q.f, .int .i64 q.r, .int .i64 q.p]).below hb1 (by simp)); have x0 : w1.cell? ⟨wo.heap.size, 0, none⟩ = some (.string q.nm) := hX.cell 0; have hxlt := hX.lt; have HM := Lib.hid (And.intro hbb (And.intro (bto0 HQ.out.2.2.2.2.1 bo1) (And.intro (HQ.out.2.2.2.2.2.1.below bo1 blt) (HQ.out.2.2.2.1.below bo1)))); have hz1 := (bto0 HQ.out.2.2.2.2.1 bo1).size; clear hbb hb1 bo1 hX)
            | (at_builtin; refine wpList_pushN rfl _ _ rfl w.heap.size _ ((l.map Tb.nm).take i) q.nm (by first | rfl | (simp; done) | (simp [go_sem]; done)) HM.out.2.2.2 _ (by first | rfl | (simp; done) | (simp [go_sem]; done)) (by simp) (by rw [HQ.out.2.2.1]; omega) (by omega) ?_; intro v2 w2 own2 kp2))
          all_goals first
            | (have hbf : b = false := by simpa using ‹(!b) = true›
               subst hbf
               go_ret
               exact ⟨false, rfl, ⟨fun h => (by cases h), fun h => absurd (HM.out.1.2 ((IFF.out.1 h).2.1 i hlt _ HQ.out.1)) (by decide)⟩, HM.out.2.1⟩)
            | (have hbf : b = true := by simpa using ‹(!b) = false›
               subst hbf
               have hd := HM.out.1.1 (by first | rfl | trivial)
               exact ⟨⟨i + 1, by omega, by go_num, by rw [HQ.out.2.1]; exact own2, kp2.below _ _ (Nat.le_refl _) HM.out.2.1, kp2.blk _ _ _ (by decide) HM.out.2.2.1, fun j hj t ht => by
                 by_cases hji : j < i
                 · exact HQ.out.2.2.2.2.2.2 j hji t ht
                 · obtain rfl : j = i := by omega
                   rw [HQ.out.1] at ht
                   cases ht
                   exact hd⟩, by simp [intOf]; omega⟩)
        · obtain rfl : n = i := by omega
          obtain ⟨A2, c2, rfl, hc2⟩ := own.form
          have hln2 := HC.out.2.1
          have hnt : (l.map Tb.nm).take n = (l.map Tb.nm) := List.take_of_length_le (by omega)
          rw [hnt] at own hc2 ⊢
          rw [hln2] at own hc2 ⊢
          have D := Lib.hid (differS_any A2 n c2 (l.map Tb.nm) _ (own.reads.1) (by unfold maxLen; omega) hc2)
          have HB1 := Lib.hid (And.intro hb (And.intro hbk hg))
          clear own hc2 hnt hln2 hg hb hbk b0 b1
          go_wp2_with fail
          refine D.out.mono ?_
          rintro e w1 ⟨b, rfl, hbb, hb1⟩
          have hk1 := HB1.out.2.1.below hb1 blt
          have x1 : w1.cell? ⟨w.heap.size, 1, none⟩ = some (.slice B m d) := hk1.cell 1
          have HD := Lib.hid (And.intro hbb (And.intro (bto0 HB1.out.1 hb1) hk1))
          clear hbb hb1 hk1 blt
          cases b with
          | false =>
            go_wp2
            go_ret
            exact ⟨false, rfl, ⟨fun h => (by cases h), fun h => absurd (HD.out.1.2 (IFF.out.1 h).2.2.1) (by decide)⟩, HD.out.2.1⟩
          | true =>
            obtain ⟨w9, rfl⟩ : ∃ w9 : World, w9 = wo := ⟨_, rfl⟩
            clear hi q0
            go_wp2
            go_loopw [3, 40] (fun u v wr => ∃ i : Nat, i ≤ m ∧ v = .int .i64 i ∧ OwnS wr w.heap.size u ((r.map Ix.nm).take i) ∧ Below w.heap.size w wr ∧ Blk wr w.heap.size 25 #[.slice A n c, .slice B m d] ∧ ∀ j, j < i → ∀ t, (r.map Ix.px)[j]? = some t → MayX (l.map Tb.pt) t) (fun _ v _ => m - (intOf v).toNat)
            case atStart => exact ⟨0, by omega, rfl, OwnS.nil _ _, HD.out.2.1, HD.out.2.2, fun j hj => by omega⟩
            case round =>
              obtain ⟨wo, rfl⟩ : ∃ wo : World, wo = wr := ⟨_, rfl⟩
              obtain ⟨i, hi, rfl, own, hb, hbk, hg⟩ := hrel
              have q0 : (0 : Int) ≤ (i : Int) := by omega
              have blt := hbk.lt
              have b0 : wo.cell? ⟨w.heap.size, 0, none⟩ = some (.slice A n c) := hbk.cell 0
              have b1 : wo.cell? ⟨w.heap.size, 1, none⟩ = some (.slice B m d) := hbk.cell 1
              by_cases hlt : i < m
              · have q1 : (i : Int) < (m : Int) := by omega
                obtain ⟨ad, q, hA, hab, hq, d0, d1, d2, d3, d4, d5, d6⟩ := (HC.out.1.hx.below hb).ix_ hlt
                have hpq : (r.map Ix.px)[i]? = some q.px := by rw [List.getElem?_map, hq]; rfl
                have htk : (r.map Ix.nm).take (i + 1) = (r.map Ix.nm).take i ++ [q.nm] := by rw [List.take_add_one, List.getElem?_map, hq]; rfl
                have hlk : ((r.map Ix.nm).take i).length = i := by rw [List.length_take]; have := HC.out.2.2; omega
                subst hA
                have TC := Lib.hid (fun (W : World) (hW : Below wo.heap.size wo W) => (mayIndex_any A n c l (some ad) m d q W (HC.out.1.below (bto0 hb hW)).hr (HC.out.1.below (bto0 hb hW)).hl (Nat.le_trans HC.out.1.hn.1 HC.out.1.hn.2) ((HC.out.1.below (bto0 hb hW)).hix q (List.mem_of_getElem? hq)) : Calls Try.prog 22 #[.agg #[.slice A n c, .slice (some ad) m d], q.agg] W (RetM W (MayX (l.map Tb.pt) q.px))))
                have HQ := Lib.hid (And.intro hpq (And.intro htk (And.intro hlk (And.intro own (And.intro hb (And.intro hbk hg))))))
                clear hpq htk hlk own hb hbk hg hq
                go_wp2_with (first
                  | (go_at_call 22; (with_reducible refine (TC.out _ (by with_reducible repeat (first | exact Below.refl _ _ | refine Below.drew ?_ | refine bdr ?_ _ | refine ball ?_ _))).mono ?_); rintro e w1 ⟨b, rfl, hbb, hb1⟩; have bo1 := (bto0 (ball (Below.refl wo.heap.size wo) (.cells #[.string q.nm, .int .i64 q.tb, .slice q.A q.n q.c, .int .u32 q.root, .int .i64 q.lv, .int .i64 q.hi, .slice q.B q.m q.e] 49)) hb1); have hX := ((Blk.new wo 49 #[.string q.nm, .int .i64 q.tb, .slice q.A q.n q.c, .int .u32 q.root, .int .i64 q.lv, .int .i64 q.hi, .slice q.B q.m q.e]).below hb1 (by simp)); have x0 : w1.cell? ⟨wo.heap.size, 0, none⟩ = some (.string q.nm) := hX.cell 0; have hxlt := hX.lt; have HM := Lib.hid (And.intro hbb (And.intro (bto0 HQ.out.2.2.2.2.1 bo1) (And.intro (HQ.out.2.2.2.2.2.1.below bo1 blt) (HQ.out.2.2.2.1.below bo1)))); have hz1 := (bto0 HQ.out.2.2.2.2.1 bo1).size; clear hbb hb1 bo1 hX)
                  | (at_builtin; refine wpList_pushN rfl _ _ rfl w.heap.size _ ((r.map Ix.nm).take i) q.nm (by first | rfl | (simp; done) | (simp [go_sem]; done)) HM.out.2.2.2 _ (by first | rfl | (simp; done) | (simp [go_sem]; done)) (by simp) (by rw [HQ.out.2.2.1]; omega) (by omega) ?_; intro v2 w2 own2 kp2))
                all_goals first
                  | (have hbf : b = false := by simpa using ‹(!b) = true›
                     subst hbf
                     go_ret
                     exact ⟨false, rfl, ⟨fun h => (by cases h), fun h => absurd (HM.out.1.2 ((IFF.out.1 h).2.2.2.1 i hlt _ HQ.out.1)) (by decide)⟩, HM.out.2.1⟩)
                  | (have hbf : b = true := by simpa using ‹(!b) = false›
                     subst hbf
                     have hd := HM.out.1.1 (by first | rfl | trivial)
                     exact ⟨⟨i + 1, by omega, by go_num, by rw [HQ.out.2.1]; exact own2, kp2.below _ _ (Nat.le_refl _) HM.out.2.1, kp2.blk _ _ _ (by decide) HM.out.2.2.1, fun j hj t ht => by
                       by_cases hji : j < i
                       · exact HQ.out.2.2.2.2.2.2 j hji t ht
                       · obtain rfl : j = i := by omega
                         rw [HQ.out.1] at ht
                         cases ht
                         exact hd⟩, by simp [intOf]; omega⟩)
              · obtain rfl : m = i := by omega
                obtain ⟨A2, c2, rfl, hc2⟩ := own.form
                have hln2 := HC.out.2.2
                have hnt : (r.map Ix.nm).take m = (r.map Ix.nm) := List.take_of_length_le (by omega)
                rw [hnt] at own hc2 ⊢
                rw [hln2] at own hc2 ⊢
                have D := Lib.hid (differS_any A2 m c2 (r.map Ix.nm) _ (own.reads.1) (by unfold maxLen; omega) hc2)
                have HB2 := Lib.hid (And.intro hb (And.intro hbk hg))
                clear own hc2 hnt hln2 hg hb hbk b0 b1
                go_wp2_with fail
                refine D.out.mono ?_
                rintro e w1 ⟨b, rfl, hbb, hb1⟩
                have HE := Lib.hid (And.intro hbb (bto0 HB2.out.1 hb1))
                clear hbb hb1
                go_wp2
                go_ret
                exact ⟨b, rfl, ⟨fun h => IFF.out.2 ⟨⟨c16, d16⟩, HB1.out.2.2, HD.out.1.1 (by first | rfl | trivial), HB2.out.2.2, HE.out.1.1 h⟩, fun h => HE.out.1.2 (IFF.out.1 h).2.2.2.2⟩, HE.out.2⟩
    · skip
      have f16 : (16 : Int) < (m : Int) := by omega
      have e16 : decide (16 < (n : Int)) = false := decide_eq_false (by omega)
      have HX := Lib.hid (fun (h : MayB (pbk l r)) => d16 (IFF.out.1 h).1.2)
      clear d16
      go_enter Try.func11, Try.ntmps11
      go_wp2
      go_ret
      exact ⟨false, rfl, ⟨fun h => (by cases h), fun h => (HX.out h).elim⟩, HB0.out.1⟩
  · skip
    have e16 : (16 : Int) < (n : Int) := by omega
    have HX := Lib.hid (fun (h : MayB (pbk l r)) => c16 (IFF.out.1 h).1.1)
    clear c16
    go_enter Try.func11, Try.ntmps11
    go_wp2
    go_ret
    exact ⟨false, rfl, ⟨fun h => (by cases h), fun h => (HX.out h).elim⟩, HB0.out.1⟩
end
end Go.Proofs.Ytflolnilagogpaa
