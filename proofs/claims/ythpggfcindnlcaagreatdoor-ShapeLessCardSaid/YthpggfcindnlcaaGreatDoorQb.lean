
/-
  ShapeTotal: the least and the greatest of values: MinFunc, MaxFunc, extreme.
-/
import Derived.Test.YthpggfcindnlcaaGreatDoorVf
import Derived.Test.YthpggfcindnlcaaGreatDoorMay
import Derived.Test.YthpggfcindnlcaaGreatDoorNf
import Derived.Deep.RegionHeld3
set_option linter.unusedSimpArgs false
set_option linter.unusedVariables false
namespace Go.Proofs.YthpggfcindnlcaaGreatDoor
open Go.RowKit

theorem bq0 {a b c : World} (h : Below a.heap.size a b) (k : Below b.heap.size b c) : Below a.heap.size a c := h.trans (k.mono h.size)
/-- Is a value better than the best by now? -/
def bet (mx : Bool) (v m : Vl) : Bool := if mx = true then decide (0 < cmpV v m) else decide (cmpV v m < 0)
def bst (mx : Bool) : Vl → List Vl → Vl
  | m, [] => m
  | m, v :: t => bst mx (if bet mx v m = true then v else m) t
def extV (mx : Bool) : List Vl → Vl
  | [] => ⟨0, 0, ⟨#[]⟩⟩
  | x :: t => bst mx x t
theorem bst_drop {mx : Bool} {m : Vl} {l : List Vl} {k : Nat} {v : Vl} (h : l[k]? = some v) : bst mx m (l.drop k) = bst mx (if bet mx v m = true then v else m) (l.drop (k + 1)) := by
  rw [show l.drop k = v :: l.drop (k + 1) from by rw [List.drop_eq_getElem?_toList_append, h]; rfl]
  rfl
theorem bst_snoc (mx : Bool) (v : Vl) : ∀ (l : List Vl) (m : Vl), bst mx m (l ++ [v]) = if bet mx v (bst mx m l) = true then v else bst mx m l
  | [], m => rfl
  | x :: t, m => bst_snoc mx v t _
theorem extV_snoc (mx : Bool) (v : Vl) (l : List Vl) (h : l ≠ []) : extV mx (l ++ [v]) = if bet mx v (extV mx l) = true then v else extV mx l := by
  cases l with
  | nil => exact absurd rfl h
  | cons x t => exact bst_snoc mx v t x
set_option maxRecDepth 100000 in
set_option maxHeartbeats 4000000 in
theorem minf_any {w : World} {A : Option Addr} {n c : Nat} {l : List Vl} (hr : Reads w w.heap.size 3 A n (vV l)) (h1 : 1 ≤ n) (hn : n ≤ 10000) :
    Calls Tryz.prog 32 #[.slice A n c, .func (.func 33) #[] #[]] w (RetB w (extV false l).agg) := by
  have hl : l.length = n := by have := hr.1; rw [vV_len] at this; omega
  obtain ⟨x, t, rfl⟩ : ∃ x t, l = x :: t := by
    cases l with
    | nil => simp at hl; omega
    | cons x t => exact ⟨x, t, rfl⟩
  obtain ⟨ad, v, rfl, hab, hv, c0, c1, c2⟩ := hr.val (k := 0) (by omega)
  obtain rfl : x = v := by simpa using hv
  simp only [Nat.zero_mul, Addr.add_zero'] at c0 c1 c2
  obtain ⟨RS, hRS⟩ : ∃ RS, extV false (x :: t) = RS := ⟨_, rfl⟩
  rw [hRS]
  have HR := Lib.hid hRS
  have HL := Lib.hid hl
  have nI : (n : Int) ≤ 10000 := by omega
  have n1 : (1 : Int) ≤ (n : Int) := by omega
  have n0 : (0 : Int) < (n : Int) := by omega
  clear hRS hl
  go_enter Tryz.func32, Tryz.ntmps32
  go_wp2_with fail
  go_loopw [6] (fun u6 wr => ∃ (k : Nat) (m : Vl), u6 = .int .i64 k ∧ 1 ≤ k ∧ k ≤ n ∧ bst false m ((x :: t).drop k) = RS ∧ Blk wr w.heap.size 26 #[.int .u8 0, .int .i64 0, .string ⟨#[]⟩] ∧ Blk wr (w.heap.size + 1) 26 #[.int .u8 m.k, .int .i64 m.i, .string m.s] ∧ Below w.heap.size w wr) (fun u6 _ => n - (intOf u6).toNat)
  case atStart => exact ⟨1, x, rfl, by omega, by omega, HR.out, (Blk.new _ _ _).alloc _, Blk.newAt (by simp), ball (ball (Below.refl _ _) _) _⟩
  case round =>
    obtain ⟨k, m, rfl, hk1, hk, hbs, bz, bm, hb⟩ := hrel
    have k0 : (0 : Int) ≤ (k : Int) := by omega
    have hbz := hb.size
    have hml := bm.lt
    by_cases hlt : k < n
    · have k1 : (k : Int) < (n : Int) := by omega
      obtain ⟨ad', v, e, had, hv, d0, d1, d2⟩ := (hr.below hb).val hlt
      obtain rfl := Option.some.inj e
      rw [bst_drop hv] at hbs
      have CM := Lib.hid fun W => compare_any v m W
      have HS : Hid (∀ W, Below wr.heap.size wr W → W.cell? (ad.add (k * 3)) = some (.int .u8 v.k) ∧ W.cell? ⟨(ad.add (k * 3)).block, (ad.add (k * 3)).off + 1, none⟩ = some (.int .i64 v.i) ∧ W.cell? ⟨(ad.add (k * 3)).block, (ad.add (k * 3)).off + 2, none⟩ = some (.string v.s) ∧ W.cell? ⟨w.heap.size + 1, 0, none⟩ = some (.int .u8 m.k) ∧ W.cell? ⟨w.heap.size + 1, 1, none⟩ = some (.int .i64 m.i) ∧ W.cell? ⟨w.heap.size + 1, 2, none⟩ = some (.string m.s)) := Lib.hid fun W hW =>
        ⟨(hW.cell (by rw [block_of_add]; omega)).trans d0, (hW.cell (by show (ad.add (k * 3)).block < _; rw [block_of_add]; omega)).trans d1, (hW.cell (by show (ad.add (k * 3)).block < _; rw [block_of_add]; omega)).trans d2, (bm.below hW hml).cell 0, (bm.below hW hml).cell 1, (bm.below hW hml).cell 2⟩
      have HQ := Lib.hid (And.intro hbs (And.intro bz (And.intro bm hb)))
      unfold bet at hbs
      simp only [if_true, if_false, decide_eq_true_eq, Bool.false_eq_true, ite_false, ite_true] at hbs
      have HB := Lib.hid hbs
      clear hbs bz bm hb hv
      go_wp2_with fail
      go_region_held3 (fun w' => w'.cell? (ad.add (k * 3)) = some (.int .u8 v.k) ∧ w'.cell? ⟨(ad.add (k * 3)).block, (ad.add (k * 3)).off + 1, none⟩ = some (.int .i64 v.i) ∧ w'.cell? ⟨(ad.add (k * 3)).block, (ad.add (k * 3)).off + 2, none⟩ = some (.string v.s) ∧ w'.cell? ⟨w.heap.size + 1, 0, none⟩ = some (.int .u8 m.k) ∧ w'.cell? ⟨w.heap.size + 1, 1, none⟩ = some (.int .i64 m.i) ∧ w'.cell? ⟨w.heap.size + 1, 2, none⟩ = some (.string m.s) ∧ Below wr.heap.size wr w')
        (first | exact ⟨(HS.out _ (Below.refl _ _)).1, (HS.out _ (Below.refl _ _)).2.1, (HS.out _ (Below.refl _ _)).2.2.1, (HS.out _ (Below.refl _ _)).2.2.2.1, (HS.out _ (Below.refl _ _)).2.2.2.2.1, (HS.out _ (Below.refl _ _)).2.2.2.2.2, Below.refl _ _⟩ | exact ⟨(HS.out _ (Below.drew (Below.refl _ _))).1, (HS.out _ (Below.drew (Below.refl _ _))).2.1, (HS.out _ (Below.drew (Below.refl _ _))).2.2.1, (HS.out _ (Below.drew (Below.refl _ _))).2.2.2.1, (HS.out _ (Below.drew (Below.refl _ _))).2.2.2.2.1, (HS.out _ (Below.drew (Below.refl _ _))).2.2.2.2.2, Below.drew (Below.refl _ _)⟩ | exact ⟨(HS.out _ hb2).1, (HS.out _ hb2).2.1, (HS.out _ hb2).2.2.1, (HS.out _ hb2).2.2.2.1, (HS.out _ hb2).2.2.2.2.1, (HS.out _ hb2).2.2.2.2.2, hb2⟩ | assumption)
        (first
          | (go_at_call 33; refine (CM.out _).mono ?_; rintro e w2 ⟨rfl, hb2'⟩; have hb2 : Below wr.heap.size wr w2 := bq0 (by with_reducible repeat (first | exact Below.refl _ _ | refine Below.drew ?_ | refine bdr ?_ _)) hb2'))
      obtain ⟨d0, d1, d2, e0, e1, e2⟩ := HS.out _ hb2
      have bz2 := HQ.out.2.1.below hb2 HQ.out.2.1.lt
      have bm2 := HQ.out.2.2.1.below hb2 HQ.out.2.2.1.lt
      have bw2 := bq0 HQ.out.2.2.2 hb2
      have f0 := bm2.frozen 0
      have f1 := bm2.frozen 1
      have f2 := bm2.frozen 2
      have H2 := Lib.hid (And.intro bz2 (And.intro bm2 bw2))
      have hbz2 := bw2.size
      clear hb2' bz2 bm2 bw2 CM HS
      by_cases hc : cmpV v m < 0
      · have hc' : cmpV v m < 0 := hc
        go_wp2
        refine ⟨⟨k + 1, v, by go_num, by omega, by omega, by have := HB.out; simpa [hc] using this, H2.out.1.far (by simp) _ |>.far (by simp) _ |>.far (by simp) _, ?_, ((H2.out.2.2.setCell (by simp) _).setCell (by simp) _).setCell (by simp) _⟩, by simp [intOf]; omega⟩
        have T := ((H2.out.2.1.set_ 0 (.int .u8 v.k)).set_ 1 (.int .i64 v.i)).set_ 2 (.string v.s)
        simp only [List.setIfInBounds_toArray, List.set_cons_zero, List.set_cons_succ] at T
        exact T
      · have hc' : ¬ cmpV v m < 0 := hc
        go_wp2
        exact ⟨⟨k + 1, m, by go_num, by omega, by omega, by have := HB.out; simpa [hc] using this, H2.out.1, H2.out.2.1, H2.out.2.2⟩, by simp [intOf]; omega⟩
    · obtain rfl : n = k := by omega
      have hm : m = RS := by rw [← hbs, List.drop_of_length_le (by have := HL.out; omega)]; rfl
      subst hm
      have m0 := bm.cell 0
      have m1 := bm.cell 1
      have m2 := bm.cell 2
      have g0 := bz.frozen 0
      have g1 := bz.frozen 1
      have g2 := bz.frozen 2
      have z0 := bz.cell 0
      have z1 := bz.cell 1
      have z2 := bz.cell 2
      have HQ := Lib.hid hb
      have HZ := Lib.hid bz
      clear hb bm bz hbs HR HL
      simp at m0 m1 m2 z0 z1 z2
      go_wp2
      obtain ⟨W5, hW5⟩ : ∃ W5, ((wr.setCell ⟨w.heap.size, 0, none⟩ (.int .u8 m.k)).setCell ⟨w.heap.size, 1, none⟩ (.int .i64 m.i)).setCell ⟨w.heap.size, 2, none⟩ (.string m.s) = W5 := ⟨_, rfl⟩
      have B5 : Blk W5 w.heap.size 26 #[.int .u8 m.k, .int .i64 m.i, .string m.s] := by
        have T := ((HZ.out.set_ 0 (.int .u8 m.k)).set_ 1 (.int .i64 m.i)).set_ 2 (.string m.s)
        simp only [List.setIfInBounds_toArray, List.set_cons_zero, List.set_cons_succ] at T
        exact hW5 ▸ T
      have b5 : Below w.heap.size w W5 := hW5 ▸ ((HQ.out.setCell (by simp) _).setCell (by simp) _).setCell (by simp) _
      rw [hW5]
      clear hW5
      have p0 : W5.cell? ⟨w.heap.size, 0, none⟩ = some (.int .u8 m.k) := B5.cell 0
      have p1 : W5.cell? ⟨w.heap.size, 1, none⟩ = some (.int .i64 m.i) := B5.cell 1
      have p2 : W5.cell? ⟨w.heap.size, 2, none⟩ = some (.string m.s) := B5.cell 2
      exact bodyPost_ret (v := m.agg) (by simp [results, Tryz.results32, go_sem, p0, p1, p2]) rfl ⟨rfl, b5⟩
set_option maxRecDepth 100000 in
set_option maxHeartbeats 4000000 in
theorem maxf_any {w : World} {A : Option Addr} {n c : Nat} {l : List Vl} (hr : Reads w w.heap.size 3 A n (vV l)) (h1 : 1 ≤ n) (hn : n ≤ 10000) :
    Calls Tryz.prog 34 #[.slice A n c, .func (.func 33) #[] #[]] w (RetB w (extV true l).agg) := by
  have hl : l.length = n := by have := hr.1; rw [vV_len] at this; omega
  obtain ⟨x, t, rfl⟩ : ∃ x t, l = x :: t := by
    cases l with
    | nil => simp at hl; omega
    | cons x t => exact ⟨x, t, rfl⟩
  obtain ⟨ad, v, rfl, hab, hv, c0, c1, c2⟩ := hr.val (k := 0) (by omega)
  obtain rfl : x = v := by simpa using hv
  simp only [Nat.zero_mul, Addr.add_zero'] at c0 c1 c2
  obtain ⟨RS, hRS⟩ : ∃ RS, extV true (x :: t) = RS := ⟨_, rfl⟩
  rw [hRS]
  have HR := Lib.hid hRS
  have HL := Lib.hid hl
  have nI : (n : Int) ≤ 10000 := by omega
  have n1 : (1 : Int) ≤ (n : Int) := by omega
  have n0 : (0 : Int) < (n : Int) := by omega
  clear hRS hl
  go_enter Tryz.func34, Tryz.ntmps34
  go_wp2_with fail
  go_loopw [6] (fun u6 wr => ∃ (k : Nat) (m : Vl), u6 = .int .i64 k ∧ 1 ≤ k ∧ k ≤ n ∧ bst true m ((x :: t).drop k) = RS ∧ Blk wr w.heap.size 26 #[.int .u8 0, .int .i64 0, .string ⟨#[]⟩] ∧ Blk wr (w.heap.size + 1) 26 #[.int .u8 m.k, .int .i64 m.i, .string m.s] ∧ Below w.heap.size w wr) (fun u6 _ => n - (intOf u6).toNat)
  case atStart => exact ⟨1, x, rfl, by omega, by omega, HR.out, (Blk.new _ _ _).alloc _, Blk.newAt (by simp), ball (ball (Below.refl _ _) _) _⟩
  case round =>
    obtain ⟨k, m, rfl, hk1, hk, hbs, bz, bm, hb⟩ := hrel
    have k0 : (0 : Int) ≤ (k : Int) := by omega
    have hbz := hb.size
    have hml := bm.lt
    by_cases hlt : k < n
    · have k1 : (k : Int) < (n : Int) := by omega
      obtain ⟨ad', v, e, had, hv, d0, d1, d2⟩ := (hr.below hb).val hlt
      obtain rfl := Option.some.inj e
      rw [bst_drop hv] at hbs
      have CM := Lib.hid fun W => compare_any v m W
      have HS : Hid (∀ W, Below wr.heap.size wr W → W.cell? (ad.add (k * 3)) = some (.int .u8 v.k) ∧ W.cell? ⟨(ad.add (k * 3)).block, (ad.add (k * 3)).off + 1, none⟩ = some (.int .i64 v.i) ∧ W.cell? ⟨(ad.add (k * 3)).block, (ad.add (k * 3)).off + 2, none⟩ = some (.string v.s) ∧ W.cell? ⟨w.heap.size + 1, 0, none⟩ = some (.int .u8 m.k) ∧ W.cell? ⟨w.heap.size + 1, 1, none⟩ = some (.int .i64 m.i) ∧ W.cell? ⟨w.heap.size + 1, 2, none⟩ = some (.string m.s)) := Lib.hid fun W hW =>
        ⟨(hW.cell (by rw [block_of_add]; omega)).trans d0, (hW.cell (by show (ad.add (k * 3)).block < _; rw [block_of_add]; omega)).trans d1, (hW.cell (by show (ad.add (k * 3)).block < _; rw [block_of_add]; omega)).trans d2, (bm.below hW hml).cell 0, (bm.below hW hml).cell 1, (bm.below hW hml).cell 2⟩
      have HQ := Lib.hid (And.intro hbs (And.intro bz (And.intro bm hb)))
      unfold bet at hbs
      simp only [if_true, if_false, decide_eq_true_eq, Bool.false_eq_true, ite_false, ite_true] at hbs
      have HB := Lib.hid hbs
      clear hbs bz bm hb hv
      go_wp2_with fail
      go_region_held3 (fun w' => w'.cell? (ad.add (k * 3)) = some (.int .u8 v.k) ∧ w'.cell? ⟨(ad.add (k * 3)).block, (ad.add (k * 3)).off + 1, none⟩ = some (.int .i64 v.i) ∧ w'.cell? ⟨(ad.add (k * 3)).block, (ad.add (k * 3)).off + 2, none⟩ = some (.string v.s) ∧ w'.cell? ⟨w.heap.size + 1, 0, none⟩ = some (.int .u8 m.k) ∧ w'.cell? ⟨w.heap.size + 1, 1, none⟩ = some (.int .i64 m.i) ∧ w'.cell? ⟨w.heap.size + 1, 2, none⟩ = some (.string m.s) ∧ Below wr.heap.size wr w')
        (first | exact ⟨(HS.out _ (Below.refl _ _)).1, (HS.out _ (Below.refl _ _)).2.1, (HS.out _ (Below.refl _ _)).2.2.1, (HS.out _ (Below.refl _ _)).2.2.2.1, (HS.out _ (Below.refl _ _)).2.2.2.2.1, (HS.out _ (Below.refl _ _)).2.2.2.2.2, Below.refl _ _⟩ | exact ⟨(HS.out _ (Below.drew (Below.refl _ _))).1, (HS.out _ (Below.drew (Below.refl _ _))).2.1, (HS.out _ (Below.drew (Below.refl _ _))).2.2.1, (HS.out _ (Below.drew (Below.refl _ _))).2.2.2.1, (HS.out _ (Below.drew (Below.refl _ _))).2.2.2.2.1, (HS.out _ (Below.drew (Below.refl _ _))).2.2.2.2.2, Below.drew (Below.refl _ _)⟩ | exact ⟨(HS.out _ hb2).1, (HS.out _ hb2).2.1, (HS.out _ hb2).2.2.1, (HS.out _ hb2).2.2.2.1, (HS.out _ hb2).2.2.2.2.1, (HS.out _ hb2).2.2.2.2.2, hb2⟩ | assumption)
        (first
          | (go_at_call 33; refine (CM.out _).mono ?_; rintro e w2 ⟨rfl, hb2'⟩; have hb2 : Below wr.heap.size wr w2 := bq0 (by with_reducible repeat (first | exact Below.refl _ _ | refine Below.drew ?_ | refine bdr ?_ _)) hb2'))
      obtain ⟨d0, d1, d2, e0, e1, e2⟩ := HS.out _ hb2
      have bz2 := HQ.out.2.1.below hb2 HQ.out.2.1.lt
      have bm2 := HQ.out.2.2.1.below hb2 HQ.out.2.2.1.lt
      have bw2 := bq0 HQ.out.2.2.2 hb2
      have f0 := bm2.frozen 0
      have f1 := bm2.frozen 1
      have f2 := bm2.frozen 2
      have H2 := Lib.hid (And.intro bz2 (And.intro bm2 bw2))
      have hbz2 := bw2.size
      clear hb2' bz2 bm2 bw2 CM HS
      by_cases hc : 0 < cmpV v m
      · have hc' : 0 < cmpV v m := hc
        go_wp2
        refine ⟨⟨k + 1, v, by go_num, by omega, by omega, by have := HB.out; simpa [hc] using this, H2.out.1.far (by simp) _ |>.far (by simp) _ |>.far (by simp) _, ?_, ((H2.out.2.2.setCell (by simp) _).setCell (by simp) _).setCell (by simp) _⟩, by simp [intOf]; omega⟩
        have T := ((H2.out.2.1.set_ 0 (.int .u8 v.k)).set_ 1 (.int .i64 v.i)).set_ 2 (.string v.s)
        simp only [List.setIfInBounds_toArray, List.set_cons_zero, List.set_cons_succ] at T
        exact T
      · have hc' : ¬ 0 < cmpV v m := hc
        go_wp2
        exact ⟨⟨k + 1, m, by go_num, by omega, by omega, by have := HB.out; simpa [hc] using this, H2.out.1, H2.out.2.1, H2.out.2.2⟩, by simp [intOf]; omega⟩
    · obtain rfl : n = k := by omega
      have hm : m = RS := by rw [← hbs, List.drop_of_length_le (by have := HL.out; omega)]; rfl
      subst hm
      have m0 := bm.cell 0
      have m1 := bm.cell 1
      have m2 := bm.cell 2
      have g0 := bz.frozen 0
      have g1 := bz.frozen 1
      have g2 := bz.frozen 2
      have z0 := bz.cell 0
      have z1 := bz.cell 1
      have z2 := bz.cell 2
      have HQ := Lib.hid hb
      have HZ := Lib.hid bz
      clear hb bm bz hbs HR HL
      simp at m0 m1 m2 z0 z1 z2
      go_wp2
      obtain ⟨W5, hW5⟩ : ∃ W5, ((wr.setCell ⟨w.heap.size, 0, none⟩ (.int .u8 m.k)).setCell ⟨w.heap.size, 1, none⟩ (.int .i64 m.i)).setCell ⟨w.heap.size, 2, none⟩ (.string m.s) = W5 := ⟨_, rfl⟩
      have B5 : Blk W5 w.heap.size 26 #[.int .u8 m.k, .int .i64 m.i, .string m.s] := by
        have T := ((HZ.out.set_ 0 (.int .u8 m.k)).set_ 1 (.int .i64 m.i)).set_ 2 (.string m.s)
        simp only [List.setIfInBounds_toArray, List.set_cons_zero, List.set_cons_succ] at T
        exact hW5 ▸ T
      have b5 : Below w.heap.size w W5 := hW5 ▸ ((HQ.out.setCell (by simp) _).setCell (by simp) _).setCell (by simp) _
      rw [hW5]
      clear hW5
      have p0 : W5.cell? ⟨w.heap.size, 0, none⟩ = some (.int .u8 m.k) := B5.cell 0
      have p1 : W5.cell? ⟨w.heap.size, 1, none⟩ = some (.int .i64 m.i) := B5.cell 1
      have p2 : W5.cell? ⟨w.heap.size, 2, none⟩ = some (.string m.s) := B5.cell 2
      exact bodyPost_ret (v := m.agg) (by simp [results, Tryz.results34, go_sem, p0, p1, p2]) rfl ⟨rfl, b5⟩
end Go.Proofs.YthpggfcindnlcaaGreatDoor
