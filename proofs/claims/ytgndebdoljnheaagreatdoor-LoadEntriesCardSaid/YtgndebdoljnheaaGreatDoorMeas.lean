/-
  Several texts in one: Me1 M4 Me2.
-/
import Derived.Test.YtgndebdoljnheaaGreatDoorMeae
import Derived.Test.YtgndebdoljnheaaGreatDoorMeaq
import Derived.Test.YtgndebdoljnheaaGreatDoorShelf
import Derived.IntWalk
import Derived.Shelf.SlSortCmp.NoneTotal
import Derived.Deep.RegionHeld3
import Derived.Deep.DrawnRows
import Derived.Deep.QuietTactic
import Derived.BigQuiet
import Derived.RegionTactic
/-
  Entries of a tree: how two stand (plain); 'Compare(a, b) < 0' is a strict order, and what compares as the same is the same.
-/
namespace Go.Proofs.YtgndebdoljnheaaGreatDoor
section
set_option linter.unusedSimpArgs false
set_option linter.unusedVariables false
open Go.RowKit Go.Lib Go.Sort

abbrev cb13 := Lib.compareBytes
theorem cb_cons13 (x y : UInt8) (a b : List UInt8) : cb13 (x :: a) (y :: b) = if x < y then -1 else if y < x then 1 else cb13 a b := rfl
theorem cb_same13 (x : UInt8) (a b : List UInt8) : cb13 (x :: a) (x :: b) = cb13 a b := by
  rw [cb_cons13, if_neg (UInt8.lt_irrefl x), if_neg (UInt8.lt_irrefl x)]
theorem cb_self13 : ∀ a : List UInt8, cb13 a a = 0
  | [] => rfl
  | x :: a => by rw [cb_same13]; exact cb_self13 a
theorem cb_zero13 : ∀ {a b : List UInt8}, cb13 a b = 0 → a = b
  | [], [], _ => rfl
  | [], _ :: _, h => by cases h
  | _ :: _, [], h => by cases h
  | x :: a, y :: b, h => by
    rw [cb_cons13] at h
    split at h
    · cases h
    · split at h
      · cases h
      · rename_i h1 h2
        have : x = y := by
          rw [UInt8.lt_iff_toNat_lt] at h1 h2
          exact UInt8.toNat_inj.1 (by omega)
        rw [this, cb_zero13 h]

theorem less_bl13 : ∀ a b : List UInt8, Op.bytesLess a b = bl a b
  | [], [] => rfl
  | [], _ :: _ => rfl
  | _ :: _, [] => rfl
  | x :: a, y :: b => by
    have ih := less_bl13 a b
    rw [show bl (x :: a) (y :: b) = if x = y then bl a b else decide (x < y) from rfl]
    unfold Op.bytesLess
    rw [ih]
    by_cases h : x = y
    · subst h; simp [UInt8.lt_irrefl]
    · rw [if_neg h]; simp [h]
/-- The first number that is not 0. -/
def orL : List Int → Int
  | [] => 0
  | x :: l => if x = 0 then orL l else x
def cmpE (a b : En) : Int := orL [cb13 a.s.data.toList b.s.data.toList, cmpI a.p b.p, cmpI a.q b.q]
def lessE (a b : En) : Bool := if a.s.toList == b.s.toList then (if a.p = b.p then decide (a.q < b.q) else decide (a.p < b.p)) else Op.bytesLess a.s.toList b.s.toList
theorem orL3 (x y z : Int) : orL [x, y, z] = if x = 0 then (if y = 0 then z else y) else x := by
  simp only [orL]
  split
  · split
    · split <;> simp_all
    · rfl
  · rfl
theorem cmpE_bd (a b : En) : -1 ≤ cmpE a b ∧ cmpE a b ≤ 1 := by
  unfold cmpE
  rw [orL3]
  have := cb_bd a.s.data.toList b.s.data.toList
  have := cmpI_bd a.p b.p
  have := cmpI_bd a.q b.q
  split
  · split <;> omega
  · omega
theorem cmpE_swap (a b : En) : cmpE b a = - cmpE a b := by
  unfold cmpE
  rw [orL3, orL3, show cb13 b.s.data.toList a.s.data.toList = -cb13 a.s.data.toList b.s.data.toList from cb_swap _ _, cmpI_swap a.p b.p, cmpI_swap a.q b.q]
  generalize cb13 a.s.data.toList b.s.data.toList = x
  generalize cmpI a.p b.p = y
  generalize cmpI a.q b.q = z
  by_cases hx : x = 0 <;> by_cases hy : y = 0 <;> simp [hx, hy]
theorem cmpE_trans (a b c : En) (h1 : cmpE a b ≤ 0) (h2 : cmpE b c ≤ 0) : cmpE a c ≤ 0 := by
  unfold cmpE at *
  rw [orL3] at *
  have t1 := cb_trans a.s.data.toList b.s.data.toList c.s.data.toList
  have t2 := cmpI_trans a.p b.p c.p
  have t3 := cmpI_trans a.q b.q c.q
  have z1 : cb13 a.s.data.toList b.s.data.toList = 0 → cb13 b.s.data.toList c.s.data.toList = 0 → cb13 a.s.data.toList c.s.data.toList = 0 := fun e f => by rw [cb_zero13 e, cb_zero13 f]; exact cb_self13 _
  have z2 := cmpI_zero a.p b.p
  have z3 := cmpI_zero b.p c.p
  have z4 := cmpI_zero a.p c.p
  simp only [cb13] at *
  generalize Lib.compareBytes a.s.data.toList b.s.data.toList = x1 at *
  generalize Lib.compareBytes b.s.data.toList c.s.data.toList = x2 at *
  generalize Lib.compareBytes a.s.data.toList c.s.data.toList = x3 at *
  generalize cmpI a.p b.p = y1 at *
  generalize cmpI b.p c.p = y2 at *
  generalize cmpI a.p c.p = y3 at *
  by_cases e1 : x1 = 0 <;> by_cases e2 : x2 = 0 <;> by_cases e3 : x3 = 0 <;> by_cases f1 : y1 = 0 <;> by_cases f2 : y2 = 0 <;> by_cases f3 : y3 = 0 <;> simp only [e1, e2, e3, f1, f2, f3, if_true, if_false] at h1 h2 ⊢ <;> omega
theorem lessE_cmp (a b : En) : lessE a b = decide (cmpE a b < 0) := by
  unfold lessE cmpE
  rw [orL3, less_bl13, bl_cmp]
  have e : (a.s.toList == b.s.toList) = decide (cb13 a.s.data.toList b.s.data.toList = 0) := by
    rw [ByteArray.toList_eq, ByteArray.toList_eq, Bool.eq_iff_iff, beq_iff_eq, decide_eq_true_iff]
    exact ⟨fun h => by rw [h]; exact cb_self13 _, cb_zero13⟩
  rw [e, ByteArray.toList_eq, ByteArray.toList_eq]
  have z2 := cmpI_zero a.p b.p
  have l2 := cmpI_lt a.p b.p
  have l3 := cmpI_lt a.q b.q
  by_cases h : cb13 a.s.data.toList b.s.data.toList = 0
  · simp only [h, decide_true, if_true]
    by_cases hp : a.p = b.p
    · rw [if_pos hp, if_pos (z2.2 hp), l3]
    · rw [if_neg hp, if_neg (fun x => hp (z2.1 x)), l2]
  · simp only [h, decide_false, if_false]
    rfl
theorem cmpE_zero {a b : En} (h : cmpE a b = 0) : a = b := by
  obtain ⟨s, p, q⟩ := a
  obtain ⟨t, x, y⟩ := b
  unfold cmpE at h
  rw [orL3] at h
  simp only at h
  split at h
  · rename_i h1
    split at h
    · rename_i h2
      have e1 := (cmpI_zero p x).1 h2
      have e2 := (cmpI_zero q y).1 h
      have e3 : s = t := ByteArray.ext (Array.toList_inj.1 (cb_zero13 h1))
      rw [e1, e2, e3]
    · rename_i h2; exact absurd h h2
  · rename_i h1; exact absurd h h1
theorem cmpE_self (a : En) : cmpE a a = 0 := by
  have := cmpE_swap a a
  omega
theorem swoE : SWO (ltOf cmpE) where
  irrefl x := by
    have h := cmpE_swap x x
    unfold ltOf
    simp
    omega
  trans x y z h1 h2 := by
    unfold ltOf at *
    simp only [decide_eq_true_eq] at *
    have h := cmpE_trans x y z (by omega) (by omega)
    by_cases h0 : cmpE x z = 0
    · obtain rfl := cmpE_zero h0
      have := cmpE_swap x y
      omega
    · omega
  ntrans x y z h1 h2 := by
    unfold ltOf at *
    simp only [decide_eq_false_iff_not, Int.not_lt] at *
    have s1 := cmpE_swap x y
    have s2 := cmpE_swap y z
    have s3 := cmpE_swap x z
    have h := cmpE_trans z y x (by omega) (by omega)
    omega
end
end Go.Proofs.YtgndebdoljnheaaGreatDoor
/-
  Values compared as slices.SortFunc asks it: nothing turns but new blocks.
-/
namespace Go.Proofs.YtgndebdoljnheaaGreatDoor
section
set_option linter.unusedSimpArgs false
set_option linter.unusedVariables false
open Go.RowKit Go.Lib Go.Sort
attribute [local go_sem ↓] Go.wp_at_zero Go.wp_at_succ

theorem cmp8_13 (x y : Int) (w : World) : Calls Tryz.prog 40 #[.int .u8 x, .int .u8 y] w fun e w' => e = .returned (.int .i64 (cmpI x y)) ∧ w = w' := by
  unfold cmpI
  by_cases h1 : x < y
  · go_enter Tryz.func40, Tryz.ntmps40
    go_wp2
    go_ret
    exact ⟨rfl, rfl⟩
  · by_cases h2 : y < x
    · go_enter Tryz.func40, Tryz.ntmps40
      go_wp2
      go_ret
      exact ⟨rfl, rfl⟩
    · go_enter Tryz.func40, Tryz.ntmps40
      go_wp2
      go_ret
      exact ⟨rfl, rfl⟩
theorem cmp64_13 (x y : Int) (w : World) : Calls Tryz.prog 41 #[.int .i64 x, .int .i64 y] w fun e w' => e = .returned (.int .i64 (cmpI x y)) ∧ w = w' := by
  unfold cmpI
  by_cases h1 : x < y
  · go_enter Tryz.func41, Tryz.ntmps41
    go_wp2
    go_ret
    exact ⟨rfl, rfl⟩
  · by_cases h2 : y < x
    · go_enter Tryz.func41, Tryz.ntmps41
      go_wp2
      go_ret
      exact ⟨rfl, rfl⟩
    · go_enter Tryz.func41, Tryz.ntmps41
      go_wp2
      go_ret
      exact ⟨rfl, rfl⟩
theorem kind13_any (k i : Int) (s : ByteArray) (w : World) : Calls Tryz.prog 39 #[.agg #[.int .u8 k, .int .i64 i, .string s]] w fun e w' => e = .returned (.int .u8 (kd k)) ∧ w' = w.alloc (.cells #[.int .u8 k, .int .i64 i, .string s] 35) := by
  unfold kd
  by_cases h : 3 < k
  all_goals
    go_enter Tryz.func39, Tryz.ntmps39
    go_wp2
    go_ret
    exact ⟨rfl, rfl⟩
def RetGw (w : World) (v : Value) (e : Ending) (w' : World) : Prop := e = .returned v ∧ ∃ (q : Nat) (os' : Array Obj), w' = grow (w.drewN q) os'
set_option maxHeartbeats 4000000 in
theorem compare13_any (a b : Vl) (w : World) : Calls Tryz.prog 21 #[a.agg, b.agg] w (RetGw w (.int .i64 (cmpV a b))) := by
  obtain ⟨ak, ai, ss⟩ := a
  obtain ⟨bk, bi, st⟩ := b
  unfold cmpV Vl.agg
  simp only
  by_cases hk : kd ak = kd bk
  · rw [if_pos hk]
    have hne : (kd ak != kd bk) = false := by simp [hk]
    have hc : (ak = 1 ∨ ak = 2) ∨ ak = 3 ∨ (ak ≠ 1 ∧ ak ≠ 2 ∧ ak ≠ 3) := by omega
    clear hk
    rcases hc with hc | rfl | ⟨n1, n2, n3⟩
    · rw [if_pos hc]
      rcases hc with rfl | rfl
      all_goals
        go_enter Tryz.func21, Tryz.ntmps21
        go_wp2_with (first | (go_at_call 39; refine (kind13_any _ _ _ _).mono ?_; rintro e w' ⟨rfl, rfl⟩) | (go_at_call 41; refine (cmp64_13 _ _ _).mono ?_; rintro e w' ⟨rfl, rfl⟩) | (go_at_call 42; refine (Tryz.strings_Compare _ _ _).mono ?_; rintro e w' ⟨rfl, rfl⟩) | fail)
        go_ret
        exact ⟨rfl, 0, _, by simp only [alloc_eq_grow, grow_grow]; rfl⟩
    · rw [if_neg (by omega), if_pos rfl]
      go_enter Tryz.func21, Tryz.ntmps21
      go_wp2_with (first | (go_at_call 39; refine (kind13_any _ _ _ _).mono ?_; rintro e w' ⟨rfl, rfl⟩) | (go_at_call 41; refine (cmp64_13 _ _ _).mono ?_; rintro e w' ⟨rfl, rfl⟩) | (go_at_call 42; refine (Tryz.strings_Compare _ _ _).mono ?_; rintro e w' ⟨rfl, rfl⟩) | fail)
      go_ret
      exact ⟨rfl, 0, _, by simp only [alloc_eq_grow, grow_grow]; rfl⟩
    · rw [if_neg (by omega), if_neg n3]
      go_enter Tryz.func21, Tryz.ntmps21
      go_wp2_with (first | (go_at_call 39; refine (kind13_any _ _ _ _).mono ?_; rintro e w' ⟨rfl, rfl⟩) | (go_at_call 41; refine (cmp64_13 _ _ _).mono ?_; rintro e w' ⟨rfl, rfl⟩) | (go_at_call 42; refine (Tryz.strings_Compare _ _ _).mono ?_; rintro e w' ⟨rfl, rfl⟩) | fail)
      go_ret
      exact ⟨rfl, 0, _, by simp only [alloc_eq_grow, grow_grow]; rfl⟩
  · rw [if_neg hk]
    have hne : (kd ak != kd bk) = true := by simpa using hk
    clear hk
    go_enter Tryz.func21, Tryz.ntmps21
    go_wp2_with (first | (go_at_call 39; refine (kind13_any _ _ _ _).mono ?_; rintro e w' ⟨rfl, rfl⟩) | (go_at_call 40; refine (cmp8_13 _ _ _).mono ?_; rintro e w' ⟨rfl, rfl⟩) | fail)
    go_ret
    exact ⟨rfl, 0, _, by simp only [alloc_eq_grow, grow_grow]; rfl⟩
/-- 'Compare(a, b) < 0' is a strict weak order. -/
theorem swo13 : SWO (ltOf cmpV) where
  irrefl x := by
    have h := cmpV_swap x x
    unfold ltOf
    simp
    omega
  trans x y z h1 h2 := by
    unfold ltOf at *
    simp only [decide_eq_true_eq] at *
    have h := cmpV_trans x y z (by omega) (by omega)
    by_cases h0 : cmpV x z = 0
    · have := (h.2 h0).1
      omega
    · omega
  ntrans x y z h1 h2 := by
    unfold ltOf at *
    simp only [decide_eq_false_iff_not, Int.not_lt] at *
    have s1 := cmpV_swap x y
    have s2 := cmpV_swap y z
    have s3 := cmpV_swap x z
    have h := cmpV_trans z y x (by omega) (by omega)
    omega
end
end Go.Proofs.YtgndebdoljnheaaGreatDoor
/-
  Entries of a tree compared as slices.SortFunc asks it: nothing turns but new blocks.
-/
namespace Go.Proofs.YtgndebdoljnheaaGreatDoor
section
set_option linter.unusedSimpArgs false
set_option linter.unusedVariables false
open Go.RowKit Go.Lib Go.Sort

/-- Nothing has turned but new blocks, and what is to be drawn. -/
def Gw (w W : World) : Prop := ∃ (q : Nat) (os : Array Obj), W = grow (w.drewN q) os
theorem Gw.refl (w : World) : Gw w w := ⟨0, #[], by rw [World.drewN_zero]; simp [grow]⟩
theorem Gw.alloc {w W : World} (h : Gw w W) (o : Obj) : Gw w (W.alloc o) := by
  obtain ⟨q, os, rfl⟩ := h
  exact ⟨q, os ++ #[o], by rw [alloc_eq_grow, grow_grow]⟩
theorem Gw.drewN {w W : World} (h : Gw w W) (n : Nat) : Gw w (W.drewN n) := by
  obtain ⟨q, os, rfl⟩ := h
  exact ⟨q + n, os, by rw [← World.drewN_drewN]; rfl⟩
theorem Gw.drew {w W : World} (h : Gw w W) : Gw w W.drew := h.drewN 1
theorem RetGw.gw {w W : World} {v : Value} {e : Ending} (h : RetGw w v e W) : Gw w W := h.2

@[reducible] def En.agg (e : En) : Value := .agg #[.string e.s, .int .u32 e.p, .int .u16 e.q]
theorem cmp32_any (x y : Int) (w : World) : Calls Tryz.prog 47 #[.int .u32 x, .int .u32 y] w fun e w' => e = .returned (.int .i64 (cmpI x y)) ∧ w = w' := by
  unfold cmpI
  by_cases h1 : x < y
  · go_enter Tryz.func47, Tryz.ntmps47
    go_wp2
    go_ret
    exact ⟨rfl, rfl⟩
  · by_cases h2 : y < x
    · go_enter Tryz.func47, Tryz.ntmps47
      go_wp2
      go_ret
      exact ⟨rfl, rfl⟩
    · go_enter Tryz.func47, Tryz.ntmps47
      go_wp2
      go_ret
      exact ⟨rfl, rfl⟩
theorem cmp16_any (x y : Int) (w : World) : Calls Tryz.prog 48 #[.int .u16 x, .int .u16 y] w fun e w' => e = .returned (.int .i64 (cmpI x y)) ∧ w = w' := by
  unfold cmpI
  by_cases h1 : x < y
  · go_enter Tryz.func48, Tryz.ntmps48
    go_wp2
    go_ret
    exact ⟨rfl, rfl⟩
  · by_cases h2 : y < x
    · go_enter Tryz.func48, Tryz.ntmps48
      go_wp2
      go_ret
      exact ⟨rfl, rfl⟩
    · go_enter Tryz.func48, Tryz.ntmps48
      go_wp2
      go_ret
      exact ⟨rfl, rfl⟩
theorem orL_drop {l : List Int} {k : Nat} {x : Int} (h : l[k]? = some x) : orL (l.drop k) = if x = 0 then orL (l.drop (k + 1)) else x := by
  have hk := lt_of_at h
  have : l[k] = x := by simpa [List.getElem?_eq_getElem hk] using h
  rw [List.drop_eq_getElem_cons hk, this]
  rfl
theorem or_any (A : Option Addr) (n c B : Nat) (l : List Int) (w : World) (hr : Reads w B 1 A n (l.map (Value.int .i64))) (hn : n ≤ 1000) :
    Calls Tryz.prog 46 #[.slice A n c] w fun e w' => e = .returned (.int .i64 (orL l)) ∧ w = w' := by
  have hl : l.length = n := by have := hr.1; simp at this; omega
  have Hl := Lib.hid hl; clear hl
  go_enter Tryz.func46, Tryz.ntmps46
  go_wp2
  go_loop [8] (fun i => ∃ k : Nat, k ≤ n ∧ i = .int .i64 k ∧ orL l = orL (l.drop k)) (fun i => n - (intOf i).toNat)
  case atStart => exact ⟨0, Nat.zero_le _, rfl, rfl⟩
  case round =>
    obtain ⟨k, hk, rfl, he⟩ := hrel
    have HE := Lib.hid he; clear he
    have q0 : (0 : Int) ≤ (k : Int) := by omega
    by_cases hlt : k < n
    · have q1 : (k : Int) < (n : Int) := by omega
      obtain ⟨ad, u, rfl, _, hu, c0⟩ := hr.at_ hlt
      rw [List.getElem?_map] at hu
      obtain ⟨x, hx, rfl⟩ := Option.map_eq_some_iff.1 hu
      have hd := Lib.hid (orL_drop hx)
      clear hx hu
      by_cases h0 : x = 0
      · subst h0
        have he2 : Hid (orL l = orL (l.drop (k + 1))) := Lib.hid (by rw [HE.out, hd.out, if_pos rfl])
        go_wp2
        go_round
        case rel => exact ⟨k + 1, by omega, by go_num, he2.out⟩
        case measure => simp [intOf]; omega
      · have he2 : Hid (orL l = x) := Lib.hid (by rw [HE.out, hd.out, if_neg h0])
        have hb : (x != 0) = true := by simpa using h0
        go_wp2
        go_ret
        exact ⟨by rw [he2.out]; rfl, rfl⟩
    · have he2 : Hid (orL l = 0) := Lib.hid (by rw [HE.out, List.drop_eq_nil_of_le (by rw [Hl.out]; omega)]; rfl)
      go_wp2
      go_ret
      exact ⟨by rw [he2.out]; rfl, rfl⟩

theorem three_reads (w : World) (x y z : Int) {g : Nat} (hg : g = w.heap.size) : Reads (w.alloc (.cells #[.int .i64 x, .int .i64 y, .int .i64 z] 3)) (g + 1) 1 (some ⟨g, 0, none⟩) 3 ([x, y, z].map (Value.int .i64)) := by
  subst hg
  exact reads_new w _ _ rfl rfl
/-- The cells of an entry that lies in a block of its own. -/
def AtE (W : World) (g : Nat) (e : En) : Prop := W.cell? ⟨g, 0, none⟩ = some (.string e.s) ∧ W.cell? ⟨g, 1, none⟩ = some (.int .u32 e.p) ∧ W.cell? ⟨g, 2, none⟩ = some (.int .u16 e.q)
theorem AtE.new (w : World) (e : En) (t : TypeId) : AtE (w.alloc (.cells #[.string e.s, .int .u32 e.p, .int .u16 e.q] t)) w.heap.size e := by
  refine ⟨?_, ?_, ?_⟩ <;> rw [World.cell?_alloc_at _ _ _ _ rfl] <;> rfl
theorem AtE.below {w w' : World} {g : Nat} {e : En} (h : AtE w g e) (hb : Below w.heap.size w w') : AtE w' g e := by
  obtain ⟨a, b, c⟩ := h
  exact ⟨(hb.cell (cell_block a)).trans a, (hb.cell (cell_block b)).trans b, (hb.cell (cell_block c)).trans c⟩

set_option maxRecDepth 100000 in
set_option maxHeartbeats 4000000 in
theorem compareG_any (a b : En) (w : World) : Calls Tryz.prog 27 #[a.agg, b.agg] w (RetGw w (.int .i64 (cmpE a b))) := by
  have hS : Hid (∀ W, Below (w.heap.size + 1 + 1) ((w.alloc (.cells #[.string a.s, .int .u32 a.p, .int .u16 a.q] 53)).alloc (.cells #[.string b.s, .int .u32 b.p, .int .u16 b.q] 53)) W → W.cell? ⟨w.heap.size, 0, none⟩ = some (.string a.s) ∧ W.cell? ⟨w.heap.size, 1, none⟩ = some (.int .u32 a.p) ∧ W.cell? ⟨w.heap.size, 2, none⟩ = some (.int .u16 a.q) ∧ W.cell? ⟨w.heap.size + 1, 0, none⟩ = some (.string b.s) ∧ W.cell? ⟨w.heap.size + 1, 1, none⟩ = some (.int .u32 b.p) ∧ W.cell? ⟨w.heap.size + 1, 2, none⟩ = some (.int .u16 b.q)) := by
    refine Lib.hid fun W hW => ?_
    have hW' : Below ((w.alloc (.cells #[.string a.s, .int .u32 a.p, .int .u16 a.q] 53)).alloc (.cells #[.string b.s, .int .u32 b.p, .int .u16 b.q] 53)).heap.size ((w.alloc (.cells #[.string a.s, .int .u32 a.p, .int .u16 a.q] 53)).alloc (.cells #[.string b.s, .int .u32 b.p, .int .u16 b.q] 53)) W := by simpa using hW
    obtain ⟨q0, q1, q2⟩ := ((AtE.new w a 53).below ((Below.refl _ _).alloc (Nat.le_refl _) (.cells #[.string b.s, .int .u32 b.p, .int .u16 b.q] 53))).below hW'
    obtain ⟨q3, q4, q5⟩ := (AtE.new (w.alloc (.cells #[.string a.s, .int .u32 a.p, .int .u16 a.q] 53)) b 53).below hW'
    simp only [alloc_size] at q3 q4 q5
    exact ⟨q0, q1, q2, q3, q4, q5⟩
  unfold cmpE
  obtain ⟨s, p, q⟩ := a
  obtain ⟨t, x, y⟩ := b
  unfold En.agg
  simp only at hS ⊢
  go_enter Tryz.func27, Tryz.ntmps27
  go_wp2_with fail
  obtain ⟨WA, hWA⟩ : ∃ WA, ((w.alloc (.cells #[.string s, .int .u32 p, .int .u16 q] 53)).alloc (.cells #[.string t, .int .u32 x, .int .u16 y] 53)) = WA := ⟨_, rfl⟩
  have hG : Gw w WA := by rw [← hWA]; exact ((Gw.refl w).alloc _).alloc _
  have hz : WA.heap.size = w.heap.size + 1 + 1 := by rw [← hWA]; simp
  rw [hWA] at hS ⊢
  clear hWA
  obtain ⟨q0, q1, q2, q3, q4, q5⟩ := hS.out WA (Below.refl _ _)
  go_region_held3 (fun W => (W.cell? ⟨w.heap.size, 0, none⟩ = some (.string s) ∧ W.cell? ⟨w.heap.size, 1, none⟩ = some (.int .u32 p) ∧ W.cell? ⟨w.heap.size, 2, none⟩ = some (.int .u16 q) ∧ W.cell? ⟨w.heap.size + 1, 0, none⟩ = some (.string t) ∧ W.cell? ⟨w.heap.size + 1, 1, none⟩ = some (.int .u32 x) ∧ W.cell? ⟨w.heap.size + 1, 2, none⟩ = some (.int .u16 y)) ∧ Gw w W)
    (first | exact ⟨hS.out _ (by rw [← hz]; (with_reducible repeat (first | exact Below.refl _ _ | exact hb1 | refine bto0 ?_ hb1 | refine bdr ?_ _ | refine Below.drew ?_ | refine ball ?_ _))), by (first | assumption | (repeat (first | exact Gw.refl _ | assumption | refine Gw.alloc ?_ _ | refine Gw.drew ?_ | refine Gw.drewN ?_ _)))⟩ | assumption)
    (first
      | (go_at_call 42; (with_reducible refine (Tryz.strings_Compare _ _ _).mono ?_); rintro e w' ⟨rfl, rfl⟩)
      | (go_at_call 47; (with_reducible refine (cmp32_any _ _ _).mono ?_); rintro e w' ⟨rfl, rfl⟩)
      | (go_at_call 48; (with_reducible refine (cmp16_any _ _ _).mono ?_); rintro e w' ⟨rfl, rfl⟩)
      | (go_at_call 46; refine (or_any _ _ _ (w.heap.size + 1 + 1 + 1) [Lib.compareBytes s.data.toList t.data.toList, cmpI p x, cmpI q y] _ (three_reads WA _ _ _ hz.symm).drew (by decide)).mono ?_; rintro e w' ⟨rfl, rfl⟩))
  go_wp2
  go_ret
  exact ⟨rfl, (by (first | assumption | (repeat (first | exact Gw.refl _ | assumption | refine Gw.alloc ?_ _ | refine Gw.drew ?_ | refine Gw.drewN ?_ _))) : Gw w _)⟩
set_option maxHeartbeats 1000000 in
theorem lessE_any (a b : En) (w : World) : Calls Tryz.prog 29 #[a.agg, b.agg] w (RetB w (.bool (lessE a b))) := by
  unfold lessE
  obtain ⟨s, p, q⟩ := a
  obtain ⟨t, x, y⟩ := b
  unfold En.agg
  simp only
  by_cases h : (s.toList == t.toList) = true
  · rw [if_pos h]
    have h' : (s.toList != t.toList) = false := by simpa using h
    by_cases h2 : p = x
    · rw [if_pos h2]
      have h2' : (p != x) = false := by simpa using h2
      go_enter Tryz.func29, Tryz.ntmps29
      go_wp2
      go_ret
      exact ⟨rfl, by (with_reducible repeat (first | exact Below.refl _ _ | exact hb1 | exact hb1 | refine bto0 ?_ hb1 | refine bto0 ?_ hb1 | refine bdr ?_ _ | refine Below.drew ?_ | refine ball ?_ _))⟩
    · rw [if_neg h2]
      have h2' : (p != x) = true := by simpa using h2
      go_enter Tryz.func29, Tryz.ntmps29
      go_wp2
      go_ret
      exact ⟨rfl, by (with_reducible repeat (first | exact Below.refl _ _ | exact hb1 | exact hb1 | refine bto0 ?_ hb1 | refine bto0 ?_ hb1 | refine bdr ?_ _ | refine Below.drew ?_ | refine ball ?_ _))⟩
  · rw [if_neg h]
    have h' : (s.toList == t.toList) = false := by simpa using h
    have h'' : (s.toList != t.toList) = true := by simpa using h
    go_enter Tryz.func29, Tryz.ntmps29
    go_wp2
    go_ret
    exact ⟨rfl, by (with_reducible repeat (first | exact Below.refl _ _ | exact hb1 | exact hb1 | refine bto0 ?_ hb1 | refine bto0 ?_ hb1 | refine bdr ?_ _ | refine Below.drew ?_ | refine ball ?_ _))⟩
end
end Go.Proofs.YtgndebdoljnheaaGreatDoor
