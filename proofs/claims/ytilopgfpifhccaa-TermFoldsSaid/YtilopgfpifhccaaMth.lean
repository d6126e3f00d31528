/-
  Several texts in one: R3 R4 R5 R6.
-/
import Derived.Test.YtilopgfpifhccaaMtg
import Derived.Deep.RegionHeld3
/-
  The program's at and turned.
-/
namespace Go.Proofs.Ytilopgfpifhccaa
section
set_option linter.unusedSimpArgs false
set_option linter.unusedVariables false
open Go.RowKit

theorem atO_no {l : List Vl} {i : Int} (h : i < 0 ∨ (l.length : Int) ≤ i) : atO l i = none := by
  unfold atO
  split
  · rfl
  · exact List.getElem?_eq_none (by omega)
theorem atO_is {l : List Vl} {k : Nat} {v : Vl} (h : l[k]? = some v) : atO l (k : Int) = some v := by
  unfold atO
  rw [if_neg (by omega), Int.toNat_natCast]
  exact h

set_option maxRecDepth 100000 in
set_option maxHeartbeats 4000000 in
theorem at18_any (A : Option Addr) (n c : Nat) (l : List Vl) (i : Int) (w : World) (hr : Reads w w.heap.size 3 A n (vV l)) (hn : n ≤ maxLen) :
    Calls Try.prog 34 #[.slice A n c, .int .i64 i] w (RetB w (retO (atO l i))) := by
  have hl : l.length = n := by have := hr.1; rw [vV_len] at this; omega
  unfold maxLen at hn
  rcases (show i < 0 ∨ (0 ≤ i ∧ (n : Int) ≤ i) ∨ (0 ≤ i ∧ i < (n : Int)) by omega) with h | ⟨h, h2⟩ | ⟨h, h2⟩
  · rw [atO_no (.inl h)]
    clear hr hl
    go_enter Try.func34, Try.ntmps34
    go_wp2_with fail
    exact bodyPost_ret (v := retO none) (by simp [results, Try.results34, go_sem, retO, zV, Vl.agg]) rfl ⟨rfl, ball (Below.refl _ _) _⟩
  · rw [atO_no (.inr (by omega))]
    clear hr hl
    go_enter Try.func34, Try.ntmps34
    go_wp2_with fail
    exact bodyPost_ret (v := retO none) (by simp [results, Try.results34, go_sem, retO, zV, Vl.agg]) rfl ⟨rfl, ball (Below.refl _ _) _⟩
  · obtain ⟨k, rfl⟩ : ∃ k : Nat, i = (k : Int) := ⟨i.toNat, by omega⟩
    have hbk : Below w.heap.size w (w.alloc (.cells #[.int .u8 0, .int .i64 0, .string ⟨#[]⟩] 23)) := ball (Below.refl _ _) _
    obtain ⟨ad, v, rfl, hab, hv, c0, c1, c2⟩ := (hr.below hbk).val (by omega : k < n)
    rw [atO_is hv]
    clear hr hl hv
    obtain ⟨vk, vi, vs⟩ := v
    simp only at c0 c1 c2
    go_enter Try.func34, Try.ntmps34
    go_wp2_with fail
    exact bodyPost_ret (v := retO (some ⟨vk, vi, vs⟩)) (by simp [results, Try.results34, go_sem, retO, Vl.agg]) rfl ⟨rfl, ball (Below.refl _ _) _⟩

set_option maxRecDepth 100000 in
set_option maxHeartbeats 4000000 in
theorem turned_any (v : Vl) (w : World) (hv : v.ok) : Calls Try.prog 62 #[v.agg] w (RetB w (retO (turnO v))) := by
  obtain ⟨k, i, s⟩ := v
  obtain ⟨⟨k0, k1⟩, hi, hs⟩ := hv
  simp only at k0 k1 hi
  have N := Lib.hid fun W => neg_any i W hi
  unfold numR at N
  rcases (show k = 0 ∨ k = 1 ∨ (k ≠ 0 ∧ k ≠ 1) by omega) with rfl | rfl | ⟨h0, h1⟩
  · have e : turnO ⟨0, i, s⟩ = some ⟨0, i, s⟩ := rfl
    rw [e]
    clear N hi hs
    go_enter Try.func62, Try.ntmps62
    go_wp2_with fail
    exact bodyPost_ret (v := retO (some ⟨0, i, s⟩)) (by simp [results, Try.results62, go_sem, retO, Vl.agg]) rfl ⟨rfl, by with_reducible repeat (first | exact Below.refl _ _ | refine ball ?_ _)⟩
  · by_cases hq : rngP (-i)
    · have e : turnO ⟨1, i, s⟩ = some ⟨1, -i, ⟨#[]⟩⟩ := by unfold turnO; rw [if_neg (by show ¬ (1 : Int) = 0; decide), if_pos ⟨rfl, hq⟩]
      have e2 : numN (-i) = -i := by unfold numN; rw [if_pos hq]
      rw [e]
      rw [e2, decide_eq_true hq] at N
      clear hq hi hs
      go_enter Try.func62, Try.ntmps62
      go_wp2_with (go_at_call 69; refine (N.out _).mono ?_; rintro e w' ⟨rfl, rfl⟩)
      exact bodyPost_ret (v := retO (some ⟨1, -i, ⟨#[]⟩⟩)) (by simp [results, Try.results62, go_sem, retO, Vl.agg]) rfl ⟨rfl, by with_reducible repeat (first | exact Below.refl _ _ | refine ball ?_ _)⟩
    · have e : turnO ⟨1, i, s⟩ = none := by unfold turnO; rw [if_neg (by show ¬ (1 : Int) = 0; decide), if_neg (fun h => hq h.2)]
      rw [e]
      rw [decide_eq_false hq] at N
      clear hq hi hs
      go_enter Try.func62, Try.ntmps62
      go_wp2_with (go_at_call 69; refine (N.out _).mono ?_; rintro e w' ⟨rfl, rfl⟩)
      exact bodyPost_ret (v := retO none) (by simp [results, Try.results62, go_sem, retO, zV, Vl.agg]) rfl ⟨rfl, by with_reducible repeat (first | exact Below.refl _ _ | refine ball ?_ _)⟩
  · have e : turnO ⟨k, i, s⟩ = none := by unfold turnO; rw [if_neg h0, if_neg (fun h => h1 h.1)]
    have m0 : (k == 0) = false := by simpa using h0
    have m1 : (k != 1) = true := by simpa using h1
    rw [e]
    clear hi hs h0 h1
    go_enter Try.func62, Try.ntmps62
    go_wp2_with (go_at_call 69; refine (N.out _).mono ?_; rintro e w' ⟨rfl, rfl⟩)
    exact bodyPost_ret (v := retO none) (by simp [results, Try.results62, go_sem, retO, zV, Vl.agg]) rfl ⟨rfl, by with_reducible repeat (first | exact Below.refl _ _ | refine ball ?_ _)⟩
end
end Go.Proofs.Ytilopgfpifhccaa
/-
  The program's truth, compared: over a contract of value.
-/
namespace Go.Proofs.Ytilopgfpifhccaa
section
set_option linter.unusedSimpArgs false
set_option linter.unusedVariables false
open Go.RowKit

/-- What value makes of a term, from a world on. -/
def HVal (w : World) (O : Nat) (t : Tm) (o : Option Vl) : Prop := ∀ W, Below w.heap.size w W → Calls Try.prog 21 #[.pointer (some ⟨O, 0, none⟩), t.agg] W (RetB W (retO o))
theorem HVal.up {w w' : World} {O : Nat} {t : Tm} {o : Option Vl} (h : HVal w O t o) (hb : Below w.heap.size w w') : HVal w' O t o := fun W hW => h W (bto0 hb hW)

set_option maxRecDepth 100000 in
set_option maxHeartbeats 4000000 in
theorem truth18_any (O : Nat) (t : Tm) (o : Option Vl) (w : World) (h : HVal w O t o) : Calls Try.prog 27 #[.pointer (some ⟨O, 0, none⟩), t.agg] w (RetB w (.int .u8 (truO o))) := by
  have HT := Lib.hid h
  clear h
  obtain ⟨⟨k0, op0, no0, ⟨vk0, vi0, vs0⟩, of0, nm0, tb0, cl0⟩, A0, n0, c0, l0⟩ := t
  have hb0 : Below w.heap.size w (w.alloc (.cells #[.int .u8 k0, .string op0, .bool no0, .int .u8 vk0, .int .i64 vi0, .string vs0, .string of0, .string nm0, .int .i64 tb0, .int .i64 cl0, .slice A0 n0 c0] 26)) := ball (Below.refl _ _) _
  simp only [Tm.agg, TmH.agg, Tm.h, Tm.A, Tm.n, Tm.c]
  unfold HVal Tm.agg TmH.agg at HT
  simp only [Tm.h, Tm.A, Tm.n, Tm.c] at HT
  cases o with
  | none =>
    have e : truO none = 2 := rfl
    rw [e]
    go_enter Try.func27, Try.ntmps27
    go_wp2_with fail
    refine (HT.out _ hb0).mono ?_
    rintro e w1 ⟨rfl, hb1⟩
    unfold retO
    go_wp2_with fail
    go_ret
    exact ⟨rfl, (bto0 hb0 (ball hb1 _))⟩
  | some v =>
    have HO := Lib.hid fun W => lof_any v W
    have e : truO (some v) = ofV v := rfl
    rw [e]
    obtain ⟨vk, vi, vs⟩ := v
    obtain ⟨x, hx⟩ : ∃ x, ofV ⟨vk, vi, vs⟩ = x := ⟨_, rfl⟩
    rw [hx] at HO ⊢
    clear hx
    go_enter Try.func27, Try.ntmps27
    go_wp2_with fail
    refine (HT.out _ hb0).mono ?_
    rintro e w1 ⟨rfl, hb1⟩
    simp only [retO, Option.getD, Option.isSome, Vl.agg]
    go_wp2_with fail
    refine (HO.out _).mono ?_
    rintro e w2 ⟨rfl, hb2⟩
    go_wp2_with fail
    go_ret
    exact ⟨rfl, bto0 (bto0 hb0 (ball hb1 _)) hb2⟩

set_option maxRecDepth 100000 in
set_option maxHeartbeats 4000000 in
theorem compared_any (O : Nat) (op : ByteArray) (x : Option Vl) (t : Tm) (o : Option Vl) (w : World) (h : HVal w O t o) : Calls Try.prog 65 #[.pointer (some ⟨O, 0, none⟩), .string op, (x.getD zV).agg, .bool x.isSome, t.agg] w (RetB w (.int .u8 (cmpO op x o))) := by
  have HT := Lib.hid h
  clear h
  obtain ⟨⟨k0, op0, no0, ⟨vk0, vi0, vs0⟩, of0, nm0, tb0, cl0⟩, A0, n0, c0, l0⟩ := t
  unfold HVal Tm.agg TmH.agg at HT
  simp only [Tm.h, Tm.A, Tm.n, Tm.c] at HT
  obtain ⟨y, hy⟩ : ∃ y, x.getD zV = y := ⟨_, rfl⟩
  have HX : Hid (cmpO op x o = if x.isSome = true then (match o with | some u => testV op y u | none => 2) else 2) := Lib.hid (by cases x <;> cases o <;> simp_all [cmpO])
  have HD := fun u => Lib.hid fun W => test_any op y u W
  rw [hy]
  obtain ⟨b, hb⟩ : ∃ b, x.isSome = b := ⟨_, rfl⟩
  rw [hb] at HX ⊢
  clear hy hb
  obtain ⟨yk, yi, ys⟩ := y
  have hb0 : Below w.heap.size w ((w.alloc (.cells #[.int .u8 yk, .int .i64 yi, .string ys] 23)).alloc (.cells #[.int .u8 k0, .string op0, .bool no0, .int .u8 vk0, .int .i64 vi0, .string vs0, .string of0, .string nm0, .int .i64 tb0, .int .i64 cl0, .slice A0 n0 c0] 26)) := ball (ball (Below.refl _ _) _) _
  simp only [Tm.agg, TmH.agg, Tm.h, Tm.A, Tm.n, Tm.c]
  generalize cmpO op x o = r at *
  cases o with
  | none =>
    have hr : r = 2 := by rw [HX.out]; split <;> rfl
    subst hr
    clear HD HX
    cases b
    all_goals
      go_enter Try.func65, Try.ntmps65
      go_wp2_with fail
      refine (HT.out _ hb0).mono ?_
      rintro e w1 ⟨rfl, hb1⟩
      unfold retO
      go_wp2_with fail
      go_ret
      exact ⟨rfl, (bto0 hb0 (ball hb1 _))⟩
  | some v =>
    obtain ⟨vk, vi, vs⟩ := v
    cases b
    · have hr : r = 2 := HX.out
      subst hr
      clear HD HX
      go_enter Try.func65, Try.ntmps65
      go_wp2_with fail
      refine (HT.out _ hb0).mono ?_
      rintro e w1 ⟨rfl, hb1⟩
      simp only [retO, Option.getD, Option.isSome, Vl.agg]
      go_wp2_with fail
      go_ret
      exact ⟨rfl, (bto0 hb0 (ball hb1 _))⟩
    · have hr : r = testV op ⟨yk, yi, ys⟩ ⟨vk, vi, vs⟩ := HX.out
      have HC := Lib.hid (HD ⟨vk, vi, vs⟩).out
      rw [← hr] at HC
      clear HD HX hr
      go_enter Try.func65, Try.ntmps65
      go_wp2_with fail
      refine (HT.out _ hb0).mono ?_
      rintro e w1 ⟨rfl, hb1⟩
      simp only [retO, Option.getD, Option.isSome, Vl.agg]
      have HX : Blk w1 (w.heap.size) 23 #[.int .u8 yk, .int .i64 yi, .string ys] := blkOf hb1 (by (try simp) <;> omega) (by with_reducible repeat (first | exact Blk.newAt (by simp) | refine Blk.drew ?_ | refine Blk.alloc ?_ _))
      have HX_0 : (w1).cell? ⟨w.heap.size, 0, none⟩ = some (.int .u8 yk) := HX.cell 0
      have HX_1 : (w1).cell? ⟨w.heap.size, 1, none⟩ = some (.int .i64 yi) := HX.cell 1
      have HX_2 : (w1).cell? ⟨w.heap.size, 2, none⟩ = some (.string ys) := HX.cell 2
      have hz := HX.lt
      go_wp2_with fail
      refine (HC.out _).mono ?_
      rintro e w2 ⟨rfl, hb2⟩
      go_wp2_with fail
      go_ret
      exact ⟨rfl, bto0 (bto0 hb0 (ball hb1 _)) hb2⟩
end
end Go.Proofs.Ytilopgfpifhccaa
/-
  The program's truths, among.
-/
namespace Go.Proofs.Ytilopgfpifhccaa
section
set_option linter.unusedSimpArgs false
set_option linter.unusedVariables false
open Go.RowKit

theorem Try.infoTruth18 : (Try.prog.info? 38).map (fun i => (i.zero, i.size, i.bytes)) = some (some (.int .u8 0), 1, 1) := by kernel_rfl
theorem own_below18 {w w' : World} {base : Nat} {e : TypeId} {size n : Nat} {v : Value} {xs : List Value} (h : w.ownsRow base e size v n xs) (hb : Below w.heap.size w w') : w'.ownsRow base e size v n xs :=
  World.ownsRow.kept h (row := none) ⟨hb.os, hb.tape, hb.output, hb.size, fun i hi _ => hb.block i hi⟩ (by cases h' : v.ownBlock <;> simp)
/-- A new row of truths. -/
def RetT (w : World) (xs : List Int) (e : Ending) (w' : World) : Prop := ∃ A c, e = .returned (.slice A xs.length c) ∧ Reads w' w'.heap.size 1 A xs.length (vU8 xs) ∧ Below w.heap.size w w'

set_option maxRecDepth 100000 in
set_option maxHeartbeats 8000000 in
theorem truths18_any (O : Nat) (ev : Tm → Option Vl) (A : Option Addr) (n c : Nat) (l : List Tm) (w : World) (hrd : Reads w w.heap.size 11 A n (vT l)) (hn : n ≤ 1000) (hv : ∀ t ∈ l, HVal w O t (ev t)) :
    Calls Try.prog 32 #[.pointer (some ⟨O, 0, none⟩), .slice A n c] w (RetT w (l.map fun t => truO (ev t))) := by
  obtain ⟨i0, hi0, hz0, hs0, hy0⟩ := int_info8 Try.infoTruth18
  have hl : l.length = n := by have := hrd.1; rw [vT_len] at this; omega
  have HV := Lib.hid hv
  have Hl := Lib.hid hl
  obtain ⟨g, hg⟩ : ∃ g : Tm → Int, g = fun t => truO (ev t) := ⟨_, rfl⟩
  have hg2 : ∀ t, truO (ev t) = g t := fun t => by rw [hg]
  have HG := Lib.hid hg2
  rw [← hg]
  have hnI : (n : Int) ≤ 1000 := by omega
  clear hv hl hg hg2
  go_enter Try.func32, Try.ntmps32
  go_wp2_with fail
  go_loopw [5, 10] (fun v i wr => ∃ k : Nat, k ≤ n ∧ i = .int .i64 k ∧ wr.ownsRow w.heap.size 38 1 v k (vU8 ((l.take k).map g)) ∧ Below w.heap.size w wr) (fun _ i _ => n - (intOf i).toNat)
  case atStart => exact ⟨0, Nat.zero_le _, rfl, ⟨by simp [vU8], .inl ⟨rfl, rfl⟩⟩, Below.refl _ _⟩
  case round =>
    obtain ⟨k, hk, rfl, hown, hbw⟩ := hrel
    have hbz := hbw.size
    have q0 : (0 : Int) ≤ (k : Int) := by omega
    by_cases hlt : k < n
    · have q1 : (k : Int) < (n : Int) := by omega
      obtain ⟨ad, t, rfl, hab, ht, hat⟩ := (hrd.below hbw).tm hlt
      have HC := Lib.hid fun W (hb : Below wr.heap.size wr W) => truth18_any O t (ev t) W ((HV.out t (List.mem_of_getElem? ht)).up (bto0 hbw hb))
      have Hs := Lib.hid (map_take_succ g l k t ht)
      rw [HG.out t] at HC
      obtain ⟨x, hx⟩ : ∃ x, g t = x := ⟨_, rfl⟩
      rw [hx] at Hs HC
      have H1 : ∀ u ∈ [Value.int .u8 x], u.oneCell' = true := by simp [Value.oneCell']
      clear ht hx
      obtain ⟨⟨k1, op1, no1, ⟨vk1, vi1, vs1⟩, of1, nm1, tb1, cl1⟩, A1, n1, c1, l1⟩ := t
      obtain ⟨y0, y1, y2, y3, y4, y5, y6, y7, y8, y9, y10⟩ := hat
      simp only [Tm.agg, TmH.agg, Tm.h, Tm.A, Tm.n, Tm.c] at HC y0 y1 y2 y3 y4 y5 y6 y7 y8 y9 y10
      clear hrd
      go_wp2_with fail
      refine (HC.out _ (ball (Below.refl _ _) _)).mono ?_
      rintro e w1 ⟨rfl, hb1⟩
      have hbx : Below wr.heap.size wr w1 := bto0 (ball (Below.refl _ _) _) hb1
      have hown1 := own_below18 hown hbx
      have hb2 := bto0 hbw hbx
      have hz2 := hb2.size
      go_wp2_with (at_builtin; refine wpList_push rfl _ _ 62 rfl w.heap.size 38 i0 (.int .u8 0) 1 1 Try.underlying62 hi0 hz0 hs0 hy0 rfl (by decide) u5 k _ rfl hown1 rfl rfl rfl H1 (by omega) (by omega) hz2 ?_; intro v4 w4 hown4 hbb4)
      go_roundw
      case rel => exact ⟨k + 1, by omega, by go_num, by rw [Hs.out]; simpa [vU8] using hown4, hbb4 _ _ (Nat.le_refl _) hb2⟩
      case measure => simp [intOf]; omega
    · obtain rfl : k = n := by omega
      have H : Hid (List.take k l = l) := Lib.hid (List.take_of_length_le (by rw [Hl.out]; omega))
      obtain ⟨A1, c1, rfl, hc1⟩ := own_form hown
      rw [H.out] at hown
      have hrn := Reads.of_own hown
      go_wp2
      go_ret
      exact ⟨A1, c1, by rw [List.length_map, Hl.out]; rfl, by rw [List.length_map, Hl.out]; exact hrn, hbw⟩

set_option maxRecDepth 100000 in
set_option maxHeartbeats 8000000 in
theorem among18_any (O : Nat) (ev : Tm → Option Vl) (t0 : Tm) (A : Option Addr) (n c : Nat) (l : List Tm) (w : World) (h0 : HVal w O t0 (ev t0)) (hrd : Reads w w.heap.size 11 A n (vT l)) (hn : n ≤ 1000) (hv : ∀ t ∈ l, HVal w O t (ev t)) :
    Calls Try.prog 53 #[.pointer (some ⟨O, 0, none⟩), t0.agg, .slice A n c] w (RetB w (.int .u8 (orL ((l.map ev).map (cmpO ⟨#[61]⟩ (ev t0)))))) := by
  obtain ⟨i0, hi0, hz0, hs0, hy0⟩ := int_info8 Try.infoTruth18
  have hl : l.length = n := by have := hrd.1; rw [vT_len] at this; omega
  have HV := Lib.hid hv
  have H0 := Lib.hid h0
  have Hl := Lib.hid hl
  have CM := Lib.hid fun (t : Tm) (W : World) (ht : t ∈ l) (hb : Below w.heap.size w W) => compared_any O ⟨#[61]⟩ (ev t0) t (ev t) W ((hv t ht).up hb)
  obtain ⟨g, hg⟩ : ∃ g : Tm → Int, g = fun t => cmpO ⟨#[61]⟩ (ev t0) (ev t) := ⟨_, rfl⟩
  have hg2 : ∀ t, cmpO ⟨#[61]⟩ (ev t0) (ev t) = g t := fun t => by rw [hg]
  have e : (l.map ev).map (cmpO ⟨#[61]⟩ (ev t0)) = l.map g := by rw [List.map_map]; exact List.map_congr_left fun t _ => hg2 t
  have HG := Lib.hid hg2
  rw [e]
  have hnI : (n : Int) ≤ 1000 := by omega
  clear hv hl hg hg2 h0 e
  generalize ev t0 = x at *
  obtain ⟨y, hy⟩ : ∃ y, x.getD zV = y := ⟨_, rfl⟩
  obtain ⟨b, hb⟩ : ∃ b, x.isSome = b := ⟨_, rfl⟩
  unfold HVal retO at H0
  rw [hy, hb] at CM H0
  obtain ⟨yk, yi, ys⟩ := y
  obtain ⟨⟨k0, op0, no0, ⟨vk0, vi0, vs0⟩, of0, nm0, tb0, cl0⟩, A0, n0, c0, l0⟩ := t0
  have hb0 : Below w.heap.size w (w.alloc (.cells #[.int .u8 k0, .string op0, .bool no0, .int .u8 vk0, .int .i64 vi0, .string vs0, .string of0, .string nm0, .int .i64 tb0, .int .i64 cl0, .slice A0 n0 c0] 26)) := ball (Below.refl _ _) _
  simp only [Tm.agg, TmH.agg, Tm.h, Tm.A, Tm.n, Tm.c, Vl.agg] at H0 CM ⊢
  clear hy hb
  go_enter Try.func53, Try.ntmps53
  go_wp2_with fail
  refine (H0.out _ hb0).mono ?_
  rintro e w1 ⟨rfl, hb1⟩
  have hbw1 := bto0 hb0 hb1
  go_wp2_with fail
  obtain ⟨W1, hW1⟩ : ∃ W1, w1.alloc (.cells #[.int .u8 yk, .int .i64 yi, .string ys] 23) = W1 := ⟨_, rfl⟩
  have hB : Blk W1 w1.heap.size 23 #[.int .u8 yk, .int .i64 yi, .string ys] := by rw [← hW1]; exact Blk.new _ _ _
  have hT : Blk W1 w.heap.size 26 #[.int .u8 k0, .string op0, .bool no0, .int .u8 vk0, .int .i64 vi0, .string vs0, .string of0, .string nm0, .int .i64 tb0, .int .i64 cl0, .slice A0 n0 c0] := by rw [← hW1]; exact Blk.alloc (blkOf hb1 (by simp) (Blk.new _ _ _)) _
  have hbW1 : Below w.heap.size w W1 := by rw [← hW1]; exact ball hbw1 _
  rw [hW1]
  clear hW1 hbw1 hb0 H0
  go_loopw [9, 20] (fun v i wr => ∃ k : Nat, k ≤ n ∧ i = .int .i64 k ∧ wr.ownsRow W1.heap.size 38 1 v k (vU8 ((l.take k).map g)) ∧ Below W1.heap.size W1 wr) (fun _ i _ => n - (intOf i).toNat)
  case atStart => exact ⟨0, Nat.zero_le _, rfl, ⟨by simp [vU8], .inl ⟨rfl, rfl⟩⟩, Below.refl _ _⟩
  case round =>
    obtain ⟨k, hk, rfl, hown, hbw⟩ := hrel
    have hbz := hbw.size
    have q0 : (0 : Int) ≤ (k : Int) := by omega
    have hbk := bto0 hbW1 hbw
    by_cases hlt : k < n
    · have q1 : (k : Int) < (n : Int) := by omega
      obtain ⟨ad, t, rfl, hab, ht, hat⟩ := (hrd.below hbk).tm hlt
      have HC := Lib.hid fun W (hb : Below wr.heap.size wr W) => CM.out t W (List.mem_of_getElem? ht) (bto0 hbk hb)
      have Hs := Lib.hid (map_take_succ g l k t ht)
      rw [HG.out t] at HC
      obtain ⟨x, hx⟩ : ∃ x, g t = x := ⟨_, rfl⟩
      rw [hx] at Hs HC
      have H1 : ∀ u ∈ [Value.int .u8 x], u.oneCell' = true := by simp [Value.oneCell']
      have HX : Blk wr w1.heap.size 23 #[.int .u8 yk, .int .i64 yi, .string ys] := blkOf hbw hB.lt hB
      have HX_0 : (wr).cell? ⟨w1.heap.size, 0, none⟩ = some (.int .u8 yk) := HX.cell 0
      have HX_1 : (wr).cell? ⟨w1.heap.size, 1, none⟩ = some (.int .i64 yi) := HX.cell 1
      have HX_2 : (wr).cell? ⟨w1.heap.size, 2, none⟩ = some (.string ys) := HX.cell 2
      have hz := HX.lt
      clear ht hx
      obtain ⟨⟨k1, op1, no1, ⟨vk1, vi1, vs1⟩, of1, nm1, tb1, cl1⟩, A1, n1, c1, l1⟩ := t
      obtain ⟨y0, y1, y2, y3, y4, y5, y6, y7, y8, y9, y10⟩ := hat
      simp only [Tm.agg, TmH.agg, Tm.h, Tm.A, Tm.n, Tm.c] at HC y0 y1 y2 y3 y4 y5 y6 y7 y8 y9 y10
      clear hrd
      go_wp2_with fail
      refine (HC.out _ (ball (Below.refl _ _) _)).mono ?_
      rintro e w2 ⟨rfl, hb2⟩
      have hbx : Below wr.heap.size wr w2 := bto0 (ball (Below.refl _ _) _) hb2
      have hown1 := own_below18 hown hbx
      have hb3 := bto0 hbw hbx
      have hz2 := hb3.size
      go_wp2_with (at_builtin; refine wpList_push rfl _ _ 62 rfl W1.heap.size 38 i0 (.int .u8 0) 1 1 Try.underlying62 hi0 hz0 hs0 hy0 rfl (by decide) u9 k _ rfl hown1 rfl rfl rfl H1 (by omega) (by omega) hz2 ?_; intro v4 w4 hown4 hbb4)
      go_roundw
      case rel => exact ⟨k + 1, by omega, by go_num, by rw [Hs.out]; simpa [vU8] using hown4, hbb4 _ _ (Nat.le_refl _) hb3⟩
      case measure => simp [intOf]; omega
    · obtain rfl : k = n := by omega
      have H : Hid (List.take k l = l) := Lib.hid (List.take_of_length_le (by rw [Hl.out]; omega))
      obtain ⟨A1, c1, rfl, hc1⟩ := own_form hown
      rw [H.out] at hown
      have hrn := Reads.of_own hown
      have HO := Lib.hid (or_any A1 k c1 (l.map g) wr wr.heap.size hrn (by omega))
      clear hown hrd hrn
      go_wp2_with fail
      refine HO.out.mono ?_
      rintro e w2 ⟨rfl, rfl⟩
      go_wp2_with fail
      go_ret
      exact ⟨rfl, hbk⟩
end
end Go.Proofs.Ytilopgfpifhccaa
/-
  The program's number: one argument, two arguments.
-/
namespace Go.Proofs.Ytilopgfpifhccaa
section
set_option linter.unusedSimpArgs false
set_option linter.unusedVariables false
open Go.RowKit

/-- The first and the second argument, as they are read. -/
theorem arg0 {w : World} {B : Nat} {A : Option Addr} {n : Nat} {a : Tm} {l : List Tm} (hr : Reads w B 11 A n (vT (a :: l))) : ∃ ad, A = some ad ∧ ad.block < B ∧ AtT w ad a := by
  have hn : 0 < n := by have := hr.1; rw [vT_len] at this; simp at this; omega
  obtain ⟨ad, v, hA, hb, hv, hat⟩ := hr.tm hn
  simp only [List.getElem?_cons_zero, Option.some.injEq] at hv
  subst hv
  exact ⟨ad, hA, hb, by simpa [Addr.add] using hat⟩
theorem arg1 {w : World} {B : Nat} {ad : Addr} {n : Nat} {a b : Tm} {l : List Tm} (hr : Reads w B 11 (some ad) n (vT (a :: b :: l))) : AtT w ⟨ad.block, ad.off + 11, none⟩ b := by
  have hn : 1 < n := by have := hr.1; rw [vT_len] at this; simp at this; omega
  obtain ⟨ad, v, hA, hb, hv, hat⟩ := hr.tm hn
  simp only [List.getElem?_cons_succ, List.getElem?_cons_zero, Option.some.injEq] at hv
  subst hv
  injection hA with hA
  subst hA
  simpa [Addr.add] using hat
theorem blk3 {w : World} {g : Nat} {a0 a1 a2 v0 v1 v2 : Value} {t : TypeId} (h : Blk w g t #[a0, a1, a2]) : Blk (((w.setCell ⟨g, 0, none⟩ v0).setCell ⟨g, 1, none⟩ v1).setCell ⟨g, 2, none⟩ v2) g t #[v0, v1, v2] := by
  have T := ((h.set_ 0 v0).set_ 1 v1).set_ 2 v2
  simp only [List.setIfInBounds_toArray, List.set_cons_zero, List.set_cons_succ] at T
  exact T
theorem num_end {W : World} {R : Nat} {tm : Array Value} {Q : Ending → World → Prop} {o : Option Vl} (hR : Blk W R 23 #[.int .u8 (o.getD zV).k, .int .i64 (o.getD zV).i, .string (o.getD zV).s])
    (h4 : tm[4]? = some (.pointer (some ⟨R, 0, none⟩))) (h5 : tm[5]? = some (.bool o.isSome)) (h : Q (.returned (retO o)) W) :
    bodyPost Try.prog Try.f51 Q Exit.ret { tmps := tm, defers := [] } W := by
  have q0 : W.cell? ⟨R, 0, none⟩ = _ := hR.cell 0
  have q1 : W.cell? ⟨R, 1, none⟩ = _ := hR.cell 1
  have q2 : W.cell? ⟨R, 2, none⟩ = _ := hR.cell 2
  exact bodyPost_ret (v := retO o) (by simp [results, Try.results51, go_sem, h4, h5, q0, q1, q2, retO, Vl.agg]) rfl h

set_option maxRecDepth 100000 in
set_option maxHeartbeats 8000000 in
theorem number1_any (O : Nat) (a : Tm) (o : Option Vl) (h : TmH) (A0 : Option Addr) (n0 c0 : Nat) (w : World) (hrd : Reads w w.heap.size 11 A0 n0 (vT [a])) (ha : HVal w O a o) (hok : okO o) (hk : h.k = 3) :
    Calls Try.prog 51 #[.pointer (some ⟨O, 0, none⟩), h.agg A0 n0 c0] w (RetB w (retO (o.bind turnO))) := by
  have hn : n0 = 1 := by have := hrd.1; rw [vT_len] at this; simp at this; omega
  subst hn
  obtain ⟨k0, op0, no0, ⟨vk0, vi0, vs0⟩, of0, nm0, tb0, cl0⟩ := h
  simp only at hk
  subst hk
  have HA := Lib.hid ha
  have hb0 : Below w.heap.size w ((w.alloc (.cells #[.int .u8 3, .string op0, .bool no0, .int .u8 vk0, .int .i64 vi0, .string vs0, .string of0, .string nm0, .int .i64 tb0, .int .i64 cl0, .slice A0 1 c0] 26)).alloc (.cells #[.int .u8 0, .int .i64 0, .string ⟨#[]⟩] 23)) := ball (ball (Below.refl _ _) _) _
  obtain ⟨ad, rfl, hab, hat⟩ := arg0 (hrd.below hb0)
  obtain ⟨⟨k1, op1, no1, ⟨vk1, vi1, vs1⟩, of1, nm1, tb1, cl1⟩, A1, n1, c1, l1⟩ := a
  obtain ⟨y0, y1, y2, y3, y4, y5, y6, y7, y8, y9, y10⟩ := hat
  unfold HVal at HA
  simp only [Tm.agg, TmH.agg, Tm.h, Tm.A, Tm.n, Tm.c] at HA y0 y1 y2 y3 y4 y5 y6 y7 y8 y9 y10 ⊢
  have HT := fun (v : Vl) (h : o = some v) => Lib.hid fun W => turned_any v W (hok v h).1
  clear ha hrd
  go_enter Try.func51, Try.ntmps51
  go_wp2_with fail
  refine (HA.out _ hb0).mono ?_
  rintro e w1 ⟨rfl, hb1⟩
  have hbw := bto0 hb0 hb1
  have hB : Blk w1 (w.heap.size + 1) 23 #[.int .u8 0, .int .i64 0, .string ⟨#[]⟩] := blkOf hb1 (by simp) (Blk.newAt (by simp))
  have hC : Blk w1 w.heap.size 26 #[.int .u8 3, .string op0, .bool no0, .int .u8 vk0, .int .i64 vi0, .string vs0, .string of0, .string nm0, .int .i64 tb0, .int .i64 cl0, .slice (some ad) 1 c0] := blkOf hb1 (by simp; omega) (Blk.alloc (Blk.new _ _ _) _)
  have hB_0 : (w1).cell? ⟨w.heap.size + 1, 0, none⟩ = some (.int .u8 0) := hB.cell 0
  have hB_1 : (w1).cell? ⟨w.heap.size + 1, 1, none⟩ = some (.int .i64 0) := hB.cell 1
  have hB_2 : (w1).cell? ⟨w.heap.size + 1, 2, none⟩ = some (.string ⟨#[]⟩) := hB.cell 2
  have hC_0 : (w1).cell? ⟨w.heap.size, 0, none⟩ = some (.int .u8 3) := hC.cell 0
  have hC_1 : (w1).cell? ⟨w.heap.size, 1, none⟩ = some (.string op0) := hC.cell 1
  have hC_2 : (w1).cell? ⟨w.heap.size, 2, none⟩ = some (.bool no0) := hC.cell 2
  have hC_3 : (w1).cell? ⟨w.heap.size, 3, none⟩ = some (.int .u8 vk0) := hC.cell 3
  have hC_4 : (w1).cell? ⟨w.heap.size, 4, none⟩ = some (.int .i64 vi0) := hC.cell 4
  have hC_5 : (w1).cell? ⟨w.heap.size, 5, none⟩ = some (.string vs0) := hC.cell 5
  have hC_6 : (w1).cell? ⟨w.heap.size, 6, none⟩ = some (.string of0) := hC.cell 6
  have hC_7 : (w1).cell? ⟨w.heap.size, 7, none⟩ = some (.string nm0) := hC.cell 7
  have hC_8 : (w1).cell? ⟨w.heap.size, 8, none⟩ = some (.int .i64 tb0) := hC.cell 8
  have hC_9 : (w1).cell? ⟨w.heap.size, 9, none⟩ = some (.int .i64 cl0) := hC.cell 9
  have hC_10 : (w1).cell? ⟨w.heap.size, 10, none⟩ = some (.slice (some ad) 1 c0) := hC.cell 10
  have hz := hB.lt
  have hy := hC.lt
  have f0 := hB.frozen 0
  have f1 := hB.frozen 1
  have f2 := hB.frozen 2
  cases o with
  | none =>
    simp only [retO, Option.getD, Option.isSome, zV, Vl.agg, Option.bind]
    clear HT
    go_wp2_with fail
    exact num_end (R := w.heap.size + 1) (o := none) (by (with_reducible repeat (first | refine Blk.alloc ?_ _ | refine Blk.drew ?_)); exact blk3 hB) (by simp) (by simp) ⟨rfl, by with_reducible repeat (first | exact Below.refl _ _ | exact hbw | exact hbw2 | exact hbw3 | refine ball ?_ _ | refine bset ?_ (Nat.le_add_right _ _) _ | refine Below.drew ?_)⟩
  | some v =>
    have HTv := HT v rfl
    clear HT
    have e : (some v).bind turnO = turnO v := rfl
    rw [e]
    obtain ⟨vk, vi, vs⟩ := v
    simp only [retO, Option.getD, Option.isSome, Vl.agg] at HTv ⊢
    generalize turnO ⟨vk, vi, vs⟩ = q at *
    clear hok
    go_wp2_with fail
    refine (HTv.out _).mono ?_
    rintro e w2 ⟨rfl, hb2⟩
    have hbw2 := bto0 (ball hbw _) hb2
    have hBB : Blk w2 (w.heap.size + 1) 23 #[.int .u8 0, .int .i64 0, .string ⟨#[]⟩] := blkOf hb2 (by have := hB.lt; simp; omega) (Blk.alloc hB _)
    have hCB : Blk w2 w.heap.size 26 #[.int .u8 3, .string op0, .bool no0, .int .u8 vk0, .int .i64 vi0, .string vs0, .string of0, .string nm0, .int .i64 tb0, .int .i64 cl0, .slice (some ad) 1 c0] := blkOf hb2 (by have := hC.lt; simp; omega) (Blk.alloc hC _)
    have hBB_0 : (w2).cell? ⟨w.heap.size + 1, 0, none⟩ = some (.int .u8 0) := hBB.cell 0
    have hBB_1 : (w2).cell? ⟨w.heap.size + 1, 1, none⟩ = some (.int .i64 0) := hBB.cell 1
    have hBB_2 : (w2).cell? ⟨w.heap.size + 1, 2, none⟩ = some (.string ⟨#[]⟩) := hBB.cell 2
    have hCB_0 : (w2).cell? ⟨w.heap.size, 0, none⟩ = some (.int .u8 3) := hCB.cell 0
    have hCB_1 : (w2).cell? ⟨w.heap.size, 1, none⟩ = some (.string op0) := hCB.cell 1
    have hCB_2 : (w2).cell? ⟨w.heap.size, 2, none⟩ = some (.bool no0) := hCB.cell 2
    have hCB_3 : (w2).cell? ⟨w.heap.size, 3, none⟩ = some (.int .u8 vk0) := hCB.cell 3
    have hCB_4 : (w2).cell? ⟨w.heap.size, 4, none⟩ = some (.int .i64 vi0) := hCB.cell 4
    have hCB_5 : (w2).cell? ⟨w.heap.size, 5, none⟩ = some (.string vs0) := hCB.cell 5
    have hCB_6 : (w2).cell? ⟨w.heap.size, 6, none⟩ = some (.string of0) := hCB.cell 6
    have hCB_7 : (w2).cell? ⟨w.heap.size, 7, none⟩ = some (.string nm0) := hCB.cell 7
    have hCB_8 : (w2).cell? ⟨w.heap.size, 8, none⟩ = some (.int .i64 tb0) := hCB.cell 8
    have hCB_9 : (w2).cell? ⟨w.heap.size, 9, none⟩ = some (.int .i64 cl0) := hCB.cell 9
    have hCB_10 : (w2).cell? ⟨w.heap.size, 10, none⟩ = some (.slice (some ad) 1 c0) := hCB.cell 10
    have hzB := hBB.lt
    have hyB := hCB.lt
    have f0B := hBB.frozen 0
    have f1B := hBB.frozen 1
    have f2B := hBB.frozen 2
    cases q with
    | none =>
      simp only [retO, Option.getD, Option.isSome, zV, Vl.agg]
      go_wp2_with fail
      exact num_end (R := w.heap.size + 1) (o := none) (by (with_reducible repeat (first | refine Blk.alloc ?_ _ | refine Blk.drew ?_)); exact blk3 hBB) (by simp) (by simp) ⟨rfl, by with_reducible repeat (first | exact Below.refl _ _ | exact hbw | exact hbw2 | exact hbw3 | refine ball ?_ _ | refine bset ?_ (Nat.le_add_right _ _) _ | refine Below.drew ?_)⟩
    | some u =>
      obtain ⟨uk, ui, us⟩ := u
      simp only [retO, Option.getD, Option.isSome, Vl.agg]
      go_wp2_with fail
      exact num_end (R := w.heap.size + 1) (o := (some ⟨uk, ui, us⟩)) (by (with_reducible repeat (first | refine Blk.alloc ?_ _ | refine Blk.drew ?_)); exact blk3 hBB) (by simp) (by simp) ⟨rfl, by with_reducible repeat (first | exact Below.refl _ _ | exact hbw | exact hbw2 | exact hbw3 | refine ball ?_ _ | refine bset ?_ (Nat.le_add_right _ _) _ | refine Below.drew ?_)⟩

theorem retDo (o : List UInt8) (a b : Vl) : retO (doO o a b) = .tuple #[(doV o a b).1.agg, .bool (doV o a b).2] := by
  have h : (doV o a b).2 = false → (doV o a b).1 = zV := by
    unfold doV
    split
    · intro _; rfl
    · split
      · intro _; rfl
      · split
        · intro h; cases h
        · intro _; rfl
  unfold doO retO
  cases hq : (doV o a b).2 with
  | false => rw [h hq]; rfl
  | true => rfl
/-- What number makes of two values. -/
def numO (op : List UInt8) (a b : Option Vl) : Option Vl := match a, b with
  | some x, some y => doO op x y
  | _, _ => none
set_option maxRecDepth 100000 in
set_option maxHeartbeats 8000000 in
theorem number2_any (O : Nat) (a b : Tm) (o p : Option Vl) (h : TmH) (A0 : Option Addr) (n0 c0 : Nat) (w : World) (hrd : Reads w w.heap.size 11 A0 n0 (vT [a, b])) (ha : HVal w O a o) (hb : HVal w O b p) (hok : okO o) (hpk : okO p) (hk : h.k = 4) :
    Calls Try.prog 51 #[.pointer (some ⟨O, 0, none⟩), h.agg A0 n0 c0] w (RetB w (retO (numO h.op.toList o p))) := by
  have hn : n0 = 2 := by have := hrd.1; rw [vT_len] at this; simp at this; omega
  subst hn
  obtain ⟨k0, op0, no0, ⟨vk0, vi0, vs0⟩, of0, nm0, tb0, cl0⟩ := h
  simp only at hk
  subst hk
  have HA := Lib.hid ha
  have HB := Lib.hid hb
  have hb0 : Below w.heap.size w ((w.alloc (.cells #[.int .u8 4, .string op0, .bool no0, .int .u8 vk0, .int .i64 vi0, .string vs0, .string of0, .string nm0, .int .i64 tb0, .int .i64 cl0, .slice A0 2 c0] 26)).alloc (.cells #[.int .u8 0, .int .i64 0, .string ⟨#[]⟩] 23)) := ball (ball (Below.refl _ _) _) _
  obtain ⟨ad, rfl, hab, hat⟩ := arg0 (hrd.below hb0)
  have HRD := Lib.hid hrd
  obtain ⟨⟨k1, op1, no1, ⟨vk1, vi1, vs1⟩, of1, nm1, tb1, cl1⟩, A1, n1, c1, l1⟩ := a
  obtain ⟨y0, y1, y2, y3, y4, y5, y6, y7, y8, y9, y10⟩ := hat
  unfold HVal at HA
  simp only [Tm.agg, TmH.agg, Tm.h, Tm.A, Tm.n, Tm.c] at HA y0 y1 y2 y3 y4 y5 y6 y7 y8 y9 y10 ⊢
  have HT := fun (u v : Vl) (h : o = some u) (h2 : p = some v) => Lib.hid fun W => cdo_any op0 u v (hok u h).1 (hpk v h2).1 W
  clear ha hb hrd hok hpk
  go_enter Try.func51, Try.ntmps51
  go_wp2_with fail
  refine (HA.out _ hb0).mono ?_
  rintro e w1 ⟨rfl, hb1⟩
  have hbw := bto0 hb0 hb1
  have hB : Blk w1 (w.heap.size + 1) 23 #[.int .u8 0, .int .i64 0, .string ⟨#[]⟩] := blkOf hb1 (by simp) (Blk.newAt (by simp))
  have hC : Blk w1 w.heap.size 26 #[.int .u8 4, .string op0, .bool no0, .int .u8 vk0, .int .i64 vi0, .string vs0, .string of0, .string nm0, .int .i64 tb0, .int .i64 cl0, .slice (some ad) 2 c0] := blkOf hb1 (by simp; omega) (Blk.alloc (Blk.new _ _ _) _)
  have hB_0 : (w1).cell? ⟨w.heap.size + 1, 0, none⟩ = some (.int .u8 0) := hB.cell 0
  have hB_1 : (w1).cell? ⟨w.heap.size + 1, 1, none⟩ = some (.int .i64 0) := hB.cell 1
  have hB_2 : (w1).cell? ⟨w.heap.size + 1, 2, none⟩ = some (.string ⟨#[]⟩) := hB.cell 2
  have hC_0 : (w1).cell? ⟨w.heap.size, 0, none⟩ = some (.int .u8 4) := hC.cell 0
  have hC_1 : (w1).cell? ⟨w.heap.size, 1, none⟩ = some (.string op0) := hC.cell 1
  have hC_2 : (w1).cell? ⟨w.heap.size, 2, none⟩ = some (.bool no0) := hC.cell 2
  have hC_3 : (w1).cell? ⟨w.heap.size, 3, none⟩ = some (.int .u8 vk0) := hC.cell 3
  have hC_4 : (w1).cell? ⟨w.heap.size, 4, none⟩ = some (.int .i64 vi0) := hC.cell 4
  have hC_5 : (w1).cell? ⟨w.heap.size, 5, none⟩ = some (.string vs0) := hC.cell 5
  have hC_6 : (w1).cell? ⟨w.heap.size, 6, none⟩ = some (.string of0) := hC.cell 6
  have hC_7 : (w1).cell? ⟨w.heap.size, 7, none⟩ = some (.string nm0) := hC.cell 7
  have hC_8 : (w1).cell? ⟨w.heap.size, 8, none⟩ = some (.int .i64 tb0) := hC.cell 8
  have hC_9 : (w1).cell? ⟨w.heap.size, 9, none⟩ = some (.int .i64 cl0) := hC.cell 9
  have hC_10 : (w1).cell? ⟨w.heap.size, 10, none⟩ = some (.slice (some ad) 2 c0) := hC.cell 10
  have hz := hB.lt
  have hy := hC.lt
  have f0 := hB.frozen 0
  have f1 := hB.frozen 1
  have f2 := hB.frozen 2
  cases o with
  | none =>
    have e : numO op0.toList none p = none := by cases p <;> rfl
    rw [e]
    simp only [retO, Option.getD, Option.isSome, zV, Vl.agg]
    clear HT
    go_wp2_with fail
    exact num_end (R := w.heap.size + 1) (o := none) (by (with_reducible repeat (first | refine Blk.alloc ?_ _ | refine Blk.drew ?_)); exact blk3 hB) (by simp) (by simp) ⟨rfl, by with_reducible repeat (first | exact Below.refl _ _ | exact hbw | exact hbw2 | exact hbw3 | refine ball ?_ _ | refine bset ?_ (Nat.le_add_right _ _) _ | refine Below.drew ?_)⟩
  | some v =>
    have HTv := fun u => HT v u rfl
    clear HT
    obtain ⟨vk, vi, vs⟩ := v
    have hbv : Below w.heap.size w (w1.alloc (.cells #[.int .u8 vk, .int .i64 vi, .string vs] 23)) := ball hbw _
    have hat := arg1 (HRD.out.below hbv)
    obtain ⟨⟨k2, op2, no2, ⟨vk2, vi2, vs2⟩, of2, nm2, tb2, cl2⟩, A2, n2, c2, l2⟩ := b
    obtain ⟨z0, z1, z2, z3, z4, z5, z6, z7, z8, z9, z10⟩ := hat
    unfold HVal at HB
    simp only [Tm.agg, TmH.agg, Tm.h, Tm.A, Tm.n, Tm.c] at HB z0 z1 z2 z3 z4 z5 z6 z7 z8 z9 z10
    simp only [retO, Option.getD, Option.isSome, Vl.agg] at HTv ⊢
    clear HRD
    go_wp2_with fail
    refine (HB.out _ hbv).mono ?_
    rintro e w2 ⟨rfl, hb2⟩
    have hbw2 := bto0 hbv hb2
    have hV : Blk w2 w1.heap.size 23 #[.int .u8 vk, .int .i64 vi, .string vs] := blkOf hb2 (by simp) (Blk.new _ _ _)
    have hV_0 : (w2).cell? ⟨w1.heap.size, 0, none⟩ = some (.int .u8 vk) := hV.cell 0
    have hV_1 : (w2).cell? ⟨w1.heap.size, 1, none⟩ = some (.int .i64 vi) := hV.cell 1
    have hV_2 : (w2).cell? ⟨w1.heap.size, 2, none⟩ = some (.string vs) := hV.cell 2
    have hx := hV.lt
    have hBB : Blk w2 (w.heap.size + 1) 23 #[.int .u8 0, .int .i64 0, .string ⟨#[]⟩] := blkOf hb2 (by have := hB.lt; simp; omega) (Blk.alloc hB _)
    have hCB : Blk w2 w.heap.size 26 #[.int .u8 4, .string op0, .bool no0, .int .u8 vk0, .int .i64 vi0, .string vs0, .string of0, .string nm0, .int .i64 tb0, .int .i64 cl0, .slice (some ad) 2 c0] := blkOf hb2 (by have := hC.lt; simp; omega) (Blk.alloc hC _)
    have hBB_0 : (w2).cell? ⟨w.heap.size + 1, 0, none⟩ = some (.int .u8 0) := hBB.cell 0
    have hBB_1 : (w2).cell? ⟨w.heap.size + 1, 1, none⟩ = some (.int .i64 0) := hBB.cell 1
    have hBB_2 : (w2).cell? ⟨w.heap.size + 1, 2, none⟩ = some (.string ⟨#[]⟩) := hBB.cell 2
    have hCB_0 : (w2).cell? ⟨w.heap.size, 0, none⟩ = some (.int .u8 4) := hCB.cell 0
    have hCB_1 : (w2).cell? ⟨w.heap.size, 1, none⟩ = some (.string op0) := hCB.cell 1
    have hCB_2 : (w2).cell? ⟨w.heap.size, 2, none⟩ = some (.bool no0) := hCB.cell 2
    have hCB_3 : (w2).cell? ⟨w.heap.size, 3, none⟩ = some (.int .u8 vk0) := hCB.cell 3
    have hCB_4 : (w2).cell? ⟨w.heap.size, 4, none⟩ = some (.int .i64 vi0) := hCB.cell 4
    have hCB_5 : (w2).cell? ⟨w.heap.size, 5, none⟩ = some (.string vs0) := hCB.cell 5
    have hCB_6 : (w2).cell? ⟨w.heap.size, 6, none⟩ = some (.string of0) := hCB.cell 6
    have hCB_7 : (w2).cell? ⟨w.heap.size, 7, none⟩ = some (.string nm0) := hCB.cell 7
    have hCB_8 : (w2).cell? ⟨w.heap.size, 8, none⟩ = some (.int .i64 tb0) := hCB.cell 8
    have hCB_9 : (w2).cell? ⟨w.heap.size, 9, none⟩ = some (.int .i64 cl0) := hCB.cell 9
    have hCB_10 : (w2).cell? ⟨w.heap.size, 10, none⟩ = some (.slice (some ad) 2 c0) := hCB.cell 10
    have hzB := hBB.lt
    have hyB := hCB.lt
    have f0B := hBB.frozen 0
    have f1B := hBB.frozen 1
    have f2B := hBB.frozen 2
    cases p with
    | none =>
      have e : numO op0.toList (some ⟨vk, vi, vs⟩) none = none := rfl
      rw [e]
      simp only [retO, Option.getD, Option.isSome, zV, Vl.agg]
      go_wp2_with fail
      exact num_end (R := w.heap.size + 1) (o := none) (by (with_reducible repeat (first | refine Blk.alloc ?_ _ | refine Blk.drew ?_)); exact blk3 hBB) (by simp) (by simp) ⟨rfl, by with_reducible repeat (first | exact Below.refl _ _ | exact hbw | exact hbw2 | exact hbw3 | refine ball ?_ _ | refine bset ?_ (Nat.le_add_right _ _) _ | refine Below.drew ?_)⟩
    | some u =>
      have e : numO op0.toList (some ⟨vk, vi, vs⟩) (some u) = doO op0.toList ⟨vk, vi, vs⟩ u := rfl
      have HTu := HTv u rfl
      rw [← retDo] at HTu
      clear HTv
      obtain ⟨uk, ui, us⟩ := u
      obtain ⟨q, hq⟩ : ∃ q, doO op0.toList ⟨vk, vi, vs⟩ ⟨uk, ui, us⟩ = q := ⟨_, rfl⟩
      rw [hq] at HTu
      have HE := Lib.hid (e.trans hq)
      clear hq e
      simp only [retO, Option.getD, Option.isSome, Vl.agg]
      go_wp2_with fail
      refine (HTu.out _).mono ?_
      rintro e w3 ⟨rfl, hb3⟩
      have hbw3 := bto0 (ball hbw2 _) hb3
      have hBD : Blk w3 (w.heap.size + 1) 23 #[.int .u8 0, .int .i64 0, .string ⟨#[]⟩] := blkOf hb3 (by have := hBB.lt; simp; omega) (Blk.alloc hBB _)
      have hCD : Blk w3 w.heap.size 26 #[.int .u8 4, .string op0, .bool no0, .int .u8 vk0, .int .i64 vi0, .string vs0, .string of0, .string nm0, .int .i64 tb0, .int .i64 cl0, .slice (some ad) 2 c0] := blkOf hb3 (by have := hCB.lt; simp; omega) (Blk.alloc hCB _)
      have hBD_0 : (w3).cell? ⟨w.heap.size + 1, 0, none⟩ = some (.int .u8 0) := hBD.cell 0
      have hBD_1 : (w3).cell? ⟨w.heap.size + 1, 1, none⟩ = some (.int .i64 0) := hBD.cell 1
      have hBD_2 : (w3).cell? ⟨w.heap.size + 1, 2, none⟩ = some (.string ⟨#[]⟩) := hBD.cell 2
      have hCD_0 : (w3).cell? ⟨w.heap.size, 0, none⟩ = some (.int .u8 4) := hCD.cell 0
      have hCD_1 : (w3).cell? ⟨w.heap.size, 1, none⟩ = some (.string op0) := hCD.cell 1
      have hCD_2 : (w3).cell? ⟨w.heap.size, 2, none⟩ = some (.bool no0) := hCD.cell 2
      have hCD_3 : (w3).cell? ⟨w.heap.size, 3, none⟩ = some (.int .u8 vk0) := hCD.cell 3
      have hCD_4 : (w3).cell? ⟨w.heap.size, 4, none⟩ = some (.int .i64 vi0) := hCD.cell 4
      have hCD_5 : (w3).cell? ⟨w.heap.size, 5, none⟩ = some (.string vs0) := hCD.cell 5
      have hCD_6 : (w3).cell? ⟨w.heap.size, 6, none⟩ = some (.string of0) := hCD.cell 6
      have hCD_7 : (w3).cell? ⟨w.heap.size, 7, none⟩ = some (.string nm0) := hCD.cell 7
      have hCD_8 : (w3).cell? ⟨w.heap.size, 8, none⟩ = some (.int .i64 tb0) := hCD.cell 8
      have hCD_9 : (w3).cell? ⟨w.heap.size, 9, none⟩ = some (.int .i64 cl0) := hCD.cell 9
      have hCD_10 : (w3).cell? ⟨w.heap.size, 10, none⟩ = some (.slice (some ad) 2 c0) := hCD.cell 10
      have hzD := hBD.lt
      have hyD := hCD.lt
      have f0D := hBD.frozen 0
      have f1D := hBD.frozen 1
      have f2D := hBD.frozen 2
      cases q with
      | none =>
        simp only [retO, Option.getD, Option.isSome, zV, Vl.agg]
        go_wp2_with fail
        exact num_end (R := w.heap.size + 1) (o := none) (by (with_reducible repeat (first | refine Blk.alloc ?_ _ | refine Blk.drew ?_)); exact blk3 hBD) (by simp) (by simp) ⟨by rw [HE.out], by with_reducible repeat (first | exact Below.refl _ _ | exact hbw | exact hbw2 | exact hbw3 | refine ball ?_ _ | refine bset ?_ (Nat.le_add_right _ _) _ | refine Below.drew ?_)⟩
      | some x =>
        obtain ⟨xk, xi, xs⟩ := x
        simp only [retO, Option.getD, Option.isSome, Vl.agg]
        go_wp2_with fail
        exact num_end (R := w.heap.size + 1) (o := (some ⟨xk, xi, xs⟩)) (by (with_reducible repeat (first | refine Blk.alloc ?_ _ | refine Blk.drew ?_)); exact blk3 hBD) (by simp) (by simp) ⟨by rw [HE.out], by with_reducible repeat (first | exact Below.refl _ _ | exact hbw | exact hbw2 | exact hbw3 | refine ball ?_ _ | refine bset ?_ (Nat.le_add_right _ _) _ | refine Below.drew ?_)⟩
end
end Go.Proofs.Ytilopgfpifhccaa
