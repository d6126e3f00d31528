/-
  Several texts in one: R16 Nj R17 R19.
-/
import Derived.Test.YtilopgfpifhccaaMtl
import Derived.Test.YtilopgfpifhccaaMtf
import Derived.Test.YtilopgfpifhccaaMtg
import Derived.Deep.RegionHeld3
/-
  The reference's at, one.
-/
namespace Go.Proofs.Ytilopgfpifhccaa
section
set_option linter.unusedSimpArgs false
set_option linter.unusedVariables false
open Go.RowKit

set_option maxRecDepth 100000 in
set_option maxHeartbeats 8000000 in
theorem rat_lo (RA : Option Addr) (rn rc : Nat) (i k : Int) (w : World) (h : i < 0) (hrn : rn ≤ maxLen) : Calls Try.prog 22 #[.slice RA rn rc, .int .i64 i, .int .i64 k] w (RetB w (retR none)) := by
  unfold maxLen at hrn
  go_enter Try.func22, Try.ntmps22
  go_wp2_with fail
  exact bodyPost_ret (v := rV ⟨0, 0, ⟨#[]⟩⟩ true) (by simp [results, Try.results22, go_sem]) rfl ⟨rfl, by with_reducible repeat (first | exact Below.refl _ _ | exact hbw | refine ball ?_ _ | refine bdr ?_ _ | refine Below.drew ?_)⟩
set_option maxRecDepth 100000 in
set_option maxHeartbeats 8000000 in
theorem rat_hi (RA : Option Addr) (rn rc : Nat) (i k : Int) (w : World) (h0 : 0 ≤ i) (h : (rn : Int) ≤ i) (hrn : rn ≤ maxLen) : Calls Try.prog 22 #[.slice RA rn rc, .int .i64 i, .int .i64 k] w (RetB w (retR none)) := by
  unfold maxLen at hrn
  go_enter Try.func22, Try.ntmps22
  go_wp2_with fail
  exact bodyPost_ret (v := rV ⟨0, 0, ⟨#[]⟩⟩ true) (by simp [results, Try.results22, go_sem]) rfl ⟨rfl, by with_reducible repeat (first | exact Below.refl _ _ | exact hbw | refine ball ?_ _ | refine bdr ?_ _ | refine Below.drew ?_)⟩
set_option maxRecDepth 100000 in
set_option maxHeartbeats 8000000 in
theorem rat_clo (ad : Addr) (rn rc T : Nat) (X : Option Addr) (xn xc : Nat) (k : Int) (w : World) (hT : T < rn) (hab : ad.block < w.heap.size) (hX : w.cell? (ad.add T) = some (.slice X xn xc)) (hrn : rn ≤ maxLen) (hxn : xn ≤ maxLen) (h : k < 0) : Calls Try.prog 22 #[.slice (some ad) rn rc, .int .i64 (T : Int), .int .i64 k] w (RetB w (retR none)) := by
  have t0 : (0 : Int) ≤ (T : Int) := by omega
  have t1 : (T : Int) < (rn : Int) := by omega
  have hb0 : Below w.heap.size w (w.alloc (.cells #[.int .u8 0, .int .i64 0, .string ⟨#[]⟩, .bool false] 36)) := ball (Below.refl _ _) _
  have o1 : (w.alloc (.cells #[.int .u8 0, .int .i64 0, .string ⟨#[]⟩, .bool false] 36)).cell? (ad.add T) = some (.slice X xn xc) := (hb0.cell (p := ad.add T) (by rw [block_of_add]; exact hab)).trans hX
  unfold maxLen at hrn hxn
  go_enter Try.func22, Try.ntmps22
  go_wp2_with fail
  exact bodyPost_ret (v := rV ⟨0, 0, ⟨#[]⟩⟩ true) (by simp [results, Try.results22, go_sem]) rfl ⟨rfl, by with_reducible repeat (first | exact Below.refl _ _ | exact hbw | refine ball ?_ _ | refine bdr ?_ _ | refine Below.drew ?_)⟩
set_option maxRecDepth 100000 in
set_option maxHeartbeats 8000000 in
theorem rat_chi (ad : Addr) (rn rc T : Nat) (X : Option Addr) (xn xc : Nat) (k : Int) (w : World) (hT : T < rn) (hab : ad.block < w.heap.size) (hX : w.cell? (ad.add T) = some (.slice X xn xc)) (hrn : rn ≤ maxLen) (hxn : xn ≤ maxLen) (h0 : 0 ≤ k) (h : (xn : Int) ≤ k) : Calls Try.prog 22 #[.slice (some ad) rn rc, .int .i64 (T : Int), .int .i64 k] w (RetB w (retR none)) := by
  have t0 : (0 : Int) ≤ (T : Int) := by omega
  have t1 : (T : Int) < (rn : Int) := by omega
  have hb0 : Below w.heap.size w (w.alloc (.cells #[.int .u8 0, .int .i64 0, .string ⟨#[]⟩, .bool false] 36)) := ball (Below.refl _ _) _
  have o1 : (w.alloc (.cells #[.int .u8 0, .int .i64 0, .string ⟨#[]⟩, .bool false] 36)).cell? (ad.add T) = some (.slice X xn xc) := (hb0.cell (p := ad.add T) (by rw [block_of_add]; exact hab)).trans hX
  unfold maxLen at hrn hxn
  go_enter Try.func22, Try.ntmps22
  go_wp2_with fail
  exact bodyPost_ret (v := rV ⟨0, 0, ⟨#[]⟩⟩ true) (by simp [results, Try.results22, go_sem]) rfl ⟨rfl, by with_reducible repeat (first | exact Below.refl _ _ | exact hbw | refine ball ?_ _ | refine bdr ?_ _ | refine Below.drew ?_)⟩
set_option maxRecDepth 100000 in
set_option maxHeartbeats 8000000 in
theorem rat_is (ad : Addr) (rn rc T : Nat) (X : Option Addr) (xn xc : Nat) (K : Nat) (w : World) (hT : T < rn) (hab : ad.block < w.heap.size) (hX : w.cell? (ad.add T) = some (.slice X xn xc)) (hrn : rn ≤ maxLen) (hxn : xn ≤ maxLen) (l : List Vl) (hK : K < xn) (hr : Reads w w.heap.size 3 X xn (vV l)) : Calls Try.prog 22 #[.slice (some ad) rn rc, .int .i64 (T : Int), .int .i64 (K : Int)] w (RetB w (retR (atO l (K : Int)))) := by
  have t0 : (0 : Int) ≤ (T : Int) := by omega
  have t1 : (T : Int) < (rn : Int) := by omega
  have hb0 : Below w.heap.size w (w.alloc (.cells #[.int .u8 0, .int .i64 0, .string ⟨#[]⟩, .bool false] 36)) := ball (Below.refl _ _) _
  have o1 : (w.alloc (.cells #[.int .u8 0, .int .i64 0, .string ⟨#[]⟩, .bool false] 36)).cell? (ad.add T) = some (.slice X xn xc) := (hb0.cell (p := ad.add T) (by rw [block_of_add]; exact hab)).trans hX
  unfold maxLen at hrn hxn
  have k0 : (0 : Int) ≤ (K : Int) := by omega
  have k1 : (K : Int) < (xn : Int) := by omega
  obtain ⟨ad2, v, rfl, hab2, hv, c0, c1, c2⟩ := (hr.below hb0).val hK
  rw [atO_is hv]
  obtain ⟨vk, vi, vs⟩ := v
  simp only at c0 c1 c2
  clear hr hv
  go_enter Try.func22, Try.ntmps22
  go_wp2_with fail
  exact bodyPost_ret (v := rV ⟨vk, vi, vs⟩ false) (by simp [results, Try.results22, go_sem]) rfl ⟨rfl, by with_reducible repeat (first | exact Below.refl _ _ | exact hbw | refine ball ?_ _ | refine bdr ?_ _ | refine Below.drew ?_)⟩
theorem rat_any {RA : Option Addr} {rn rc : Nat} {rws : List Rv} (i k : Int) (w : World) (hr : Reads w w.heap.size 1 RA rn (vRv rws)) (he : ∀ x ∈ rws, Reads w w.heap.size 3 x.A x.n (vV x.l) ∧ x.n ≤ maxLen ∧ ∀ v ∈ x.l, okV v) (hrn : rn ≤ maxLen) :
    Calls Try.prog 22 #[.slice RA rn rc, .int .i64 i, .int .i64 k] w (RetB w (retR (atR (rws.map Rv.l) i k))) := by
  have hrl : rws.length = rn := by have := hr.1; rw [vRv_len] at this; omega
  by_cases h0 : i < 0
  · have e : atR (rws.map Rv.l) i k = none := by unfold atR; rw [if_pos h0]
    rw [e]
    exact rat_lo RA rn rc i k w h0 hrn
  · obtain ⟨T, rfl⟩ : ∃ T : Nat, i = (T : Int) := ⟨i.toNat, by omega⟩
    by_cases h1 : T < rn
    · obtain ⟨ad, r, rfl, hab, hr, hc⟩ := hr.rv_ h1
      have e : atR (rws.map Rv.l) (T : Int) k = atO r.l k := by
        unfold atR
        rw [if_neg h0, Int.toNat_natCast, List.getElem?_map, hr]
        rfl
      rw [e]
      obtain ⟨hx, hxn, _⟩ := he r (List.mem_of_getElem? hr)
      have hxl : r.l.length = r.n := by have := hx.1; rw [vV_len] at this; omega
      by_cases hk0 : k < 0
      · rw [atO_no (.inl hk0)]
        exact rat_clo ad rn rc T r.A r.n r.c k w h1 hab hc hrn hxn hk0
      · by_cases hk1 : (r.n : Int) ≤ k
        · rw [atO_no (.inr (by omega))]
          exact rat_chi ad rn rc T r.A r.n r.c k w h1 hab hc hrn hxn (by omega) hk1
        · obtain ⟨K, rfl⟩ : ∃ K : Nat, k = (K : Int) := ⟨k.toNat, by omega⟩
          exact rat_is ad rn rc T r.A r.n r.c K w h1 hab hc hrn hxn r.l (by omega) hx
    · have e : atR (rws.map Rv.l) (T : Int) k = none := by
        unfold atR
        rw [if_neg h0, Int.toNat_natCast, List.getElem?_eq_none (by rw [List.length_map]; omega)]
      rw [e]
      exact rat_hi RA rn rc _ k w (by omega) (by omega) hrn
end
end Go.Proofs.Ytilopgfpifhccaa
/-
  Contracts of the reference's numbers: Turn; the law CalcIs's walk.
-/
namespace Go.Proofs.Ytilopgfpifhccaa
section
open Go.RowKit

theorem turn_any (sg : Int) (h0 : -1 ≤ sg) (h1 : sg ≤ 1) (A : Option Addr) (n c : Nat) (w : World) :
    Calls Try.prog 40 #[.agg #[.int .i64 sg, .slice A n c]] w (RetB w (.agg #[.int .i64 (-sg), .slice A n c])) := by
  go_enter Try.func40, Try.ntmps40
  go_wp2
  refine bodyPost_ret (v := .agg #[.int .i64 (-sg), .slice A n c]) (by simp [results, Try.results40, go_sem]) rfl ⟨rfl, ?_⟩
  exact ball (ball (Below.refl _ _) _) _
end
end Go.Proofs.Ytilopgfpifhccaa
/-
  The reference's one.
-/
namespace Go.Proofs.Ytilopgfpifhccaa
section
set_option linter.unusedSimpArgs false
set_option linter.unusedVariables false
open Go.RowKit

theorem blk4 {w : World} {g : Nat} {a0 a1 a2 a3 v0 v1 v2 v3 : Value} {t : TypeId} (h : Blk w g t #[a0, a1, a2, a3]) : Blk ((((w.setCell ⟨g, 0, none⟩ v0).setCell ⟨g, 1, none⟩ v1).setCell ⟨g, 2, none⟩ v2).setCell ⟨g, 3, none⟩ v3) g t #[v0, v1, v2, v3] := by
  have T := (((h.set_ 0 v0).set_ 1 v1).set_ 2 v2).set_ 3 v3
  simp only [List.setIfInBounds_toArray, List.set_cons_zero, List.set_cons_succ] at T
  exact T
theorem rone_end {W : World} {R : Nat} {tm : Array Value} {Q : Ending → World → Prop} {o : Option Vl} (hR : Blk W R 36 #[.int .u8 (o.getD zV).k, .int .i64 (o.getD zV).i, .string (o.getD zV).s, .bool o.isNone])
    (h4 : tm[4]? = some (.pointer (some ⟨R, 0, none⟩))) (h : Q (.returned (retR o)) W) :
    bodyPost Try.prog Try.f23 Q Exit.ret { tmps := tm, defers := [] } W := by
  have q0 : W.cell? ⟨R, 0, none⟩ = _ := hR.cell 0
  have q1 : W.cell? ⟨R, 1, none⟩ = _ := hR.cell 1
  have q2 : W.cell? ⟨R, 2, none⟩ = _ := hR.cell 2
  have q3 : W.cell? ⟨R, 3, none⟩ = _ := hR.cell 3
  exact bodyPost_ret (v := retR o) (by simp [results, Try.results23, go_sem, h4, q0, q1, q2, q3, retR]) rfl h

theorem rNot_nt {a : Int} (h0 : 0 ≤ a) (h1 : a ≤ 3) : rNot a = nt a := by
  rcases (show a = 0 ∨ a = 1 ∨ a = 2 ∨ a = 3 by omega) with rfl | rfl | rfl | rfl <;> decide
set_option maxRecDepth 100000 in
set_option maxHeartbeats 8000000 in
theorem rone_not (op : ByteArray) (o : Option Vl) (w : World) (h : op.toList = [78, 79, 84]) : Calls Try.prog 23 #[.string op, retR o] w (RetB w (retR (valT (nt (truO o))))) := by
  have e0 : (op.toList == [78, 79, 84]) = true := by rw [h]; decide
  have H1 := Lib.hid fun W => rtruth_any o W
  obtain ⟨b0, b1⟩ := truO_bd o
  have H2 := Lib.hid fun W => rnot_any (truO o) b0 b1 W
  have H3 := Lib.hid fun W => rvalue_any (rNot (truO o)) W
  rw [rNot_nt b0 b1] at H2 H3
  unfold retR at H1 ⊢
  obtain ⟨y, hy⟩ : ∃ y, o.getD zV = y := ⟨_, rfl⟩
  obtain ⟨b, hb⟩ : ∃ b, o.isNone = b := ⟨_, rfl⟩
  obtain ⟨t, ht⟩ : ∃ t, truO o = t := ⟨_, rfl⟩
  rw [hy, hb] at H1 ⊢
  rw [ht] at H1 H2 H3 ⊢
  show Calls _ _ _ _ (RetB w (retR (valT (nt t))))
  obtain ⟨q, hq⟩ : ∃ q, valT (nt t) = q := ⟨_, rfl⟩
  rw [hq] at H3 ⊢
  clear hy hb ht hq b0 b1 h
  obtain ⟨yk, yi, ys⟩ := y
  simp only [rV] at H1 ⊢
  go_enter Try.func23, Try.ntmps23
  go_wp2_with fail
  refine (H1.out _).mono ?_
  rintro e w1 ⟨rfl, hb1⟩
  have hb1' : Below w.heap.size w w1 := bto0 (by with_reducible repeat (first | exact Below.refl _ _ | refine ball ?_ _ | refine bdr ?_ _ | refine Below.drew ?_)) hb1
  have hBA : Blk w1 (w.heap.size + 1) 36 #[.int .u8 0, .int .i64 0, .string ⟨#[]⟩, .bool false] := blkUp hb1 (by with_reducible repeat (first | exact Blk.newAt (by simp) | refine Blk.alloc ?_ _ | refine Blk.drew ?_))
  have hBA_0 : (w1).cell? ⟨w.heap.size + 1, 0, none⟩ = some (.int .u8 0) := hBA.cell 0
  have hBA_1 : (w1).cell? ⟨w.heap.size + 1, 1, none⟩ = some (.int .i64 0) := hBA.cell 1
  have hBA_2 : (w1).cell? ⟨w.heap.size + 1, 2, none⟩ = some (.string ⟨#[]⟩) := hBA.cell 2
  have hBA_3 : (w1).cell? ⟨w.heap.size + 1, 3, none⟩ = some (.bool false) := hBA.cell 3
  have hzA := hBA.lt
  have f0A := hBA.frozen 0
  have f1A := hBA.frozen 1
  have f2A := hBA.frozen 2
  have f3A := hBA.frozen 3
  go_wp2_with fail
  refine (H2.out _).mono ?_
  rintro e w2 ⟨rfl, hb2⟩
  have hBC := hBA.below hb2 hBA.lt
  go_wp2_with fail
  refine (H3.out _).mono ?_
  rintro e w3 ⟨rfl, hb3⟩
  have hbw : Below w.heap.size w w3 := bto0 (bto0 hb1' hb2) hb3
  have hB : Blk w3 (w.heap.size + 1) 36 #[.int .u8 0, .int .i64 0, .string ⟨#[]⟩, .bool false] := blkUp hb3 (hBC)
  have hB_0 : (w3).cell? ⟨w.heap.size + 1, 0, none⟩ = some (.int .u8 0) := hB.cell 0
  have hB_1 : (w3).cell? ⟨w.heap.size + 1, 1, none⟩ = some (.int .i64 0) := hB.cell 1
  have hB_2 : (w3).cell? ⟨w.heap.size + 1, 2, none⟩ = some (.string ⟨#[]⟩) := hB.cell 2
  have hB_3 : (w3).cell? ⟨w.heap.size + 1, 3, none⟩ = some (.bool false) := hB.cell 3
  have hz := hB.lt
  have f0 := hB.frozen 0
  have f1 := hB.frozen 1
  have f2 := hB.frozen 2
  have f3 := hB.frozen 3
  cases q with
  | none =>
    simp only [retR, rV, Option.getD, Option.isNone, zV]
    go_wp2_with fail
    exact rone_end (R := w.heap.size + 1) (o := none) (by (with_reducible repeat (first | refine Blk.alloc ?_ _ | refine Blk.drew ?_ | refine Blk.drewN ?_ _)); exact blk4 hB) (by simp) ⟨rfl, by with_reducible repeat (first | exact Below.refl _ _ | exact hbw | refine ball ?_ _ | refine bset ?_ (by first | exact Nat.le_add_right _ _ | exact Nat.le_refl _ | (simp; omega)) _ | refine bdr ?_ _ | refine Below.drew ?_)⟩
  | some u =>
    obtain ⟨uk, ui, us⟩ := u
    simp only [retR, rV, Option.getD, Option.isNone]
    go_wp2_with fail
    exact rone_end (R := w.heap.size + 1) (o := (some ⟨uk, ui, us⟩)) (by (with_reducible repeat (first | refine Blk.alloc ?_ _ | refine Blk.drew ?_ | refine Blk.drewN ?_ _)); exact blk4 hB) (by simp) ⟨rfl, by with_reducible repeat (first | exact Below.refl _ _ | exact hbw | refine ball ?_ _ | refine bset ?_ (by first | exact Nat.le_add_right _ _ | exact Nat.le_refl _ | (simp; omega)) _ | refine bdr ?_ _ | refine Below.drew ?_)⟩

set_option maxRecDepth 100000 in
set_option maxHeartbeats 8000000 in
theorem rone_no (op : ByteArray) (o : Option Vl) (w : World) (h0 : op.toList ≠ [78, 79, 84]) (h1 : op.toList ≠ [45]) : Calls Try.prog 23 #[.string op, retR o] w (RetB w (retR none)) := by
  have e0 : (op.toList == [78, 79, 84]) = false := by simpa using h0
  have e1 : (op.toList == [45]) = false := by simpa using h1
  unfold retR
  obtain ⟨y, hy⟩ : ∃ y, o.getD zV = y := ⟨_, rfl⟩
  obtain ⟨b, hb⟩ : ∃ b, o.isNone = b := ⟨_, rfl⟩
  rw [hy, hb]
  obtain ⟨yk, yi, ys⟩ := y
  clear hy hb h0 h1
  simp only [rV]
  go_enter Try.func23, Try.ntmps23
  go_wp2_with fail
  exact bodyPost_ret (v := rV ⟨0, 0, ⟨#[]⟩⟩ true) (by simp [results, Try.results23, go_sem]) rfl ⟨rfl, by with_reducible repeat (first | exact Below.refl _ _ | exact hbw | refine ball ?_ _ | refine bset ?_ (by first | exact Nat.le_add_right _ _ | (simp; omega)) _ | refine bdr ?_ _ | refine Below.drew ?_)⟩

set_option maxRecDepth 100000 in
set_option maxHeartbeats 8000000 in
theorem rone_bad (op : ByteArray) (w : World) (h : op.toList = [45]) : Calls Try.prog 23 #[.string op, rV ⟨0, 0, ⟨#[]⟩⟩ true] w (RetB w (retR none)) := by
  have e0 : (op.toList == [78, 79, 84]) = false := by rw [h]; decide
  have e1 : (op.toList == [45]) = true := by rw [h]; decide
  go_enter Try.func23, Try.ntmps23
  go_wp2_with fail
  exact bodyPost_ret (v := rV ⟨0, 0, ⟨#[]⟩⟩ true) (by simp [results, Try.results23, go_sem]) rfl ⟨rfl, by with_reducible repeat (first | exact Below.refl _ _ | exact hbw | refine ball ?_ _ | refine bset ?_ (by first | exact Nat.le_add_right _ _ | (simp; omega)) _ | refine bdr ?_ _ | refine Below.drew ?_)⟩

set_option maxRecDepth 100000 in
set_option maxHeartbeats 8000000 in
theorem rone_hi (op : ByteArray) (k i : Int) (s : ByteArray) (w : World) (h : op.toList = [45]) (hk : 1 < k) : Calls Try.prog 23 #[.string op, rV ⟨k, i, s⟩ false] w (RetB w (retR none)) := by
  have e0 : (op.toList == [78, 79, 84]) = false := by rw [h]; decide
  have e1 : (op.toList == [45]) = true := by rw [h]; decide
  go_enter Try.func23, Try.ntmps23
  go_wp2_with fail
  exact bodyPost_ret (v := rV ⟨0, 0, ⟨#[]⟩⟩ true) (by simp [results, Try.results23, go_sem]) rfl ⟨rfl, by with_reducible repeat (first | exact Below.refl _ _ | exact hbw | refine ball ?_ _ | refine bset ?_ (by first | exact Nat.le_add_right _ _ | (simp; omega)) _ | refine bdr ?_ _ | refine Below.drew ?_)⟩

set_option maxRecDepth 100000 in
set_option maxHeartbeats 8000000 in
theorem rone_0 (op : ByteArray) (i : Int) (s : ByteArray) (w : World) (h : op.toList = [45]) : Calls Try.prog 23 #[.string op, rV ⟨0, i, s⟩ false] w (RetB w (retR (some ⟨0, i, s⟩))) := by
  have e0 : (op.toList == [78, 79, 84]) = false := by rw [h]; decide
  have e1 : (op.toList == [45]) = true := by rw [h]; decide
  go_enter Try.func23, Try.ntmps23
  go_wp2_with fail
  exact bodyPost_ret (v := rV ⟨0, i, s⟩ false) (by simp [results, Try.results23, go_sem]) rfl ⟨rfl, by with_reducible repeat (first | exact Below.refl _ _ | exact hbw | refine ball ?_ _ | refine bset ?_ (by first | exact Nat.le_add_right _ _ | (simp; omega)) _ | refine bdr ?_ _ | refine Below.drew ?_)⟩

set_option maxRecDepth 100000 in
set_option maxHeartbeats 8000000 in
theorem rone_1 (op : ByteArray) (i : Int) (s : ByteArray) (w : World) (h : op.toList = [45]) (h0 : -9223372036854775808 ≤ i) (h1 : i ≤ 9223372036854775807) : Calls Try.prog 23 #[.string op, rV ⟨1, i, s⟩ false] w (RetB w (retR (turnO ⟨1, i, s⟩))) := by
  have e0 : (op.toList == [78, 79, 84]) = false := by rw [h]; decide
  have e1 : (op.toList == [45]) = true := by rw [h]; decide
  have H1 := Lib.hid fun W => of_any i W h0 h1
  have eq : turnO ⟨1, i, s⟩ = if decide (rngP (-i)) = true then some ⟨1, numN (-i), ⟨#[]⟩⟩ else none := by
    unfold turnO
    rw [if_neg (by show ¬ (1 : Int) = 0; decide)]
    by_cases hr : rngP (-i)
    · rw [if_pos ⟨rfl, hr⟩, if_pos (decide_eq_true hr)]
      unfold numN
      rw [if_pos hr]
    · rw [if_neg (fun h => hr h.2), if_neg (by simpa using hr)]
  have H4 := Lib.hid fun W => rsure_any ⟨1, numN (-i), ⟨#[]⟩⟩ (decide (rngP (-i))) W
  rw [← eq] at H4
  obtain ⟨q, hq⟩ : ∃ q, turnO ⟨1, i, s⟩ = q := ⟨_, rfl⟩
  rw [hq] at H4 ⊢
  clear hq eq h0 h1
  go_enter Try.func23, Try.ntmps23
  go_wp2_with fail
  refine (H1.out _).mono ?_
  rintro e w1 ⟨v, sg, x, rfl, hsg, hx, hN, hb1⟩
  obtain ⟨A, n, c, l, rfl, hrd, hnc, hn5, hdk, hdv, hln⟩ := hN
  have hb1' : Below w.heap.size w w1 := bto0 (by with_reducible repeat (first | exact Below.refl _ _ | refine ball ?_ _ | refine bdr ?_ _ | refine Below.drew ?_)) hb1
  have hBA : Blk w1 (w.heap.size + 1) 36 #[.int .u8 0, .int .i64 0, .string ⟨#[]⟩, .bool false] := blkUp hb1 (by with_reducible repeat (first | exact Blk.newAt (by simp) | refine Blk.alloc ?_ _ | refine Blk.drew ?_))
  have hBA_0 : (w1).cell? ⟨w.heap.size + 1, 0, none⟩ = some (.int .u8 0) := hBA.cell 0
  have hBA_1 : (w1).cell? ⟨w.heap.size + 1, 1, none⟩ = some (.int .i64 0) := hBA.cell 1
  have hBA_2 : (w1).cell? ⟨w.heap.size + 1, 2, none⟩ = some (.string ⟨#[]⟩) := hBA.cell 2
  have hBA_3 : (w1).cell? ⟨w.heap.size + 1, 3, none⟩ = some (.bool false) := hBA.cell 3
  have hzA := hBA.lt
  have f0A := hBA.frozen 0
  have f1A := hBA.frozen 1
  have f2A := hBA.frozen 2
  have f3A := hBA.frozen 3
  have T := Lib.hid fun W => turn_any sg (by omega) (by omega) A n c W
  have R := Lib.hid fun (W : World) (hW : Below w1.heap.size w1 W) => right_any (-sg) (by omega) A n c l W ((hrd.below hW).more hW.size) hdk (by omega) hnc
  have hi : (-sg) * ((dv l : Nat) : Int) = -i := by rw [hdv, Int.neg_mul, hx]
  rw [hi] at R
  unfold numR at R
  clear hi hrd hnc hn5 hdk hdv hln hx hsg
  obtain ⟨N, hN⟩ : ∃ N, numN (-i) = N := ⟨_, rfl⟩
  obtain ⟨D, hD⟩ : ∃ D, decide (rngP (-i)) = D := ⟨_, rfl⟩
  rw [hN, hD] at R H4
  clear hN hD
  go_wp2_with fail
  refine (T.out _).mono ?_
  rintro e w2 ⟨rfl, hb2⟩
  have hBC := hBA.below hb2 hBA.lt
  go_wp2_with fail
  refine (R.out _ hb2).mono ?_
  rintro e w3 ⟨rfl, hb3⟩
  have hBD := hBC.below hb3 hBC.lt
  go_wp2_with fail
  refine (H4.out _).mono ?_
  rintro e w4 ⟨rfl, hb4⟩
  have hbw : Below w.heap.size w w4 := bto0 (bto0 (bto0 hb1' hb2) hb3) hb4
  have hB : Blk w4 (w.heap.size + 1) 36 #[.int .u8 0, .int .i64 0, .string ⟨#[]⟩, .bool false] := blkUp hb4 (hBD)
  have hB_0 : (w4).cell? ⟨w.heap.size + 1, 0, none⟩ = some (.int .u8 0) := hB.cell 0
  have hB_1 : (w4).cell? ⟨w.heap.size + 1, 1, none⟩ = some (.int .i64 0) := hB.cell 1
  have hB_2 : (w4).cell? ⟨w.heap.size + 1, 2, none⟩ = some (.string ⟨#[]⟩) := hB.cell 2
  have hB_3 : (w4).cell? ⟨w.heap.size + 1, 3, none⟩ = some (.bool false) := hB.cell 3
  have hz := hB.lt
  have f0 := hB.frozen 0
  have f1 := hB.frozen 1
  have f2 := hB.frozen 2
  have f3 := hB.frozen 3
  cases q with
  | none =>
    simp only [retR, rV, Option.getD, Option.isNone, zV]
    go_wp2_with fail
    exact rone_end (R := w.heap.size + 1) (o := none) (by (with_reducible repeat (first | refine Blk.alloc ?_ _ | refine Blk.drew ?_ | refine Blk.drewN ?_ _)); exact blk4 hB) (by simp) ⟨rfl, by with_reducible repeat (first | exact Below.refl _ _ | exact hbw | refine ball ?_ _ | refine bset ?_ (by first | exact Nat.le_add_right _ _ | exact Nat.le_refl _ | (simp; omega)) _ | refine bdr ?_ _ | refine Below.drew ?_)⟩
  | some u =>
    obtain ⟨uk, ui, us⟩ := u
    simp only [retR, rV, Option.getD, Option.isNone]
    go_wp2_with fail
    exact rone_end (R := w.heap.size + 1) (o := (some ⟨uk, ui, us⟩)) (by (with_reducible repeat (first | refine Blk.alloc ?_ _ | refine Blk.drew ?_ | refine Blk.drewN ?_ _)); exact blk4 hB) (by simp) ⟨rfl, by with_reducible repeat (first | exact Below.refl _ _ | exact hbw | refine ball ?_ _ | refine bset ?_ (by first | exact Nat.le_add_right _ _ | exact Nat.le_refl _ | (simp; omega)) _ | refine bdr ?_ _ | refine Below.drew ?_)⟩

theorem rone_any (op : ByteArray) (o : Option Vl) (w : World) (hok : okO o) : Calls Try.prog 23 #[.string op, retR o] w (RetB w (retR (oneK op.toList o))) := by
  unfold oneK
  split
  · exact rone_not op o w (by assumption)
  · split
    · rename_i h
      cases o with
      | none => exact rone_bad op w h
      | some v =>
        have hv := hok v rfl
        obtain ⟨k, i, s⟩ := v
        obtain ⟨⟨⟨k0, _⟩, ⟨i0, i1⟩, _⟩, _⟩ := hv
        show Calls _ _ #[_, rV ⟨k, i, s⟩ false] _ (RetB w (retR (turnO ⟨k, i, s⟩)))
        simp only at k0 i0 i1
        rcases (show k = 0 ∨ k = 1 ∨ 1 < k by omega) with rfl | rfl | hk
        · exact rone_0 op i s w h
        · exact rone_1 op i s w h i0 i1
        · have e : turnO ⟨k, i, s⟩ = none := by
            unfold turnO
            rw [if_neg (by show ¬ k = 0; omega), if_neg (by show ¬ (k = 1 ∧ _); omega)]
          rw [e]
          exact rone_hi op k i s w h hk
    · exact rone_no op o w (by assumption) (by assumption)
end
end Go.Proofs.Ytilopgfpifhccaa
/-
  The reference's in.
-/
namespace Go.Proofs.Ytilopgfpifhccaa
section
set_option linter.unusedSimpArgs false
set_option linter.unusedVariables false
open Go.RowKit

/-- The same, as one step of a region that draws its order. -/
theorem wp_pushR18 {P : Program} {w : World} {o : Oper} {a : Act} {K : Act → World → Prop} {Q : Exit → Act → World → Prop} {news : List Value} {arr : Array Value} (s x : Operand) (t : TypeId)
    (ho : o.op = .call { callee := .builtin .append, args := #[s, x], argTypes := #[t, t] })
    (base : Nat) (e : TypeId) (i : TypeInfo) (z : Value) (size bytes : Nat) (ht : P.underlying t = some (.slice e)) (hi : P.info? e = some i) (hz : i.zero = some z)
    (hsize : i.size = size) (hby : i.bytes = bytes) (hzs : z.cells.size = size) (hsz : 0 < size)
    (v : Value) (n : Nat) (xs : List Value) (hs : a.eval s = v) (hown : w.ownsRow base e size v n xs)
    (harr : arr = news.toArray) (g : Nat) (hx : a.eval x = .slice (some ⟨g, 0, none⟩) 1 1) (hg : g = w.heap.size) (hl : news.length = size) (h1 : ∀ u ∈ news, u.oneCell' = true)
    (h63 : n + 1 ≤ 1000000000) (hbytes : bytes ≤ 10000) (hbase : base ≤ w.heap.size)
    (h : ∀ v' w', w'.ownsRow base e size v' (n + 1) (xs ++ news) → (w.alloc (.cells arr e)).grownBy w' v.ownBlock → (v'.ownBlock = v.ownBlock ∨ v'.ownBlock = some (w.heap.size + 1)) → K (a.put o.dst v') w') : o.wp P a (w.alloc (.cells arr e)) K Q := by
  subst hg
  subst harr
  have hb : (n + 1) * bytes ≤ 1000000000 * 10000 := Nat.mul_le_mul h63 hbytes
  have hnews : ∀ j u, news[j]? = some u → (w.alloc (.cells news.toArray e)).cell? ((⟨w.heap.size, 0, none⟩ : Addr).add j) = some u := by
    intro j u hj
    rw [add_head, World.cell?_alloc_at _ _ _ _ rfl]
    simpa using hj
  obtain ⟨v', w', hr, h2, h3, h4, h5⟩ := run_append_own_at (P := P) (w.alloc (.cells news.toArray e)) base t o.type e i z size bytes ht hi hz hsize hby hzs hsz v n xs (hown.alloc _) ⟨w.heap.size, 0, none⟩ 1 1 news (by rw [hl]; omega) hnews h1 (by unfold maxLen; omega) (by omega) (by simp; omega)
  unfold Oper.wp execOp
  simp only [ho, resolve, invoke, builtin, Sem.run_bind, Sem.run_pure, Result.andThen_ok, List.map_toArray, List.map_cons, List.map_nil, hs, hx, hr]
  exact h _ _ h2 h3 (by simpa using h5)

/-- The same, where the region draws. -/
theorem step_pushR18 {P : Program} {w : World} {ops : Array Oper} {o : Oper} {a : Act} {K : Act → World → Prop} {Q : Exit → Act → World → Prop} {E : Prop} {news : List Value} {arr : Array Value} (hgd : o.guard = none) (s x : Operand) (t : TypeId)
    (ho : o.op = .call { callee := .builtin .append, args := #[s, x], argTypes := #[t, t] })
    (base : Nat) (e : TypeId) (i : TypeInfo) (z : Value) (size bytes : Nat) (ht : P.underlying t = some (.slice e)) (hi : P.info? e = some i) (hz : i.zero = some z)
    (hsize : i.size = size) (hby : i.bytes = bytes) (hzs : z.cells.size = size) (hsz : 0 < size)
    (v : Value) (n : Nat) (xs : List Value) (hs : a.eval s = v) (hown : w.ownsRow base e size v n xs)
    (harr : arr = news.toArray) (g : Nat) (hx : a.eval x = .slice (some ⟨g, 0, none⟩) 1 1) (hg : g = w.heap.size) (hl : news.length = size) (h1 : ∀ u ∈ news, u.oneCell' = true)
    (h63 : n + 1 ≤ 1000000000) (hbytes : bytes ≤ 10000) (hbase : base ≤ w.heap.size)
    (h : ∀ v' w', w'.ownsRow base e size v' (n + 1) (xs ++ news) → (w.alloc (.cells arr e)).grownBy w' v.ownBlock → (v'.ownBlock = v.ownBlock ∨ v'.ownBlock = some (w.heap.size + 1)) → K (a.put o.dst v') w') : if Region.wanted o (yielded ops a.tmps) = true then Oper.wp P o a (w.alloc (.cells arr e)) K Q else E := by
  have hw : Region.wanted o (yielded ops a.tmps) = true := by simp [Region.wanted, hgd]
  rw [if_pos hw]
  exact wp_pushR18 s x t ho base e i z size bytes ht hi hz hsize hby hzs hsz v n xs hs hown harr g hx hg hl h1 h63 hbytes hbase h

theorem step_go18 {P : Program} {w : World} {ops : Array Oper} {o : Oper} {a : Act} {K : Act → World → Prop} {Q : Exit → Act → World → Prop} {E : Prop} (hgd : o.guard = none) (h : Oper.wp P o a w K Q) : if Region.wanted o (yielded ops a.tmps) = true then Oper.wp P o a w K Q else E := by
  have hw : Region.wanted o (yielded ops a.tmps) = true := by simp [Region.wanted, hgd]
  rw [if_pos hw]
  exact h

theorem Try.infoI18 : (Try.prog.info? 3).map (fun i => (i.zero, i.size, i.bytes)) = some (some (.int .i64 0), 1, 8) := by kernel_rfl
/-- A row of what terms come to, as the reference keeps it. -/
def rC (o : Option Vl) : List Value := [.int .u8 (o.getD zV).k, .int .i64 (o.getD zV).i, .string (o.getD zV).s, .bool o.isNone]
def vRR (l : List (Option Vl)) : List Value := l.flatMap rC
theorem vRR_len (l : List (Option Vl)) : (vRR l).length = l.length * 4 := flat_len _ 4 l fun v _ => rfl
theorem vRR_at {l : List (Option Vl)} {k : Nat} {v : Option Vl} (h : l[k]? = some v) (j : Nat) (hj : j < 4) : (vRR l)[k * 4 + j]? = (rC v)[j]? := flat_at rC 4 l k v j (fun v _ => rfl) h hj
theorem Reads.rr {w : World} {B : Nat} {A : Option Addr} {n k : Nat} {l : List (Option Vl)} (hr : Reads w B 4 A n (vRR l)) (hk : k < n) :
    ∃ ad v, A = some ad ∧ ad.block < B ∧ l[k]? = some v ∧ w.cell? (ad.add (k * 4)) = some (.int .u8 (v.getD zV).k) ∧ w.cell? ⟨(ad.add (k * 4)).block, (ad.add (k * 4)).off + 1, none⟩ = some (.int .i64 (v.getD zV).i) ∧ w.cell? ⟨(ad.add (k * 4)).block, (ad.add (k * 4)).off + 2, none⟩ = some (.string (v.getD zV).s) ∧ w.cell? ⟨(ad.add (k * 4)).block, (ad.add (k * 4)).off + 3, none⟩ = some (.bool v.isNone) := by
  have hl : l.length = n := by have := hr.1; rw [vRR_len] at this; omega
  obtain ⟨ad, hA, hb, hc⟩ := hr.2 (by omega)
  have hv : l[k]? = some (l[k]'(by omega)) := List.getElem?_eq_getElem (by omega)
  refine ⟨ad, l[k]'(by omega), hA, hb, hv, ?_, ?_, ?_, ?_⟩
  · have := hc (k * 4 + 0) _ (by rw [vRR_at hv 0 (by omega)]; rfl)
    simpa using this
  · rw [field_add _ _ _ (by omega)]
    exact hc (k * 4 + 1) _ (by rw [vRR_at hv 1 (by omega)]; rfl)
  · rw [field_add _ _ _ (by omega)]
    exact hc (k * 4 + 2) _ (by rw [vRR_at hv 2 (by omega)]; rfl)
  · rw [field_add _ _ _ (by omega)]
    exact hc (k * 4 + 3) _ (by rw [vRR_at hv 3 (by omega)]; rfl)
theorem rin_end {W : World} {R : Nat} {tm : Array Value} {Q : Ending → World → Prop} {o : Option Vl} (hR : Blk W R 36 #[.int .u8 (o.getD zV).k, .int .i64 (o.getD zV).i, .string (o.getD zV).s, .bool o.isNone])
    (h4 : tm[4]? = some (.pointer (some ⟨R, 0, none⟩))) (h : Q (.returned (retR o)) W) :
    bodyPost Try.prog Try.f26 Q Exit.ret { tmps := tm, defers := [] } W := by
  have q0 : W.cell? ⟨R, 0, none⟩ = _ := hR.cell 0
  have q1 : W.cell? ⟨R, 1, none⟩ = _ := hR.cell 1
  have q2 : W.cell? ⟨R, 2, none⟩ = _ := hR.cell 2
  have q3 : W.cell? ⟨R, 3, none⟩ = _ := hR.cell 3
  exact bodyPost_ret (v := retR o) (by simp [results, Try.results26, go_sem, h4, q0, q1, q2, q3, retR]) rfl h

set_option maxRecDepth 100000 in
set_option maxHeartbeats 16000000 in
theorem rin_any (A : Option Addr) (n c : Nat) (a : Option Vl) (r : List (Option Vl)) (no : Bool) (w : World) (hrd : Reads w w.heap.size 4 A n (vRR (a :: r))) (hn : n ≤ 1000) (ha : okO a) (hr : ∀ o ∈ r, okO o) :
    Calls Try.prog 26 #[.slice A n c, .bool no] w (RetB w (retR (inK no a r))) := by
  have hl : r.length + 1 = n := by have := hrd.1; rw [vRR_len] at this; simp at this; omega
  obtain ⟨i0, hi0, hz0, hs0, hy0⟩ := int_info8 Try.infoI18
  obtain ⟨g, hg⟩ : ∃ g : Option Vl → Int, g = cmpO ⟨#[61]⟩ a := ⟨_, rfl⟩
  have hgn : ∀ o, 0 ≤ g o ∧ g o ≤ 3 := fun o => by
    rw [hg]
    cases a with
    | none => exact ⟨(by decide : (0 : Int) ≤ 2), (by decide : (2 : Int) ≤ 3)⟩
    | some x =>
      cases o with
      | none => exact ⟨(by decide : (0 : Int) ≤ 2), (by decide : (2 : Int) ≤ 3)⟩
      | some y => exact testV_bd _ x y
  have HE := Lib.hid fun (o : Option Vl) (W : World) (ho : o ∈ r) => requal_any a o ha (hr o ho) W
  have hT : inK no a r = valT (if no then nt (orL (r.map g)) else orL (r.map g)) := by rw [hg]; rfl
  rw [hT]
  simp only [← hg] at HE
  obtain ⟨N, hN⟩ : ∃ N, (if no then nt (orL (r.map g)) else orL (r.map g)) = N := ⟨_, rfl⟩
  have HN := Lib.hid hN
  rw [hN]
  have H3 := Lib.hid fun W => rvalue_any N W
  obtain ⟨q, hq⟩ : ∃ q, valT N = q := ⟨_, rfl⟩
  rw [hq] at H3 ⊢
  have Hl := Lib.hid hl
  have HG := Lib.hid hgn
  have nI : (n : Int) ≤ 1000 := by omega
  clear hT hN hq hg ha hr hl hgn
  have hb0 : Below w.heap.size w ((w.alloc (.cells #[.int .u8 0, .int .i64 0, .string ⟨#[]⟩, .bool false] 36)).alloc (.cells #[] 3)) := ball (ball (Below.refl _ _) _) _
  go_enter Try.func26, Try.ntmps26
  go_wp2_with fail
  obtain ⟨W0, hW0⟩ : ∃ W0, (w.alloc (.cells #[.int .u8 0, .int .i64 0, .string ⟨#[]⟩, .bool false] 36)).alloc (.cells #[] 3) = W0 := ⟨_, rfl⟩
  have hR0 : Blk W0 w.heap.size 36 #[.int .u8 0, .int .i64 0, .string ⟨#[]⟩, .bool false] := by rw [← hW0]; exact Blk.alloc (Blk.new _ _ _) _
  have hown0 : W0.ownsRow (w.heap.size + 1) 3 1 (.slice (some ⟨w.heap.size + 1, 0, none⟩) 0 0) 0 [] := by
    have h := own_empty (w.alloc (.cells #[.int .u8 0, .int .i64 0, .string ⟨#[]⟩, .bool false] 36)) 3 1 (g := w.heap.size + 1) (by simp)
    rw [← hW0]
    simpa using h
  have hsz0 : w.heap.size + 1 ≤ W0.heap.size := by rw [← hW0]; simp
  rw [hW0] at hb0 ⊢
  clear hW0
  go_loopw [5, 6] (fun v i wr => ∃ K : Nat, 1 ≤ K ∧ K ≤ n ∧ i = .int .i64 K ∧ wr.ownsRow (w.heap.size + 1) 3 1 v (K - 1) (vI64 ((r.take (K - 1)).map g)) ∧ Blk wr w.heap.size 36 #[.int .u8 0, .int .i64 0, .string ⟨#[]⟩, .bool false] ∧ Below w.heap.size w wr ∧ w.heap.size + 1 ≤ wr.heap.size) (fun _ i _ => n - (intOf i).toNat)
  case atStart => exact ⟨1, by omega, by have := Hl.out; omega, rfl, hown0, hR0, hb0, hsz0⟩
  case round =>
    clear hb0 hR0 hown0 hsz0
    obtain ⟨K, hK1, hK, rfl, hown, hR, hb, hsz⟩ := hrel
    have q0 : (0 : Int) ≤ (K : Int) := by omega
    by_cases hlt : K < n
    · have q1 : (K : Int) < (n : Int) := by omega
      have q2 : (0 : Int) < (n : Int) := by omega
      obtain ⟨ad, o, rfl, hab, ho, c0, c1, c2, c3⟩ := (hrd.below hb).rr hlt
      obtain ⟨ad', a', e', _, ha', d0, d1, d2, d3⟩ := (hrd.below hb).rr (show 0 < n by omega)
      injection e' with e'
      subst e'
      simp only [List.getElem?_cons_zero, Option.some.injEq] at ha'
      subst ha'
      obtain ⟨k, hkK⟩ : ∃ k, K = k + 1 := ⟨K - 1, by omega⟩
      have hk1 : K - 1 = k := by omega
      rw [hkK] at ho
      simp only [List.getElem?_cons_succ] at ho
      rw [hk1] at hown
      have n0' : 0 < n := by omega
      have k63 : k + 1 ≤ 1000000000 := by omega
      have HK := Lib.hid (And.intro hkK hk1)
      clear hkK hk1
      have Hs := Lib.hid (map_take_succ g r k o ho)
      have HC := Lib.hid fun W => HE.out o W (List.mem_of_getElem? ho)
      obtain ⟨x, hx⟩ : ∃ x, g o = x := ⟨_, rfl⟩
      rw [hx] at Hs HC
      simp only [retR, rV] at HC
      obtain ⟨y, hy⟩ : ∃ y, a.getD zV = y := ⟨_, rfl⟩
      obtain ⟨p, hp⟩ : ∃ p, a.isNone = p := ⟨_, rfl⟩
      obtain ⟨z, hz⟩ : ∃ z, o.getD zV = z := ⟨_, rfl⟩
      obtain ⟨t, ht⟩ : ∃ t, o.isNone = t := ⟨_, rfl⟩
      rw [hy] at d0 d1 d2
      rw [hp] at d3
      rw [hz] at c0 c1 c2
      rw [ht] at c3
      rw [hy, hp, hz, ht] at HC
      obtain ⟨yk, yi, ys⟩ := y
      obtain ⟨zk, zi, zs⟩ := z
      simp only [Nat.zero_mul, Addr.add, if_true, reduceIte] at d0 d1 d2 d3
      simp only at c0 c1 c2
      have H1 := Lib.hid (And.intro hown hb)
      have HR := Lib.hid hR
      have hzr := hb.size
      clear ho hx hy hp hz ht hown hb hR hrd
      go_wp2_with fail
      go_region_law (first
        | (refine step_go18 rfl ?_; go_simp; go_at_call 46; (with_reducible refine (HC.out _).mono ?_); rintro e w5 ⟨rfl, hb5⟩; have own5 := own_below18 H1.out.1.drew hb5; have hb6 : Below w.heap.size w w5 := bto0 (Below.drew H1.out.2) hb5; have hR5 := HR.out.drew.below hb5 HR.out.drew.lt; have hz5 : w.heap.size + 1 ≤ w5.heap.size := Nat.le_trans hsz hb5.size; have P5 := Lib.hid (And.intro own5 (And.intro hb6 hR5)); clear own5 hb6 hR5)
        | (refine step_pushR18 (news := [.int .i64 x]) rfl (.tmp 15) (.tmp 24) 64 rfl (w.heap.size + 1) 3 i0 _ 1 8 Try.underlying64 hi0 hz0 hs0 hy0 rfl (by decide) _ k _ (by simp [Act.eval, Act.put]) P5.out.1 rfl _ (by simp [Act.eval, Act.put]) rfl rfl (by intro u hu; rw [List.mem_singleton] at hu; subst hu; rfl) k63 (by omega) hz5 ?_; intro v6 w6 hown6 hg6 hB6))
      all_goals (try go_wp2)
      all_goals
        have e1 : K + 1 - 1 = k + 1 := by have := HK.out.1; omega
        have hal := P5.out.1.alloc (.cells #[.int .i64 x] 3)
        refine ⟨⟨K + 1, by omega, by omega, by go_num, ?_, ?_, ?_, ?_⟩, by simp [intOf]; omega⟩
        · rw [e1, Hs.out]
          simpa [vI64] using hown6
        · exact (P5.out.2.2.alloc _).grown hg6 (fun e => own_blk_ne hal (P5.out.2.2.alloc _) (by decide) e.symm)
        · exact bgrow (ball P5.out.2.1 _) hg6 hal (by omega) (by simp; omega)
        · exact Nat.le_trans (by simp; omega) hg6.size
    · obtain rfl : K = n := by omega
      have e1 : K - 1 = r.length := by have := Hl.out; omega
      have e2 : r.take (K - 1) = r := List.take_of_length_le (by omega)
      rw [e2] at hown
      have hnn : ∀ z ∈ r.map g, 0 ≤ z := fun z hz => by
        obtain ⟨o, _, rfl⟩ := List.mem_map.1 hz
        exact (HG.out o).1
      have ekn : (r.map g).map kn = r.map g := by
        rw [List.map_map]
        refine List.map_congr_left fun o _ => ?_
        show kn (g o) = g o
        unfold kn
        rw [if_neg (by have := (HG.out o).2; omega)]
      obtain ⟨A1, c1, rfl, hc1⟩ := own_form hown
      have hrn := Reads.of_own hown
      rw [← ekn] at hrn
      have HO := Lib.hid (ror_told A1 (K - 1) c1 (r.map g) hnn wr wr.heap.size hrn (by omega))
      have hob : 0 ≤ orL (r.map g) ∧ orL (r.map g) ≤ 3 := by
        rw [← rOr_told _ hnn]
        unfold rOr
        repeat' (first | split | omega | constructor)
      have HNT := Lib.hid fun W => rnot_any (orL (r.map g)) hob.1 hob.2 W
      rw [rNot_nt hob.1 hob.2] at HNT
      obtain ⟨M, hM⟩ : ∃ M, orL (r.map g) = M := ⟨_, rfl⟩
      rw [hM] at HO HNT HN
      clear hM hob hnn ekn e2 e1 hown hrn hrd
      go_wp2_with fail
      refine HO.out.mono ?_
      rintro e w5 ⟨rfl, rfl⟩
      cases no
      · have hN : M = N := HN.out
        subst hN
        go_wp2_with fail
        refine (H3.out _).mono ?_
        rintro e w6 ⟨rfl, hb6⟩
        have hbw := bto0 hb hb6
        have hB : Blk w6 (w.heap.size) 36 #[.int .u8 0, .int .i64 0, .string ⟨#[]⟩, .bool false] := blkUp hb6 (hR)
        have hB_0 : (w6).cell? ⟨w.heap.size, 0, none⟩ = some (.int .u8 0) := hB.cell 0
        have hB_1 : (w6).cell? ⟨w.heap.size, 1, none⟩ = some (.int .i64 0) := hB.cell 1
        have hB_2 : (w6).cell? ⟨w.heap.size, 2, none⟩ = some (.string ⟨#[]⟩) := hB.cell 2
        have hB_3 : (w6).cell? ⟨w.heap.size, 3, none⟩ = some (.bool false) := hB.cell 3
        have hz := hB.lt
        have f0 := hB.frozen 0
        have f1 := hB.frozen 1
        have f2 := hB.frozen 2
        have f3 := hB.frozen 3
        cases q with
        | none =>
          simp only [retR, rV, Option.getD, Option.isNone, zV]
          go_wp2_with fail
          exact rin_end (R := w.heap.size) (o := none) (by (with_reducible repeat (first | refine Blk.alloc ?_ _ | refine Blk.drew ?_ | refine Blk.drewN ?_ _)); exact blk4 hB) (by simp) ⟨rfl, by with_reducible repeat (first | exact Below.refl _ _ | exact hbw | refine ball ?_ _ | refine bset ?_ (by first | exact Nat.le_add_right _ _ | exact Nat.le_refl _ | (simp; omega)) _ | refine bdr ?_ _ | refine Below.drew ?_)⟩
        | some u =>
          obtain ⟨uk, ui, us⟩ := u
          simp only [retR, rV, Option.getD, Option.isNone]
          go_wp2_with fail
          exact rin_end (R := w.heap.size) (o := (some ⟨uk, ui, us⟩)) (by (with_reducible repeat (first | refine Blk.alloc ?_ _ | refine Blk.drew ?_ | refine Blk.drewN ?_ _)); exact blk4 hB) (by simp) ⟨rfl, by with_reducible repeat (first | exact Below.refl _ _ | exact hbw | refine ball ?_ _ | refine bset ?_ (by first | exact Nat.le_add_right _ _ | exact Nat.le_refl _ | (simp; omega)) _ | refine bdr ?_ _ | refine Below.drew ?_)⟩
      · have hN : nt M = N := HN.out
        subst hN
        go_wp2_with fail
        refine (HNT.out _).mono ?_
        rintro e w6 ⟨rfl, hb6⟩
        have hR6 := hR.below hb6 hR.lt
        go_wp2_with fail
        refine (H3.out _).mono ?_
        rintro e w7 ⟨rfl, hb7⟩
        have hbw := bto0 (bto0 hb hb6) hb7
        have hB : Blk w7 (w.heap.size) 36 #[.int .u8 0, .int .i64 0, .string ⟨#[]⟩, .bool false] := blkUp hb7 (hR6)
        have hB_0 : (w7).cell? ⟨w.heap.size, 0, none⟩ = some (.int .u8 0) := hB.cell 0
        have hB_1 : (w7).cell? ⟨w.heap.size, 1, none⟩ = some (.int .i64 0) := hB.cell 1
        have hB_2 : (w7).cell? ⟨w.heap.size, 2, none⟩ = some (.string ⟨#[]⟩) := hB.cell 2
        have hB_3 : (w7).cell? ⟨w.heap.size, 3, none⟩ = some (.bool false) := hB.cell 3
        have hz := hB.lt
        have f0 := hB.frozen 0
        have f1 := hB.frozen 1
        have f2 := hB.frozen 2
        have f3 := hB.frozen 3
        cases q with
        | none =>
          simp only [retR, rV, Option.getD, Option.isNone, zV]
          go_wp2_with fail
          exact rin_end (R := w.heap.size) (o := none) (by (with_reducible repeat (first | refine Blk.alloc ?_ _ | refine Blk.drew ?_ | refine Blk.drewN ?_ _)); exact blk4 hB) (by simp) ⟨rfl, by with_reducible repeat (first | exact Below.refl _ _ | exact hbw | refine ball ?_ _ | refine bset ?_ (by first | exact Nat.le_add_right _ _ | exact Nat.le_refl _ | (simp; omega)) _ | refine bdr ?_ _ | refine Below.drew ?_)⟩
        | some u =>
          obtain ⟨uk, ui, us⟩ := u
          simp only [retR, rV, Option.getD, Option.isNone]
          go_wp2_with fail
          exact rin_end (R := w.heap.size) (o := (some ⟨uk, ui, us⟩)) (by (with_reducible repeat (first | refine Blk.alloc ?_ _ | refine Blk.drew ?_ | refine Blk.drewN ?_ _)); exact blk4 hB) (by simp) ⟨rfl, by with_reducible repeat (first | exact Below.refl _ _ | exact hbw | refine ball ?_ _ | refine bset ?_ (by first | exact Nat.le_add_right _ _ | exact Nat.le_refl _ | (simp; omega)) _ | refine bdr ?_ _ | refine Below.drew ?_)⟩
end
end Go.Proofs.Ytilopgfpifhccaa
