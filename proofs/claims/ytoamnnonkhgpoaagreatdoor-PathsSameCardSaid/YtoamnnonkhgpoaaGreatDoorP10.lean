/-
  A path's conditions, the program's way.
-/
import Derived.Test.YtoamnnonkhgpoaaGreatDoorP9
import Derived.Lib.RowBridge
set_option linter.unusedSimpArgs false
set_option linter.unusedVariables false
namespace Go.Proofs.YtoamnnonkhgpoaaGreatDoor
open Go.RowKit Go.Sort

theorem put_size (ys : Array Int) (cur : Array Value) : (putCells (Value.int .i64) 0 ys cur).size = cur.size := by simp [putCells]
theorem put_take {ys : List Int} {cur : Array Value} {N : Nat} (hy : ys.length = N) (hN : N ≤ cur.size) : (putCells (Value.int .i64) 0 ys.toArray cur).toList.take N = vI64 ys := by
  apply List.ext_getElem?
  intro k
  rw [List.getElem?_take]
  unfold vI64
  rw [List.getElem?_map]
  by_cases hk : k < N
  · rw [if_pos hk, Array.getElem?_toList]
    unfold putCells
    rw [Array.getElem?_mapIdx, Array.getElem?_eq_getElem (by omega), Option.map_some, List.getElem?_eq_getElem (by omega), Option.map_some]
    have h1 : (0 ≤ k ∧ k < 0 + ys.toArray.size) := ⟨by omega, by simp; omega⟩
    rw [if_pos h1]
    have h2 : ys.toArray[k - 0]! = ys[k]'(by omega) := by
      rw [Nat.sub_zero, getElem!_pos _ k (by simp; omega)]
      simp
    rw [h2]
  · rw [if_neg hk, List.getElem?_eq_none (by omega)]
    rfl
theorem heap_put {w : World} {g q : Nat} {cur : Array Value} {e : TypeId} (ys : Array Int) (os : Array Obj) (hg : w.heap[g]? = some (.cells cur e (0, 0))) :
    (grow (putRow (Value.int .i64) (Sort.ahead w q) g 0 ys) os).heap[g]? = some (.cells (putCells (Value.int .i64) 0 ys cur) e (0, 0)) ∧ w.grownBy (grow (putRow (Value.int .i64) (Sort.ahead w q) g 0 ys) os) (some g) := by
  have hlt : g < w.heap.size := (Array.getElem?_eq_some_iff.1 hg).1
  constructor
  · show ((w.heap.modify g (onCells (putCells (Value.int .i64) 0 ys))) ++ os)[g]? = _
    rw [Array.getElem?_append_left (by simpa using hlt), Array.getElem?_modify, if_pos rfl, hg]
    rfl
  · refine ⟨rfl, rfl, rfl, by simp [grow, putRow, mapBlock], fun k hk hne => ?_⟩
    have hkg : ¬ g = k := fun e => hne (by rw [e])
    show ((w.heap.modify g (onCells (putCells (Value.int .i64) 0 ys))) ++ os)[k]? = _
    rw [Array.getElem?_append_left (by simpa using hk), Array.getElem?_modify, if_neg hkg]
/-- A row of numbers, its cells known. -/
theorem own_blk22 {w : World} {base g c N : Nat} {e : TypeId} {xs : List Value} (h : w.ownsRow base e 1 (.slice (some ⟨g, 0, none⟩) N c) N xs) : ∃ cur, w.heap[g]? = some (.cells cur e (0, 0)) ∧ base ≤ g ∧ N ≤ c ∧ c ≤ maxLen ∧ cur.size = c * 1 ∧ cur.toList.take (N * 1) = xs := by
  rcases h.2 with ⟨hv, _⟩ | ⟨g', cap, cur, hv, hb, hg, hn, hc, hs, ht⟩
  · cases hv
  · injection hv with h1 h2 h3
    injection h1 with h1
    injection h1 with h1
    subst h1
    subst h3
    exact ⟨cur, hg, hb, hn, hc, hs, ht⟩
theorem own_put {w : World} {base g c N q : Nat} {e : TypeId} {xs : List Value} {ys : List Int} (os : Array Obj) (h : w.ownsRow base e 1 (.slice (some ⟨g, 0, none⟩) N c) N xs) (hy : ys.length = N) :
    (grow (putRow (Value.int .i64) (Sort.ahead w q) g 0 ys.toArray) os).ownsRow base e 1 (.slice (some ⟨g, 0, none⟩) N c) N (vI64 ys) ∧ w.grownBy (grow (putRow (Value.int .i64) (Sort.ahead w q) g 0 ys.toArray) os) (some g) := by
  obtain ⟨cur, hg, hb, hn, hc, hs, ht⟩ := own_blk22 h
  obtain ⟨h1, h2⟩ := heap_put (q := q) ys.toArray os hg
  refine ⟨⟨by rw [vI64_len]; omega, .inr ⟨g, c, _, rfl, hb, h1, hn, hc, by rw [put_size]; exact hs, ?_⟩⟩, h2⟩
  rw [Nat.mul_one]
  exact put_take hy (by omega)
theorem own_short {w : World} {base g c N M : Nat} {e : TypeId} {xs : List Value} (h : w.ownsRow base e 1 (.slice (some ⟨g, 0, none⟩) N c) N xs) (hM : M ≤ N) : w.ownsRow base e 1 (.slice (some ⟨g, 0, none⟩) M c) M (xs.take M) := by
  obtain ⟨cur, hg, hb, hn, hc, hs, ht⟩ := own_blk22 h
  have hl := h.1
  refine ⟨by rw [List.length_take]; omega, .inr ⟨g, c, cur, rfl, hb, hg, by omega, hc, hs, ?_⟩⟩
  rw [← ht, Nat.mul_one, Nat.mul_one, List.take_take]
  congr 1
  omega
theorem own_holds {w : World} {base g c N : Nat} {e : TypeId} {zs : List Int} (h : w.ownsRow base e 1 (.slice (some ⟨g, 0, none⟩) N c) N (vI64 zs)) (hz : zs.length = N) : Holds (Value.int .i64) w g 0 zs.toArray := by
  obtain ⟨cur, hg, hb, hn, hc, hs, ht⟩ := own_blk22 h
  intro j hj
  have hj' : j < zs.length := by simpa using hj
  have hB : Blk w g e cur := hg
  constructor
  · have h1 := h.cells (g := g) rfl j (.int .i64 zs[j]) (by unfold vI64; rw [List.getElem?_map, List.getElem?_eq_getElem hj']; rfl)
    rw [add_head] at h1
    rw [Nat.zero_add, h1, getElem!_pos _ j hj]
    simp
  · rw [Nat.zero_add]
    exact hB.frozen j
def condL (l : List Int) : List Int := Lib.compact (l.mergeSort fun x y => decide (x ≤ y))

set_option maxRecDepth 100000 in
set_option maxHeartbeats 8000000 in
theorem conds22_any (p : Pt) (w : World) (hp : PtIn w w.heap.size p) (hn : p.cn + p.mn ≤ 300) : Calls Tryz.prog 11 #[p.agg] w fun e w' => ∃ A n c, e = .returned (.slice A n c) ∧ n ≤ 300 ∧ Reads w' w'.heap.size 1 A n (vI64 (condL (p.cs ++ p.mo))) ∧ Below w.heap.size w w' := by
  have hlc : p.cs.length = p.cn := by have := hp.cs.1; rw [vI64_len] at this; omega
  have hlm : p.mo.length = p.mn := by have := hp.mo.1; rw [vI64_len] at this; omega
  have HP := Lib.hid fun (W : World) (hb : Below w.heap.size w W) => hp.below hb
  clear hp
  obtain ⟨k0, ix0, RA0, rn0, rc0, CA0, cn0, cc0, ot0, AA0, an0, ac0, MA0, mn0, mc0, rg0, cs0, al0, mo0⟩ := p
  simp only [Pt.agg] at *
  have hzl : (cs0 ++ mo0).length = cn0 + mn0 := by rw [List.length_append]; omega
  have hb0 : Below w.heap.size w ((w.alloc (.cells #[.int .u8 k0, .int .i64 ix0, .slice RA0 rn0 rc0, .slice CA0 cn0 cc0, .int .i64 ot0, .slice AA0 an0 ac0, .slice MA0 mn0 mc0] 29)).alloc (.cells #[.slice CA0 cn0 cc0, .slice MA0 mn0 mc0] 27)) := ball (ball (Below.refl _ _) _) _
  have HP0 := HP.out _ hb0
  have HCC := Lib.hid (concat22_any ⟨w.heap.size + 1, 0, none⟩ CA0 cn0 cc0 cs0 MA0 mn0 mc0 mo0 _ (reads_at _ _ _ (by simp) rfl rfl |>.more (by simp)) HP0.cs HP0.mo hn)
  have HZ := Lib.hid (And.intro hzl hn)
  clear HP HP0 hzl hlc hlm hn
  obtain ⟨zs, hzs⟩ : ∃ zs, cs0 ++ mo0 = zs := ⟨_, rfl⟩
  obtain ⟨N, hN⟩ : ∃ N, cn0 + mn0 = N := ⟨_, rfl⟩
  rw [hzs, hN] at HCC HZ
  rw [hzs]
  clear hzs hN
  go_enter Tryz.func11, Tryz.ntmps11
  go_wp2_with fail
  refine HCC.out.mono ?_
  rintro e w1 ⟨v1, rfl, own1, hb1⟩
  obtain ⟨A1, c1, rfl, hnc, hcm, hnone, hsome⟩ := own_cap22 own1
  have hbw := bto0 hb0 hb1
  have hown := own_lower own1 hb0.size
  clear own1 hb1
  by_cases h0 : N = 0
  · subst h0
    have hz0 : zs = [] := List.length_eq_zero_iff.1 HZ.out.1
    clear hown hnone hsome
    go_wp2_with fail
    refine (Tryz.slices_Sort_int_none A1 c1 _).mono ?_
    rintro e w2 ⟨rfl, rfl⟩
    go_wp2_with fail
    refine (Tryz.slices_Compact_int_empty A1 c1 _).mono ?_
    rintro e w3 ⟨rfl, rfl⟩
    go_wp2
    go_ret
    refine ⟨A1, 0, c1, rfl, by omega, ?_, hbw⟩
    subst hz0
    exact ⟨by simp [condL, vI64, Lib.compact, Lib.compactUpTo], fun h => absurd h (by omega)⟩
  · obtain ⟨ad, rfl⟩ : ∃ ad, A1 = some ad := by
      cases A1 with
      | none => exact absurd (hnone rfl).1 h0
      | some ad => exact ⟨ad, rfl⟩
    obtain ⟨g, rfl⟩ := hsome ad rfl
    obtain ⟨cur, hg, hgb, _⟩ := own_blk22 hown
    have hglt : g < w1.heap.size := (Array.getElem?_eq_some_iff.1 hg).1
    have S1 := Tryz.slices_Sort_int g 0 c1 zs w1 (own_holds hown HZ.out.1) hglt (by rw [HZ.out.1]; have := HZ.out.2; omega)
    rw [HZ.out.1] at S1
    have hys : (zs.mergeSort fun x y => decide (x ≤ y)).length = N := by rw [List.length_mergeSort]; exact HZ.out.1
    have S1 := Lib.hid S1
    have HO := Lib.hid (And.intro hown (And.intro hbw hgb))
    have HY := Lib.hid hys
    clear hg hown hbw hnone hsome hys
    obtain ⟨ys, hyz⟩ : ∃ ys, (zs.mergeSort fun x y => decide (x ≤ y)) = ys := ⟨_, rfl⟩
    rw [hyz] at S1 HY
    have HYZ := Lib.hid hyz
    clear hyz
    go_wp2_with fail
    refine S1.out.mono ?_
    rintro e w2 ⟨rfl, q, os, hw2⟩
    obtain ⟨own2, hg2⟩ := own_put (q := q) os HO.out.1 HY.out
    rw [← hw2] at own2 hg2
    have S2 := Tryz.slices_Compact_int g 0 c1 ys w2 (own_holds own2 HY.out) (by rw [HY.out]; have := HZ.out.2; omega) (by rw [HY.out]; exact hnc)
    rw [HY.out] at S2
    have hcl := Lib.compact_length_le ys
    rw [HY.out] at hcl
    have S2 := Lib.hid S2
    have H2 := Lib.hid (And.intro own2 (And.intro hg2 hcl))
    clear own2 hg2 hw2 hcl
    go_wp2_with fail
    refine S2.out.mono ?_
    rintro e w3 ⟨rfl, q2, hw3⟩
    rw [← grow_empty (putRow _ _ _ _ _)] at hw3
    obtain ⟨own3, hg3⟩ := own_put (q := q2) (ys := Lib.compact ys ++ List.replicate (N - (Lib.compact ys).length) 0) #[] H2.out.1 (by rw [List.length_append, List.length_replicate]; have := H2.out.2.2; omega)
    rw [← hw3] at own3 hg3
    have own4 := own_short own3 H2.out.2.2
    have e4 : (vI64 (Lib.compact ys ++ List.replicate (N - (Lib.compact ys).length) 0)).take (Lib.compact ys).length = vI64 (Lib.compact ys) := by
      rw [vI64_app]
      exact List.take_left' (by rw [vI64_len])
    rw [e4] at own4
    have hb2 : Below w.heap.size w w2 := HO.out.2.1.grown H2.out.2.1 (by have := HO.out.2.1.size; omega) (fun k hk => by injection hk with hk; subst hk; exact HO.out.2.2)
    have hb3 : Below w.heap.size w w3 := hb2.grown hg3 (by have := hb2.size; omega) (fun k hk => by injection hk with hk; subst hk; exact HO.out.2.2)
    have hr4 := Reads.of_own own4
    have hle := H2.out.2.2
    have HF := Lib.hid (And.intro hb3 (And.intro hr4 hle))
    clear own3 own4 hg3 hw3 e4 hb2 hb3 hr4 hle
    go_wp2
    go_ret
    exact ⟨_, _, _, rfl, by have := HF.out.2.2; have := HZ.out.2; omega, (by have h := HF.out.2.1; rw [← HYZ.out] at h ⊢; exact h), HF.out.1⟩
end Go.Proofs.YtoamnnonkhgpoaaGreatDoor
