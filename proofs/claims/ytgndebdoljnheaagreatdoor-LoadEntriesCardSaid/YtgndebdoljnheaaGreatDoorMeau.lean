/-
  Several texts in one: M6 Me3 M7.
-/
import Derived.Test.YtgndebdoljnheaaGreatDoorMeas
import Derived.Test.YtgndebdoljnheaaGreatDoorMeac
import Derived.Lib.RowBridge
import Derived.Deep.RegionHeld3
import Derived.BigQuiet
/-
  A row of values of one's own is sorted.
-/
namespace Go.Proofs.YtgndebdoljnheaaGreatDoor
section
set_option linter.unusedSimpArgs false
set_option linter.unusedVariables false
open Go.RowKit Go.Lib

instance inhVl13 : Inhabited Vl := ⟨⟨0, 0, ⟨#[]⟩⟩⟩
theorem getE_of {l : List Value} {i : Nat} {u : Value} (h : l[i]? = some u) : l[i]! = u := by
  rw [List.getElem!_eq_getElem?_getD, h]; rfl
theorem flat_list (d : List Vl) : (Sort.flatK Vl.cells 3 d.toArray).toList = vV d := by
  apply List.ext_getElem?
  intro t
  by_cases ht : t < d.length * 3
  · have h1 : (Sort.flatK Vl.cells 3 d.toArray).toList[t]? = some ((Sort.flatK Vl.cells 3 d.toArray)[t]!) := by
      rw [Array.getElem?_toList, Array.getElem?_eq_getElem (by rw [Sort.size_flatK]; simpa using ht), getElem!_pos _ t (by rw [Sort.size_flatK]; simpa using ht)]
    rw [h1, Sort.get_flatK _ _ _ t (by simpa using ht)]
    have hk : t / 3 < d.length := by omega
    have hv : d[t / 3]? = some (d[t / 3]'hk) := List.getElem?_eq_getElem hk
    have h2 := vV_at hv (t % 3) (Nat.mod_lt _ (by omega))
    rw [show t / 3 * 3 + t % 3 = t from by omega] at h2
    rw [h2]
    have h3 : d.toArray[t / 3]! = d[t / 3]'hk := by rw [getElem!_pos _ _ (by simpa using hk)]; simp
    rw [h3]
    have h4 : (d[t / 3]'hk).cells[t % 3]? = some ((d[t / 3]'hk).cells[t % 3]'(by rw [Vl.len]; exact Nat.mod_lt _ (by omega))) := List.getElem?_eq_getElem _
    rw [h4, getE_of h4]
  · rw [List.getElem?_eq_none (by rw [Array.length_toList, Sort.size_flatK]; simpa using ht), List.getElem?_eq_none (by rw [vV_len]; omega)]
theorem putK_take {F : Array Value} {cur : Array Value} (hN : F.size ≤ cur.size) : (Sort.putCells id 0 F cur).toList.take F.size = F.toList := by
  apply List.ext_getElem?
  intro k
  rw [List.getElem?_take]
  by_cases hk : k < F.size
  · rw [if_pos hk, Array.getElem?_toList, Array.getElem?_toList]
    unfold Sort.putCells
    rw [Array.getElem?_mapIdx, Array.getElem?_eq_getElem (by omega), Option.map_some, Array.getElem?_eq_getElem hk, if_pos ⟨by omega, by omega⟩, Nat.sub_zero, getElem!_pos _ k hk]
    rfl
  · rw [if_neg hk, List.getElem?_eq_none (by rw [Array.length_toList]; omega)]
theorem heap_putK {w : World} {g q : Nat} {cur : Array Value} {e : TypeId} (F : Array Value) (os : Array Obj) (hg : w.heap[g]? = some (.cells cur e (0, 0))) :
    (Sort.grow (Sort.putRow id (Sort.ahead w q) g 0 F) os).heap[g]? = some (.cells (Sort.putCells id 0 F cur) e (0, 0)) ∧ w.grownBy (Sort.grow (Sort.putRow id (Sort.ahead w q) g 0 F) os) (some g) := by
  have hlt : g < w.heap.size := (Array.getElem?_eq_some_iff.1 hg).1
  constructor
  · show ((w.heap.modify g (Sort.onCells (Sort.putCells id 0 F))) ++ os)[g]? = _
    rw [Array.getElem?_append_left (by simpa using hlt), Array.getElem?_modify, if_pos rfl, hg]
    rfl
  · refine ⟨rfl, rfl, rfl, by simp [Sort.grow, Sort.putRow, Sort.mapBlock], fun k hk hne => ?_⟩
    have hkg : ¬ g = k := fun e => hne (by rw [e])
    show ((w.heap.modify g (Sort.onCells (Sort.putCells id 0 F))) ++ os)[k]? = _
    rw [Array.getElem?_append_left (by simpa using hk), Array.getElem?_modify, if_neg hkg]
theorem own_blk13 {w : World} {base g c N : Nat} {e : TypeId} {xs : List Value} (h : w.ownsRow base e 3 (.slice (some ⟨g, 0, none⟩) N c) N xs) : ∃ cur, w.heap[g]? = some (.cells cur e (0, 0)) ∧ base ≤ g ∧ N ≤ c ∧ c ≤ maxLen ∧ cur.size = c * 3 ∧ cur.toList.take (N * 3) = xs := by
  rcases h.2 with ⟨hv, _⟩ | ⟨g', cap, cur, hv, hb, hg, hn, hc, hs, ht⟩
  · cases hv
  · injection hv with h1 h2 h3
    injection h1 with h1
    injection h1 with h1
    subst h1
    subst h3
    exact ⟨cur, hg, hb, hn, hc, hs, ht⟩
theorem own_put13 {w : World} {base g c N q : Nat} {e : TypeId} {xs : List Value} {ys : List Vl} (os : Array Obj) (h : w.ownsRow base e 3 (.slice (some ⟨g, 0, none⟩) N c) N xs) (hy : ys.length = N) :
    (sortWorldK Vl.cells 3 w g 0 q ys.toArray os).ownsRow base e 3 (.slice (some ⟨g, 0, none⟩) N c) N (vV ys) ∧ w.grownBy (sortWorldK Vl.cells 3 w g 0 q ys.toArray os) (some g) := by
  obtain ⟨cur, hg, hb, hn, hc, hs, ht⟩ := own_blk13 h
  obtain ⟨h1, h2⟩ := heap_putK (q := q) (Sort.flatK Vl.cells 3 ys.toArray) os hg
  have hF : (Sort.flatK Vl.cells 3 ys.toArray).size = N * 3 := by rw [Sort.size_flatK]; simp [hy]
  refine ⟨⟨by rw [vV_len, hy], .inr ⟨g, c, _, rfl, hb, h1, hn, hc, by simp [Sort.putCells, hs], ?_⟩⟩, h2⟩
  have h3 := putK_take (F := Sort.flatK Vl.cells 3 ys.toArray) (cur := cur) (by rw [hF, hs]; omega)
  rw [hF, flat_list] at h3
  exact h3
theorem own_holds13 {w : World} {base g c N : Nat} {e : TypeId} {zs : List Vl} (h : w.ownsRow base e 3 (.slice (some ⟨g, 0, none⟩) N c) N (vV zs)) (hz : zs.length = N) : Sort.HoldsK Vl.cells 3 w g 0 zs.toArray := by
  obtain ⟨cur, hg, hb, hn, hc, hs, ht⟩ := own_blk13 h
  intro j hj
  have hB : Blk w g e cur := hg
  rw [Sort.size_flatK] at hj
  have hj' : j < zs.length * 3 := by simpa using hj
  constructor
  · have hu : (vV zs)[j]? = some ((Sort.flatK Vl.cells 3 zs.toArray)[j]!) := by
      rw [← flat_list, Array.getElem?_toList, Array.getElem?_eq_getElem (by rw [Sort.size_flatK]; exact hj), getElem!_pos _ j (by rw [Sort.size_flatK]; exact hj)]
    have h1 := h.cells (g := g) rfl j _ hu
    rw [add_head] at h1
    rw [Nat.zero_add, h1]
    rfl
  · rw [Nat.zero_add]
    exact hB.frozen j
theorem cmpLays13 (blk off size : Nat) (w : World) : CmpLays Tryz.prog 21 #[] Vl.cells 3 cmpV blk off size w :=
  fun _ _ _ _ x y => compare13_any x y _
theorem isAgg13 (W : World) : (isAgg 35).run Tryz.prog W = .ok true W := by kernel_rfl
theorem sizeOf13 (W : World) : (Go.sizeOf 35).run Tryz.prog W = .ok 3 W := by kernel_rfl
/-- What the sort leaves. -/
def RetSo13 (w : World) (base : Nat) (v : Value) (n : Nat) (l : List Vl) (e : Ending) (w' : World) : Prop :=
  e = .returned (.tuple #[]) ∧ ∃ l', l'.Perm l ∧ (∀ (i j : Nat) (x y : Vl), i ≤ j → l'[i]? = some x → l'[j]? = some y → cmpV x y ≤ 0) ∧ w'.ownsRow base 35 3 v n (vV l') ∧ w.grownBy w' v.ownBlock
theorem sort13_any (l : List Vl) (n : Nat) (A : Option Addr) (c base : Nat) (w : World) (h : w.ownsRow base 35 3 (.slice A n c) n (vV l)) (hn : n ≤ 100000000) :
    Calls Tryz.prog 20 #[.slice A n c, .func (.func 21) #[] #[]] w (RetSo13 w base (.slice A n c) n l) := by
  have hl : l.length = n := by have := h.1; rw [vV_len] at this; omega
  have eg : ∀ args w, (callFunc 21 args).run Tryz.prog w = .ok (.enter 21 args) w := enters_of Tryz.func21 (by kernel_rfl) rfl
  by_cases h0 : n = 0
  · subst h0
    obtain rfl : l = [] := List.length_eq_zero_iff.1 hl
    have hcon := AnyF.slices_SortFunc_none { Tryz.sortVal with } A c (.func (.func 21) #[] #[]) w
    change Calls Tryz.prog 20 _ _ _ at hcon
    exact hcon.mono fun e w' ⟨he, hw⟩ => ⟨he, [], List.Perm.refl _, fun i j x y _ hx => by simp at hx, by rw [hw]; exact h, by rw [hw]; exact World.grownBy.refl w _⟩
  · obtain ⟨ad, hA, hb, _⟩ := (Reads.of_own h).2 (by omega)
    obtain ⟨g, cap, hv, hbg, hlt⟩ := h.form (by omega)
    injection hv with hv1 hv2 hv3
    subst hv1
    have hH := own_holds13 h hl
    have hcon := AnyQ.slices_SortFunc Tryz.sortVal 3 isAgg13 sizeOf13 Vl.cells (fun x => x.len) (fun x v hv => by
      simp only [Vl.cells, List.mem_cons, List.not_mem_nil, or_false] at hv
      rcases hv with rfl | rfl | rfl <;> rfl) cmpV swo13 21 #[] g 0 c l.toArray w eg (cmpLays13 g 0 _ w) hH hlt (by simp; omega)
    have hcon2 : Calls Tryz.prog 20 #[.slice (some ⟨g, 0, none⟩) l.toArray.size c, .func (.func 21) #[] #[]] w _ := hcon
    rw [show l.toArray.size = n from by simp [hl]] at hcon2
    refine hcon2.mono fun e w' ⟨he, d', q, os, hp, hs, hw⟩ => ⟨he, d'.toList, ?_, ?_, ?_⟩
    · have h3 := hp.2.2
      have e1 : d'.extract 0 n = d' := by rw [Array.extract_eq_self_of_le]; have := hp.1; simp at this; omega
      have e2 : l.toArray.extract 0 n = l.toArray := by rw [Array.extract_eq_self_of_le]; simp [hl]
      rw [e1, e2] at h3
      simpa using h3
    · intro i j x y hij hx hy
      have hd : d'.size = n := by have := hp.1; simp at this; omega
      have hj := lt_of_at hy
      rw [Array.length_toList, hd] at hj
      rcases Nat.lt_or_ge i j with h1 | h1
      · have h2 := hs i j (Nat.zero_le _) h1 hj
        have ex : d'[i]! = x := by
          rw [Array.getElem?_toList] at hx
          rw [getElem!_pos _ i (by omega)]
          rw [Array.getElem?_eq_getElem (by omega)] at hx
          exact Option.some.inj hx
        have ey : d'[j]! = y := by
          rw [Array.getElem?_toList] at hy
          rw [getElem!_pos _ j (by omega)]
          rw [Array.getElem?_eq_getElem (by omega)] at hy
          exact Option.some.inj hy
        rw [ex, ey] at h2
        unfold ltOf at h2
        rw [decide_eq_false_iff_not] at h2
        have := cmpV_swap x y
        omega
      · obtain rfl : i = j := by omega
        rw [hx] at hy
        obtain rfl := Option.some.inj hy
        have := cmpV_swap x x
        omega
    · have hlen : d'.toList.length = n := by have := hp.1; simp at this ⊢; omega
      have h3 := own_put13 (q := q) (ys := d'.toList) os h hlen
      rw [Array.toArray_toList] at h3
      rw [hw]
      exact h3
end
end Go.Proofs.YtgndebdoljnheaaGreatDoor
/-
  A row of entries of one's own is sorted: there is one such row alone.
-/
namespace Go.Proofs.YtgndebdoljnheaaGreatDoor
section
set_option linter.unusedSimpArgs false
set_option linter.unusedVariables false
open Go.RowKit Go.Lib

instance inhEn13 : Inhabited En := ⟨⟨⟨#[]⟩, 0, 0⟩⟩
theorem flat_list_En (d : List En) : (Sort.flatK En.cells 3 d.toArray).toList = vE d := by
  apply List.ext_getElem?
  intro t
  by_cases ht : t < d.length * 3
  · have h1 : (Sort.flatK En.cells 3 d.toArray).toList[t]? = some ((Sort.flatK En.cells 3 d.toArray)[t]!) := by
      rw [Array.getElem?_toList, Array.getElem?_eq_getElem (by rw [Sort.size_flatK]; simpa using ht), getElem!_pos _ t (by rw [Sort.size_flatK]; simpa using ht)]
    rw [h1, Sort.get_flatK _ _ _ t (by simpa using ht)]
    have hk : t / 3 < d.length := by omega
    have hv : d[t / 3]? = some (d[t / 3]'hk) := List.getElem?_eq_getElem hk
    have h2 := vE_at hv (t % 3) (Nat.mod_lt _ (by omega))
    rw [show t / 3 * 3 + t % 3 = t from by omega] at h2
    rw [h2]
    have h3 : d.toArray[t / 3]! = d[t / 3]'hk := by rw [getElem!_pos _ _ (by simpa using hk)]; simp
    rw [h3]
    have h4 : (d[t / 3]'hk).cells[t % 3]? = some ((d[t / 3]'hk).cells[t % 3]'(by rw [En.len]; exact Nat.mod_lt _ (by omega))) := List.getElem?_eq_getElem _
    rw [h4, getE_of h4]
  · rw [List.getElem?_eq_none (by rw [Array.length_toList, Sort.size_flatK]; simpa using ht), List.getElem?_eq_none (by rw [vE_len]; omega)]
theorem own_put_En {w : World} {base g c N q : Nat} {e : TypeId} {xs : List Value} {ys : List En} (os : Array Obj) (h : w.ownsRow base e 3 (.slice (some ⟨g, 0, none⟩) N c) N xs) (hy : ys.length = N) :
    (sortWorldK En.cells 3 w g 0 q ys.toArray os).ownsRow base e 3 (.slice (some ⟨g, 0, none⟩) N c) N (vE ys) ∧ w.grownBy (sortWorldK En.cells 3 w g 0 q ys.toArray os) (some g) := by
  obtain ⟨cur, hg, hb, hn, hc, hs, ht⟩ := own_blk13 h
  obtain ⟨h1, h2⟩ := heap_putK (q := q) (Sort.flatK En.cells 3 ys.toArray) os hg
  have hF : (Sort.flatK En.cells 3 ys.toArray).size = N * 3 := by rw [Sort.size_flatK]; simp [hy]
  refine ⟨⟨by rw [vE_len, hy], .inr ⟨g, c, _, rfl, hb, h1, hn, hc, by simp [Sort.putCells, hs], ?_⟩⟩, h2⟩
  have h3 := putK_take (F := Sort.flatK En.cells 3 ys.toArray) (cur := cur) (by rw [hF, hs]; omega)
  rw [hF, flat_list_En] at h3
  exact h3
theorem own_holds_En {w : World} {base g c N : Nat} {e : TypeId} {zs : List En} (h : w.ownsRow base e 3 (.slice (some ⟨g, 0, none⟩) N c) N (vE zs)) (hz : zs.length = N) : Sort.HoldsK En.cells 3 w g 0 zs.toArray := by
  obtain ⟨cur, hg, hb, hn, hc, hs, ht⟩ := own_blk13 h
  intro j hj
  have hB : Blk w g e cur := hg
  rw [Sort.size_flatK] at hj
  have hj' : j < zs.length * 3 := by simpa using hj
  constructor
  · have hu : (vE zs)[j]? = some ((Sort.flatK En.cells 3 zs.toArray)[j]!) := by
      rw [← flat_list_En, Array.getElem?_toList, Array.getElem?_eq_getElem (by rw [Sort.size_flatK]; exact hj), getElem!_pos _ j (by rw [Sort.size_flatK]; exact hj)]
    have h1 := h.cells (g := g) rfl j _ hu
    rw [add_head] at h1
    rw [Nat.zero_add, h1]
    rfl
  · rw [Nat.zero_add]
    exact hB.frozen j
theorem cmpLays_En (blk off size : Nat) (w : World) : CmpLays Tryz.prog 27 #[] En.cells 3 cmpE blk off size w :=
  fun _ _ _ _ x y => compareG_any x y _
theorem isAgg_En (W : World) : (isAgg 53).run Tryz.prog W = .ok true W := by kernel_rfl
theorem sizeOf_En (W : World) : (Go.sizeOf 53).run Tryz.prog W = .ok 3 W := by kernel_rfl
/-- What the sort leaves. -/
def RetSoEn (w : World) (base : Nat) (v : Value) (n : Nat) (l : List En) (e : Ending) (w' : World) : Prop :=
  e = .returned (.tuple #[]) ∧ ∃ l', l'.Perm l ∧ (∀ (i j : Nat) (x y : En), i ≤ j → l'[i]? = some x → l'[j]? = some y → cmpE x y ≤ 0) ∧ w'.ownsRow base 53 3 v n (vE l') ∧ w.grownBy w' v.ownBlock
theorem sort_any_En (l : List En) (n : Nat) (A : Option Addr) (c base : Nat) (w : World) (h : w.ownsRow base 53 3 (.slice A n c) n (vE l)) (hn : n ≤ 100000000) :
    Calls Tryz.prog 26 #[.slice A n c, .func (.func 27) #[] #[]] w (RetSoEn w base (.slice A n c) n l) := by
  have hl : l.length = n := by have := h.1; rw [vE_len] at this; omega
  have eg : ∀ args w, (callFunc 27 args).run Tryz.prog w = .ok (.enter 27 args) w := enters_of Tryz.func27 (by kernel_rfl) rfl
  by_cases h0 : n = 0
  · subst h0
    obtain rfl : l = [] := List.length_eq_zero_iff.1 hl
    have hcon := AnyF.slices_SortFunc_none { Tryz.sortEnt with } A c (.func (.func 27) #[] #[]) w
    change Calls Tryz.prog 26 _ _ _ at hcon
    exact hcon.mono fun e w' ⟨he, hw⟩ => ⟨he, [], List.Perm.refl _, fun i j x y _ hx => by simp at hx, by rw [hw]; exact h, by rw [hw]; exact World.grownBy.refl w _⟩
  · obtain ⟨ad, hA, hb, _⟩ := (Reads.of_own h).2 (by omega)
    obtain ⟨g, cap, hv, hbg, hlt⟩ := h.form (by omega)
    injection hv with hv1 hv2 hv3
    subst hv1
    have hH := own_holds_En h hl
    have hcon := AnyQ.slices_SortFunc Tryz.sortEnt 3 isAgg_En sizeOf_En En.cells (fun x => x.len) (fun x v hv => by
      simp only [En.cells, List.mem_cons, List.not_mem_nil, or_false] at hv
      rcases hv with rfl | rfl | rfl <;> rfl) cmpE swoE 27 #[] g 0 c l.toArray w eg (cmpLays_En g 0 _ w) hH hlt (by simp; omega)
    have hcon2 : Calls Tryz.prog 26 #[.slice (some ⟨g, 0, none⟩) l.toArray.size c, .func (.func 27) #[] #[]] w _ := hcon
    rw [show l.toArray.size = n from by simp [hl]] at hcon2
    refine hcon2.mono fun e w' ⟨he, d', q, os, hp, hs, hw⟩ => ⟨he, d'.toList, ?_, ?_, ?_⟩
    · have h3 := hp.2.2
      have e1 : d'.extract 0 n = d' := by rw [Array.extract_eq_self_of_le]; have := hp.1; simp at this; omega
      have e2 : l.toArray.extract 0 n = l.toArray := by rw [Array.extract_eq_self_of_le]; simp [hl]
      rw [e1, e2] at h3
      simpa using h3
    · intro i j x y hij hx hy
      have hd : d'.size = n := by have := hp.1; simp at this; omega
      have hj := lt_of_at hy
      rw [Array.length_toList, hd] at hj
      rcases Nat.lt_or_ge i j with h1 | h1
      · have h2 := hs i j (Nat.zero_le _) h1 hj
        have ex : d'[i]! = x := by
          rw [Array.getElem?_toList] at hx
          rw [getElem!_pos _ i (by omega)]
          rw [Array.getElem?_eq_getElem (by omega)] at hx
          exact Option.some.inj hx
        have ey : d'[j]! = y := by
          rw [Array.getElem?_toList] at hy
          rw [getElem!_pos _ j (by omega)]
          rw [Array.getElem?_eq_getElem (by omega)] at hy
          exact Option.some.inj hy
        rw [ex, ey] at h2
        unfold ltOf at h2
        rw [decide_eq_false_iff_not] at h2
        have := cmpE_swap x y
        omega
      · obtain rfl : i = j := by omega
        rw [hx] at hy
        obtain rfl := Option.some.inj hy
        have := cmpE_swap x x
        omega
    · have hlen : d'.toList.length = n := by have := hp.1; simp at this ⊢; omega
      have h3 := own_put_En (q := q) (ys := d'.toList) os h hlen
      rw [Array.toArray_toList] at h3
      rw [hw]
      exact h3

def leE (a b : En) : Bool := decide (cmpE a b ≤ 0)
/-- The sorted row. -/
def sortE (l : List En) : List En := l.mergeSort leE
theorem sortE_perm (l : List En) : (sortE l).Perm l := List.mergeSort_perm l leE
theorem sortE_pw (l : List En) : (sortE l).Pairwise fun a b => cmpE a b ≤ 0 := by
  have h := List.pairwise_mergeSort (le := leE) (fun a b c h1 h2 => by
    unfold leE at *
    simp only [decide_eq_true_eq] at *
    exact cmpE_trans a b c h1 h2) (fun a b => by
    unfold leE
    have := cmpE_swap a b
    simp only [Bool.or_eq_true, decide_eq_true_eq]
    omega) l
  exact h.imp fun h => by simpa [leE] using h
theorem eq_sortE {l l' : List En} (hp : l'.Perm l) (hw : l'.Pairwise fun a b => cmpE a b ≤ 0) : l' = sortE l :=
  List.Perm.eq_of_pairwise (fun a b _ _ h1 h2 => cmpE_zero (by have := cmpE_swap a b; omega)) hw (sortE_pw l) (hp.trans (sortE_perm l).symm)
theorem pw_of {l : List En} (h : ∀ (i j : Nat) (x y : En), i ≤ j → l[i]? = some x → l[j]? = some y → cmpE x y ≤ 0) : l.Pairwise fun a b => cmpE a b ≤ 0 := by
  rw [List.pairwise_iff_getElem]
  intro i j hi hj hij
  exact h i j _ _ (by omega) (List.getElem?_eq_getElem hi) (List.getElem?_eq_getElem hj)
/-- What the sort leaves, by the one sorted row. -/
def RetSoE (w : World) (base : Nat) (v : Value) (n : Nat) (l : List En) (e : Ending) (w' : World) : Prop :=
  e = .returned (.tuple #[]) ∧ w'.ownsRow base 53 3 v n (vE (sortE l)) ∧ w.grownBy w' v.ownBlock
theorem sortE_any (l : List En) (n : Nat) (A : Option Addr) (c base : Nat) (w : World) (h : w.ownsRow base 53 3 (.slice A n c) n (vE l)) (hn : n ≤ 100000000) :
    Calls Tryz.prog 26 #[.slice A n c, .func (.func 27) #[] #[]] w (RetSoE w base (.slice A n c) n l) := by
  refine (sort_any_En l n A c base w h hn).mono fun e w' ⟨he, l', hp, hs, ho, hg⟩ => ⟨he, ?_, hg⟩
  rw [← eq_sortE hp (pw_of hs)]
  exact ho
end
end Go.Proofs.YtgndebdoljnheaaGreatDoor
/-
  How many different values there are in a row that rises, the program's way.
-/
namespace Go.Proofs.YtgndebdoljnheaaGreatDoor
section
set_option linter.unusedSimpArgs false
set_option linter.unusedVariables false
open Go.RowKit

def eqV (a b : Vl) : Bool := decide (cmpV a b = 0)
theorem eqV_eqR : EqR eqV where
  refl x := by have h := cmpV_swap x x; unfold eqV; rw [decide_eq_true_eq]; omega
  symm x y h := by unfold eqV at *; rw [decide_eq_true_eq] at *; have h2 := cmpV_swap x y; omega
  trans x y z h1 h2 := by
    unfold eqV at *
    rw [decide_eq_true_eq] at *
    have s1 := cmpV_swap x y
    have s2 := cmpV_swap y z
    have s3 := cmpV_swap x z
    have a := cmpV_trans x y z (by omega) (by omega)
    have b := cmpV_trans z y x (by omega) (by omega)
    omega
theorem eqV_le (x y z : Vl) (h1 : cmpV x y ≤ 0) (h2 : cmpV y z ≤ 0) (h : eqV x z = true) : eqV y z = true := by
  unfold eqV at *
  rw [decide_eq_true_eq] at *
  exact ((cmpV_trans x y z h1 h2).2 h).2
set_option maxHeartbeats 1000000 in
theorem same13_any (a b : Vl) (w : World) : Calls Tryz.prog 23 #[a.agg, b.agg] w (RetB w (.bool (eqV a b))) := by
  have CM : ∀ W, Calls Tryz.prog 21 #[a.agg, b.agg] W fun e w' => e = .returned (.int .i64 (cmpV a b)) ∧ Below W.heap.size W w' := fun W => (compare13_any a b W).mono fun e w' ⟨he, q, os, hw⟩ => ⟨he, by
    rw [hw]
    exact ⟨rfl, rfl, rfl, by simp [Sort.grow], fun k hk => by
      show (W.heap ++ os)[k]? = _
      exact Array.getElem?_append_left hk⟩⟩
  obtain ⟨ak, ai, ss⟩ := a
  obtain ⟨bk, bi, st⟩ := b
  unfold Vl.agg at *
  have C := Lib.hid CM
  unfold eqV
  obtain ⟨r, hr⟩ : ∃ r, cmpV ⟨ak, ai, ss⟩ ⟨bk, bi, st⟩ = r := ⟨_, rfl⟩
  rw [hr] at C ⊢
  clear CM hr
  go_enter Tryz.func23, Tryz.ntmps23
  go_wp2_with fail
  refine (C.out _).mono ?_
  rintro e w1 ⟨rfl, hb1⟩
  have hb := bto0 (ball (ball (Below.refl w.heap.size w) (.cells #[.int .u8 ak, .int .i64 ai, .string ss] 35)) (.cells #[.int .u8 bk, .int .i64 bi, .string st] 35)) hb1
  have HB := Lib.hid hb
  clear hb hb1
  go_wp2
  go_ret
  exact ⟨rfl, HB.out⟩
set_option maxRecDepth 100000 in
set_option maxHeartbeats 4000000 in
theorem diff13_any (A : Option Addr) (n c : Nat) (l : List Vl) (w : World) (hr : Reads w w.heap.size 3 A n (vV l)) (hn : n ≤ 100000000) :
    Calls Tryz.prog 22 #[.slice A n c, .func (.func 23) #[] #[]] w (RetB w (.int .i64 (cntK eqV l n : Int))) := by
  have hl : l.length = n := by have := hr.1; rw [vV_len] at this; omega
  have nI : (n : Int) ≤ 100000000 := by omega
  have H0 := Lib.hid (And.intro hr hl)
  clear hr hl hn
  go_enter Tryz.func22, Tryz.ntmps22
  go_wp2_with fail
  go_loopw [5, 10] (fun u5 u10 wr => ∃ k : Nat, u5 = .int .i64 (cntK eqV l k : Int) ∧ u10 = .int .i64 k ∧ k ≤ n ∧ cntK eqV l k ≤ k ∧ Below w.heap.size w wr) (fun _ u10 _ => n - (intOf u10).toNat)
  case atStart => exact ⟨0, rfl, rfl, by omega, by simp [cntK], Below.refl _ _⟩
  case round =>
    obtain ⟨k, rfl, rfl, hk, hck, hb⟩ := hrel
    have k0 : (0 : Int) ≤ (k : Int) := by omega
    by_cases hlt : k < n
    · have k1 : (k : Int) < (n : Int) := by omega
      obtain ⟨ad, x, hA, had, hx, p0, p1, p2⟩ := (H0.out.1.below hb).val hlt
      subst hA
      have hXb := ball hb (.cells #[.int .u8 x.k, .int .i64 x.i, .string x.s] 35)
      have hX := Blk.new wr 35 #[.int .u8 x.k, .int .i64 x.i, .string x.s]
      have hX0 := hX.cell 0
      have hX1 := hX.cell 1
      have hX2 := hX.cell 2
      by_cases hk0 : k = 0
      · have e1 : ((k : Int) == 0) = true := by simp; omega
        have hcnt : cntK eqV l (k + 1) = cntK eqV l k + 1 := by subst hk0; simp [cntK]
        have HB := Lib.hid (And.intro hXb hck)
        have HC := Lib.hid hcnt
        obtain ⟨C, hC⟩ : ∃ C, cntK eqV l k = C := ⟨_, rfl⟩
        have C0 : (0 : Int) ≤ (C : Int) := by omega
        have C1 : (C : Int) ≤ 100000000 := by omega
        rw [hC]
        have HCC := Lib.hid hC
        clear hXb hX hb hck hx hcnt had hk0 hC
        go_wp2_with fail
        go_quiet (fail)
        go_wp2
        exact ⟨⟨k + 1, by rw [HC.out, HCC.out]; go_num, by go_num, by omega, by rw [HC.out]; have := HB.out.2; omega, bdr HB.out.1 _⟩, by simp [intOf]; omega⟩
      · obtain ⟨j, hj⟩ : ∃ j : Nat, k = j + 1 := ⟨k - 1, by omega⟩
        have e1 : ((k : Int) == 0) = false := by simp; omega
        have e2 : (k : Int) - 1 = (j : Int) := by omega
        have j0 : (0 : Int) ≤ (j : Int) := by omega
        have j1 : (j : Int) < (n : Int) := by omega
        obtain ⟨ad', y, hA', _, hy, r0, r1, r2⟩ := (H0.out.1.below hb).val (k := j) (by omega)
        injection hA' with hA'
        subst hA'
        have hcnt : cntK eqV l (k + 1) = cntK eqV l k + (if eqV y x = true then 0 else 1) := by
          subst hj
          rw [cntK, hy, hx]
        have HB := Lib.hid (And.intro hb (And.intro hXb hck))
        have HC := Lib.hid hcnt
        have SM : Hid (∀ W, Calls Tryz.prog 23 #[.agg #[.int .u8 y.k, .int .i64 y.i, .string y.s], .agg #[.int .u8 x.k, .int .i64 x.i, .string x.s]] W (RetB W (.bool (eqV y x)))) := Lib.hid fun W => same13_any y x W
        obtain ⟨WA, hWA⟩ : ∃ WA, wr.alloc (.cells #[.int .u8 x.k, .int .i64 x.i, .string x.s] 35) = WA := ⟨_, rfl⟩
        have hbA := ball (Below.refl wr.heap.size wr) (.cells #[.int .u8 x.k, .int .i64 x.i, .string x.s] 35)
        have hadr : ad.block < wr.heap.size := by have := hb.size; omega
        have t0 := (hbA.cell (p := ad.add (j * 3)) (by rw [block_of_add]; exact hadr)).trans r0
        have t1 := (hbA.cell (p := ⟨(ad.add (j * 3)).block, (ad.add (j * 3)).off + 1, none⟩) (by show (ad.add (j * 3)).block < _; rw [block_of_add]; exact hadr)).trans r1
        have t2 := (hbA.cell (p := ⟨(ad.add (j * 3)).block, (ad.add (j * 3)).off + 2, none⟩) (by show (ad.add (j * 3)).block < _; rw [block_of_add]; exact hadr)).trans r2
        rw [hWA] at hX hX0 hX1 hX2 hbA t0 t1 t2 hXb
        have HT : Hid (∀ W, Below WA.heap.size WA W → W.cell? (ad.add (j * 3)) = some (.int .u8 y.k) ∧ W.cell? ⟨(ad.add (j * 3)).block, (ad.add (j * 3)).off + 1, none⟩ = some (.int .i64 y.i) ∧ W.cell? ⟨(ad.add (j * 3)).block, (ad.add (j * 3)).off + 2, none⟩ = some (.string y.s) ∧ W.cell? ⟨wr.heap.size, 0, none⟩ = some (.int .u8 x.k) ∧ W.cell? ⟨wr.heap.size, 1, none⟩ = some (.int .i64 x.i) ∧ W.cell? ⟨wr.heap.size, 2, none⟩ = some (.string x.s) ∧ Below WA.heap.size WA W) := Lib.hid fun W hW => by
          have hz := hX.lt
          have hlt3 : (ad.add (j * 3)).block < WA.heap.size := by rw [block_of_add]; have := hbA.size; omega
          exact ⟨(hW.cell hlt3).trans t0, (hW.cell (p := ⟨(ad.add (j * 3)).block, (ad.add (j * 3)).off + 1, none⟩) hlt3).trans t1, (hW.cell (p := ⟨(ad.add (j * 3)).block, (ad.add (j * 3)).off + 2, none⟩) hlt3).trans t2, (hX.below hW hz).cell 0, (hX.below hW hz).cell 1, (hX.below hW hz).cell 2, hW⟩
        have HBX := Lib.hid hXb
        have hzA := hX.lt
        obtain ⟨C, hC⟩ : ∃ C, cntK eqV l k = C := ⟨_, rfl⟩
        have C0 : (0 : Int) ≤ (C : Int) := by omega
        have C1 : (C : Int) ≤ 100000000 := by omega
        rw [hC]
        have HCC := Lib.hid (And.intro hC hck)
        obtain ⟨q, hq⟩ : ∃ q, eqV y x = q := ⟨_, rfl⟩
        rw [hq] at SM HC
        have hw1 : IntKind.i64.wrap ((k : Int) - 1) = (j : Int) := by rw [e2, IntKind.wrap_i64]; omega
        have hw2 : IntKind.i64.wrap (j : Int) = (j : Int) := by rw [IntKind.wrap_i64]; omega
        clear e2 hX hX0 hX1 hX2 hXb hb hck hcnt hbA r0 r1 r2 t0 t1 t2 hx hy had hadr hC hq hk0 hj
        go_wp2_with fail
        (try rw [hWA])
        clear hWA
        go_region_held3 (fun W => W.cell? (ad.add (j * 3)) = some (.int .u8 y.k) ∧ W.cell? ⟨(ad.add (j * 3)).block, (ad.add (j * 3)).off + 1, none⟩ = some (.int .i64 y.i) ∧ W.cell? ⟨(ad.add (j * 3)).block, (ad.add (j * 3)).off + 2, none⟩ = some (.string y.s) ∧ W.cell? ⟨wr.heap.size, 0, none⟩ = some (.int .u8 x.k) ∧ W.cell? ⟨wr.heap.size, 1, none⟩ = some (.int .i64 x.i) ∧ W.cell? ⟨wr.heap.size, 2, none⟩ = some (.string x.s) ∧ Below WA.heap.size WA W)
          (first | exact HT.out _ (by with_reducible repeat (first | exact Below.refl _ _ | exact hb2 | refine Below.drew ?_ | refine bdr ?_ _)) | assumption)
          (first
            | (go_at_call 23; (with_reducible refine (SM.out _).mono ?_); rintro e w2 ⟨rfl, hb2'⟩; have hb2 : Below WA.heap.size WA w2 := bto0 (by with_reducible repeat (first | exact Below.refl _ _ | refine Below.drew ?_ | refine bdr ?_ _)) hb2'))
        have HW := Lib.hid (bto0 HBX.out hb2)
        clear hb2 hb2'
        cases q
        · go_wp2
          exact ⟨⟨k + 1, by rw [HC.out, HCC.out.1]; go_num, by go_num, by omega, by rw [HC.out]; have := HCC.out.2; simp; omega, HW.out⟩, by simp [intOf]; omega⟩
        · go_wp2
          exact ⟨⟨k + 1, by rw [HC.out, HCC.out.1]; go_num, by go_num, by omega, by rw [HC.out]; have := HCC.out.2; simp; omega, HW.out⟩, by simp [intOf]; omega⟩
    · obtain rfl : k = n := by omega
      have HB := Lib.hid hb
      clear hb hck hlt
      go_wp2
      go_ret
      exact ⟨rfl, HB.out⟩
end
end Go.Proofs.YtgndebdoljnheaaGreatDoor
