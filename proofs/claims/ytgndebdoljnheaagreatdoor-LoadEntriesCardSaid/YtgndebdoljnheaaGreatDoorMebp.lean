/-
  Several texts in one: Me8.
-/
import Derived.Test.YtgndebdoljnheaaGreatDoorMebo
import Derived.Lib.AppendZerosOnto
/-
  Places of rows: a row of one's own, longer by some that are 0 (append of a make).
-/
namespace Go.Proofs.YtgndebdoljnheaaGreatDoor
section
set_option linter.unusedSimpArgs false
set_option linter.unusedVariables false
open Go.RowKit Go.Lib

theorem Tryz.infoRi13 : (Tryz.prog.info? 51).map (fun i => (i.zero, i.size, i.bytes)) = some (some (.agg #[.int .u32 0, .int .u16 0]), 2, 8) := by kernel_rfl
def zeroRi : Ri := ⟨0, 0⟩
def zeroR13 : Value := .agg #[.int .u32 0, .int .u16 0]
theorem zeroR_cells : zeroR13.cells = #[.int .u32 0, .int .u16 0] := rfl
theorem vRi_one (l : List Ri) : ∀ u ∈ vRi l, u.oneCell' = true := by
  intro u hu
  unfold vRi at hu
  obtain ⟨x, _, hx⟩ := List.mem_flatMap.1 hu
  simp only [Ri.cells, List.mem_cons, List.not_mem_nil, or_false] at hx
  rcases hx with rfl | rfl <;> rfl
theorem vRi_app (a b : List Ri) : vRi (a ++ b) = vRi a ++ vRi b := by simp [vRi]
theorem zero_cellsR (k : Nat) : Builtin.zeroCells zeroR13.cells k = (vRi (List.replicate k zeroRi)).toArray := by
  rw [zeroR_cells]
  apply Array.ext'
  unfold Builtin.zeroCells
  have hl : (vRi (List.replicate k zeroRi)).length = k * 2 := by rw [vRi_len, List.length_replicate]
  apply List.ext_getElem
  · simp [hl]
  · intro j h1 h2
    have hj : j < k * 2 := by simpa [hl] using h2
    have hv : (List.replicate k zeroRi)[j / 2]? = some zeroRi := by rw [List.getElem?_replicate, if_pos (by omega)]
    have h3 := vRi_at hv (j % 2) (by omega)
    rw [show j / 2 * 2 + j % 2 = j from by omega] at h3
    have h4 : (vRi (List.replicate k zeroRi))[j] = zeroRi.cells[j % 2]'(by show j % 2 < 2; omega) := by
      rw [List.getElem?_eq_getElem (by omega), List.getElem?_eq_getElem (by show j % 2 < 2; omega)] at h3
      exact Option.some.inj h3
    simp only [h4]
    rcases Nat.mod_two_eq_zero_or_one j with h | h <;> simp [h, Ri.cells, zeroRi]
theorem run_append_zerosR (w : World) (base : Nat) (ty : TypeId) (v : Value) (n : Nat) (xs : List Value) (hown : w.ownsRow base 51 2 v n xs) (k : Nat) (hk : 0 < k) (hn : n + k ≤ 1000000) (hbase : base ≤ w.heap.size) :
    ∃ v' w', (Builtin.append_ #[39, 3] ty #[v, .int .i64 (k : Int)]).run Tryz.prog w = .ok v' w' ∧ w'.ownsRow base 51 2 v' (n + k) (xs ++ vRi (List.replicate k zeroRi)) ∧ w.grownBy w' v.ownBlock := by
  obtain ⟨i0, hi, hz', hs, hy⟩ := int_info8 Tryz.infoRi13
  have hz : i0.zero = some zeroR13 := hz'
  have ht : Tryz.prog.underlying 39 = some (.slice 51) := Tryz.underlying39
  have htn : Tryz.prog.underlying 3 = some (.int .i64) := Tryz.underlying3
  have hnl : (vRi (List.replicate k zeroRi)).length = k * 2 := by rw [vRi_len, List.length_replicate]
  have hlen : (xs ++ vRi (List.replicate k zeroRi)).length = (n + k) * 2 := by rw [List.length_append, hown.1, hnl]; omega
  have hxl : xs.length = n * 2 := hown.1
  have grown : ∀ (old : Nat), old < n + k → ∀ (row : Option Nat),
      (w.drew.alloc (.cells (xs.toArray ++ Builtin.zeroCells zeroR13.cells k ++ Builtin.zeroCells zeroR13.cells (grownCap w (n + k) old 51 - (n + k))) 51)).ownsRow base 51 2
        (.slice (some ⟨w.heap.size, 0, none⟩) (n + k) (grownCap w (n + k) old 51)) (n + k) (xs ++ vRi (List.replicate k zeroRi)) ∧
      w.grownBy (w.drew.alloc (.cells (xs.toArray ++ Builtin.zeroCells zeroR13.cells k ++ Builtin.zeroCells zeroR13.cells (grownCap w (n + k) old 51 - (n + k))) 51)) row := by
    intro old ho row
    have hge := grownCap_ge w (n + k) old 51
    have hcm : grownCap w (n + k) old 51 ≤ maxLen := grownCap_le_maxLen w (n + k) old 51 (by unfold maxLen; omega)
    have hzs : zeroR13.cells.size = 2 := rfl
    refine ⟨⟨hlen, .inr ⟨w.heap.size, _, _, rfl, hbase, heap_alloc_new w.drew _, hge, hcm, ?_, ?_⟩⟩, ⟨rfl, rfl, rfl, by simp, fun k hk _ => heap_alloc_old w.drew _ hk⟩⟩
    · simp only [Array.size_append, List.size_toArray, size_zeroCells, hzs, hxl]
      omega
    · rw [zero_cellsR k]
      simp only [Array.toList_append, List.append_assoc]
      rw [← List.append_assoc, ← hlen]
      exact List.take_left
  rcases hown.2 with ⟨rfl, hn0⟩ | ⟨g, cap, cur, rfl, hbg, hg, hnc, hcm, hcs, htake⟩
  · subst hn0
    have hx : xs = [] := List.eq_nil_of_length_eq_zero hxl
    subst hx
    have hr := Lib.run_append_grow_zeros (P := Tryz.prog) w 39 3 ty 51 i0 zeroR13 .i64 .i64 ht htn hi hz none 0 0 [] (by rw [hs]; rfl) k hk (by omega) (by omega) (by omega) (by rw [hy]; omega) (by rw [hy]; exact growslice_fits (by omega) (by omega))
    have hgr := grown 0 (by omega) (Value.ownBlock (.slice none 0 0))
    exact ⟨_, _, hr, hgr.1, hgr.2⟩
  · by_cases hroom : n + k ≤ cap
    · have hst := run_storeCells_at Tryz.prog g (n * 2) 51 (vRi (List.replicate k zeroRi)) 0 cur w hg (by rw [hnl]; omega) (vRi_one _)
      have hw : IntKind.i64.wrap (k : Int) = k := by rw [IntKind.wrap_i64]; omega
      have hneg : ¬ ((k : Int) < 0) := by omega
      have h48 : ¬ (281474976710656 < (k : Int) * 8) := by omega
      have hks : ¬ (k * i0.size = 0) := by rw [hs]; omega
      have hk0 : ¬ k = 0 := by omega
      have hzc := zero_cellsR k
      refine ⟨.slice (some ⟨g, 0, none⟩) (n + k) cap, w.setRow g (cur.toList.take (n * 2) ++ vRi (List.replicate k zeroRi) ++ cur.toList.drop (n * 2 + (vRi (List.replicate k zeroRi)).length)).toArray, ?_, ⟨hlen, .inr ⟨g, cap, _, rfl, hbg, setRow_heap w g cur _ _ _ hg, hroom, hcm, ?_, ?_⟩⟩, ⟨rfl, rfl, rfl, by simp, fun k hk _ => setRow_other w g k _ (fun e => by simp_all [Value.ownBlock])⟩⟩
      · simp only [Nat.add_zero] at hst
        simp [Builtin.append_, run_underlying ht, run_underlying htn, sizeOf, typeInfo, zeroValue, hi, hz, hs, hy, asInt, asIntOf, hw, hneg, h48, hks, hk0, hroom, hzc, Addr.add_lit, hst]
        intro h0
        exact absurd h0 (by omega)
      · simp only [List.size_toArray, List.length_append, List.length_take, List.length_drop, Array.length_toList, hnl]
        omega
      · rw [htake, ← hlen]
        exact List.take_left
    · have holds : ∀ j u, xs[j]? = some u → w.cell? ((⟨g, 0, none⟩ : Addr).add j) = some u := hown.cells (g := g) rfl
      have hf := run_firstCells_some (P := Tryz.prog) w.drew 2 n ⟨g, 0, none⟩ n cap xs (by omega) holds
      have hr := Lib.run_append_grow_zeros (P := Tryz.prog) w 39 3 ty 51 i0 zeroR13 .i64 .i64 ht htn hi hz (some ⟨g, 0, none⟩) n cap xs (by rw [hs]; exact hf) k hk (by omega) (by omega) (by omega) (by rw [hy]; omega) (by rw [hy]; exact growslice_fits (by omega) (by omega))
      have hgr := grown cap (by omega) (Value.ownBlock (.slice (some ⟨g, 0, none⟩) n cap))
      exact ⟨_, _, hr, hgr.1, hgr.2⟩
theorem run_append_zerosR0 (w : World) (ty : TypeId) (A : Option Addr) (n c : Nat) (hn : n ≤ c) (hc : c ≤ maxLen) :
    (Builtin.append_ #[39, 3] ty #[.slice A n c, .int .i64 0]).run Tryz.prog w = .ok (.slice A n c) w := by
  obtain ⟨i0, hi, hz', hs, hy⟩ := int_info8 Tryz.infoRi13
  have ht : Tryz.prog.underlying 39 = some (.slice 51) := Tryz.underlying39
  have htn : Tryz.prog.underlying 3 = some (.int .i64) := Tryz.underlying3
  unfold maxLen at hc
  have h63 : ¬ (9223372036854775807 < (n : Int)) := by omega
  have hw : IntKind.i64.wrap (0 : Int) = 0 := by decide
  simp [Builtin.append_, run_underlying ht, run_underlying htn, sizeOf, typeInfo, zeroValue, hi, hz', hs, hy, asInt, asIntOf, hw, h63, hn]
  rcases A with _ | a <;> rfl
section
variable {ops : Array Oper} {rest : List Oper} {o : Oper} {a : Act} {Q : Exit → Act → World → Prop} {w : World}
/-- append(own, make([]Rid, k)...). -/
theorem wpList_appZR (hgd : o.guard = none) (sl x : Operand) (ho : o.op = .call { callee := .builtin .append, args := #[sl, x], argTypes := #[39, 3] })
    (base : Nat) (v : Value) (n : Nat) (xs : List Value) (k : Nat) (q : Int) (hs : a.eval sl = v) (hown : w.ownsRow base 51 2 v n xs)
    (hx : a.eval x = .int .i64 q) (hq : q = (k : Int)) (h63 : n + k ≤ 1000000) (hbase : base ≤ w.heap.size)
    (h : ∀ v' w', w'.ownsRow base 51 2 v' (n + k) (xs ++ vRi (List.replicate k zeroRi)) → w.grownBy w' v.ownBlock → wpList Tryz.prog ops Q rest (a.put o.dst v') w') : wpList Tryz.prog ops Q (o :: rest) a w := by
  subst hq
  refine wpList_plain hgd fun K hK => ?_
  unfold Oper.wp execOp
  by_cases hk : 0 < k
  · obtain ⟨v', w', hrun, h2, h3⟩ := run_append_zerosR w base o.type v n xs hown k hk h63 hbase
    simp only [ho, resolve, invoke, builtin, Sem.run_bind, Sem.run_pure, Result.andThen_ok, List.map_toArray, List.map_cons, List.map_nil, hs, hx, hrun]
    exact hK _ _ (h v' w' h2 h3)
  · obtain rfl : k = 0 := by omega
    obtain ⟨A, c, rfl, hnc, hcm⟩ := own_capE hown
    have hrun := run_append_zerosR0 w o.type A n c hnc hcm
    rw [show ((0 : Nat) : Int) = 0 from rfl] at hx
    simp only [ho, resolve, invoke, builtin, Sem.run_bind, Sem.run_pure, Result.andThen_ok, List.map_toArray, List.map_cons, List.map_nil, hs, hx, hrun]
    exact hK _ _ (h _ _ (by simpa [vRi] using hown) (World.grownBy.refl w _))
end
theorem Tryz.elemRi13 : Tryz.prog.elem 39 = 51 := by kernel_rfl
theorem Tryz.sizeRi13 (W : World) : (Go.sizeOf 51).run Tryz.prog W = .ok 2 W := by kernel_rfl
theorem Tryz.sliceRi13 : Tryz.prog.underlying 39 = some (.slice (Tryz.prog.elem 39)) := by kernel_rfl
theorem cuthiR (A : Option Addr) (n c k : Nat) (h1 : k ≤ c) : ∀ W, (Instr.slice 39 (.slice A n c) none (some (.int .i64 (k : Int))) none).run Tryz.prog W = .ok (.slice A k c) W := by
  intro W
  rw [run_slice_h W 39 A n c Tryz.sliceRi13 .i64 (k : Int) (by omega) (by omega), Tryz.elemRi13, Tryz.sizeRi13]
  simp [sliced, Result.andThen, Addr.add]
theorem Reads.takeR {w : World} {B : Nat} {A : Option Addr} {n k : Nat} {l : List Ri} (hr : Reads w B 2 A n (vRi l)) (hk : k ≤ n) : Reads w B 2 A k (vRi (l.take k)) := by
  have hl : l.length = n := by have := hr.1; rw [vRi_len] at this; omega
  refine ⟨by rw [vRi_len, List.length_take]; congr 1; omega, fun h => ?_⟩
  obtain ⟨ad, hA, hb, hc⟩ := hr.2 (by omega)
  refine ⟨ad, hA, hb, fun j u hj => hc j u ?_⟩
  have hj' := lt_of_at hj
  have e : vRi l = vRi (l.take k) ++ vRi (l.drop k) := by rw [← vRi_app, List.take_append_drop]
  rw [e, List.getElem?_append_left hj']
  exact hj
end
end Go.Proofs.YtgndebdoljnheaaGreatDoor
