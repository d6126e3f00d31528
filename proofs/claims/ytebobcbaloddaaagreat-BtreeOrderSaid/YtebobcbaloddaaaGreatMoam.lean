/-
  Oz.
-/
import Derived.Test.YtebobcbaloddaaaGreatMoak
import Derived.Lib.AppendZerosOnto
namespace Go.Proofs.YtebobcbaloddaaaGreat
section
set_option linter.unusedVariables false
set_option linter.unusedSimpArgs false
open Go.RowKit
theorem zero_cells (k : Nat) : Builtin.zeroCells (Value.int .u8 0).cells k = (Lib.strCells (str (List.replicate k 0))).toArray := by
 have hz1 : (Value.int IntKind.u8 0).cells = #[Value.int IntKind.u8 0] := rfl
 rw [hz1]
 apply Array.ext'
 unfold Builtin.zeroCells Lib.strCells
 rw [str_data]
 apply List.ext_getElem
 · simp
 · intro j h1 h2
   simp [Nat.mod_one]
theorem run_append_zeros_eq (w : World) (ty : TypeId) (b : Option Addr) (n c k : Nat) (h : n + k ≤ 1000000000) (hc : c ≤ 9223372036854775807) (hnc : n ≤ c) :
 (Builtin.append_ #[58, 3] ty #[.slice b n c, .int .i64 (k : Int)]).run Tryz.prog w = (Builtin.append_ #[58, 9] ty #[.slice b n c, .string (str (List.replicate k 0))]).run Tryz.prog w := by
 obtain ⟨i0, hi, hz, hs, hy⟩ := int_info8 Tryz.infoB
 have ht : Tryz.prog.underlying 58 = some (.slice 5) := Tryz.underlying58
 have htn : Tryz.prog.underlying 3 = some (.int .i64) := Tryz.underlying3
 have hu : Tryz.prog.underlying 9 = some .string := Tryz.underlying9
 have hw : IntKind.i64.wrap (k : Int) = k := by rw [IntKind.wrap_i64]; omega
 have hneg : ¬ ((k : Int) < 0) := by omega
 have h48i : ¬ (281474976710656 < (k : Int)) := by omega
 have hsz : (str (List.replicate k 0)).size = k := by rw [str_size, List.length_replicate]
 have hf : ∀ W, (Builtin.firstCells 1 k (.string (str (List.replicate k 0)))).run Tryz.prog W = .ok (Lib.strCells (str (List.replicate k 0))).toArray W := fun W => by
  have := Lib.run_firstCells_string (P := Tryz.prog) W 1 (str (List.replicate k 0))
  rwa [hsz] at this
 have hzc := zero_cells k
 have h63 : ¬ (9223372036854775807 < ((n : Int) + (k : Int))) := by omega
 by_cases hk : k = 0
 · subst hk
   have hS0 : (str []).size = 0 := by rw [str_size]; rfl
   have hf0 : (Builtin.firstCells 1 0 (.string (str []))).run Tryz.prog w = .ok #[] w := by
    have h := hf w
    rw [List.replicate_zero] at h
    rw [h]; rfl
   have hw0 : IntKind.i64.wrap 0 = 0 := by decide
   clear hf hsz hzc
   simp only [List.replicate_zero]
   cases b <;> simp [Builtin.append_, run_underlying ht, run_underlying htn, run_underlying hu, sizeOf, typeInfo, hi, hs, asInt, asIntOf, hw0, Builtin.lenOf, hS0, hf0, hnc, storeCells]
 · by_cases hroom : n + k ≤ c
   · have hks : ¬ (k * i0.size = 0) := by rw [hs]; omega
     simp [Builtin.append_, run_underlying ht, run_underlying htn, run_underlying hu, sizeOf, typeInfo, zeroValue, hi, hz, hs, hy, asInt, asIntOf, hw, hneg, h48i, Builtin.lenOf, hsz, hf, hzc, hk, hroom]
   · have hfit : Builtin.nextslicecap (n + k) c * 1 ≤ 281474976710656 := growslice_fits (by omega) (by omega)
     have hfit' : ¬ (281474976710656 < Builtin.nextslicecap (n + k) c) := by omega
     simp [Builtin.append_, run_underlying ht, run_underlying htn, run_underlying hu, sizeOf, typeInfo, zeroValue, hi, hz, hs, hy, asInt, asIntOf, hw, hneg, h48i, Builtin.lenOf, hsz, hf, hzc, hk, hroom, h63, hfit']
section
variable {ops : Array Oper} {rest : List Oper} {o : Oper} {a : Act} {Q : Exit → Act → World → Prop} {w : World}
theorem wpList_appZ (hgd : o.guard = none) (sl x : Operand) (ho : o.op = .call { callee := .builtin .append, args := #[sl, x], argTypes := #[58, 3] })
 (base : Nat) (v : Value) (l : List UInt8) (k : Nat) (q : Int) (hs : a.eval sl = v) (hown : Own w base v l)
 (hx : a.eval x = .int .i64 q) (hq : q = (k : Int)) (h63 : l.length + k ≤ 1000000000) (hbase : base ≤ w.heap.size)
 (h : ∀ v' w', Own w' base v' (l ++ List.replicate k 0) → Keeps base w w' → wpList Tryz.prog ops Q rest (a.put o.dst v') w') : wpList Tryz.prog ops Q (o :: rest) a w := by
 subst hq
 obtain ⟨i0, hi0, hz0, hs0, hy0⟩ := int_info8 Tryz.infoB
 have hsz : (str (List.replicate k 0)).size = k := by rw [str_size, List.length_replicate]
 obtain ⟨v', w', hrun, h2, h3, _⟩ := Lib.run_append_own_string (P := Tryz.prog) w base 58 9 o.type 5 i0 Tryz.underlying58 Tryz.underlying9 hi0 hz0 hs0 hy0 v l.length (bL l) hown (str (List.replicate k 0)) (by rw [hsz]; unfold maxLen; omega) (by rw [hsz]; omega) hbase
 have hcap : ∃ A c, v = .slice A l.length c ∧ l.length ≤ c ∧ c ≤ 9223372036854775807 := by
  rcases hown.2 with ⟨rfl, h0⟩ | ⟨g, cap, cur, rfl, _, _, hnc, hcm, _⟩
  · exact ⟨none, 0, by rw [h0], by omega, by omega⟩
  · unfold maxLen at hcm
    exact ⟨_, _, rfl, hnc, hcm⟩
 obtain ⟨A, c, rfl, hc1, hc2⟩ := hcap
 rw [← run_append_zeros_eq w o.type A l.length c k h63 hc2 hc1] at hrun
 refine wpList_plain hgd fun K hK => ?_
 unfold Oper.wp execOp
 simp only [ho, resolve, invoke, builtin, Sem.run_bind, Sem.run_pure, Result.andThen_ok, List.map_toArray, List.map_cons, List.map_nil, hs, hx, hrun]
 refine hK _ _ (h v' w' ?_ (keeps_grown hown h3 hbase))
 unfold Own
 have e1 : (l ++ List.replicate k 0).length = l.length + (str (List.replicate k 0)).size := by rw [hsz, List.length_append, List.length_replicate]
 have e2 : bL (l ++ List.replicate k 0) = bL l ++ Lib.strCells (str (List.replicate k 0)) := by simp [bL, Lib.strCells, str_data]
 rw [e1, e2]
 exact h2
end
end
end Go.Proofs.YtebobcbaloddaaaGreat
