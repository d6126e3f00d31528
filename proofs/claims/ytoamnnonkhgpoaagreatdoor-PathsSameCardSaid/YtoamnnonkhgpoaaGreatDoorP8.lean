/-
  A path's conditions, the program's way: Grow, Concat; a row sorted, and made compact.
-/
import Derived.Test.YtoamnnonkhgpoaaGreatDoorP4
import Derived.Test.YtoamnnonkhgpoaaGreatDoorShelf
import Derived.Lib.AppendZerosOnto
import Derived.Sort.Grow
set_option linter.unusedSimpArgs false
set_option linter.unusedVariables false
namespace Go.Proofs.YtoamnnonkhgpoaaGreatDoor
open Go.RowKit Go.Sort

theorem Tryz.infoI22 : (Tryz.prog.info? 3).map (fun i => (i.zero, i.size, i.bytes)) = some (some (.int .i64 0), 1, 8) := by kernel_rfl
theorem own_cap22 {w : World} {base : Nat} {e : TypeId} {size n : Nat} {v : Value} {xs : List Value} (h : w.ownsRow base e size v n xs) : ∃ A c, v = .slice A n c ∧ n ≤ c ∧ c ≤ maxLen ∧ (A = none → n = 0 ∧ c = 0) ∧ ∀ ad, A = some ad → ∃ g, ad = ⟨g, 0, none⟩ := by
  rcases h.2 with ⟨rfl, h0⟩ | ⟨g, cap, cur, hv, hb, hg, hn, hc, _⟩
  · subst h0; exact ⟨none, 0, rfl, Nat.le_refl _, Nat.zero_le _, fun _ => ⟨rfl, rfl⟩, fun ad h => (by cases h)⟩
  · exact ⟨_, _, hv, hn, hc, fun h => (by cases h), fun ad h => ⟨g, (by injection h with h; exact h.symm)⟩⟩

section
variable {P : Program} {w : World}
/-- The nil slice grown by so many zeros: a new row, and room. -/
theorem wpList_zeros {ops : Array Oper} {rest : List Oper} {o : Oper} {a : Act} {Q : Exit → Act → World → Prop} (hgd : o.guard = none) (s x : Operand)
    (ho : o.op = .call { callee := .builtin .append, args := #[s, x], argTypes := #[27, 3] }) (k : Nat) (q : Int) (h0 : 0 < k) (hk : k ≤ 1000000) (hs : a.eval s = .slice none 0 0) (hx : a.eval x = .int .i64 q) (hq : q = (k : Int))
    (h : ∀ c w', k ≤ c → c ≤ maxLen → w'.ownsRow w.heap.size 3 1 (.slice (some ⟨w.heap.size, 0, none⟩) 0 c) 0 [] → Below w.heap.size w w' → wpList Tryz.prog ops Q rest (a.put o.dst (.slice (some ⟨w.heap.size, 0, none⟩) k c)) w') : wpList Tryz.prog ops Q (o :: rest) a w := by
  subst hq
  obtain ⟨i0, hi0, hz0, hs0, hy0⟩ := int_info8 Tryz.infoI22
  have hge := grownCap_ge w (0 + k) 0 3
  have hcm : grownCap w (0 + k) 0 3 ≤ maxLen := grownCap_le_maxLen w (0 + k) 0 3 (by unfold maxLen; omega)
  have hrun := Lib.run_append_grow_zeros (P := Tryz.prog) w 27 3 o.type 3 i0 (.int .i64 0) .i64 .i64 Tryz.underlying27 Tryz.underlying3 hi0 hz0 none 0 0 [] (run_firstCells_none w.drew i0.size 0 0 0) k h0 (by omega) (by omega) (by omega) (by rw [hy0]; omega) (growslice_fits (by omega) (by rw [hy0]; omega))
  refine wpList_plain hgd fun K hK => ?_
  unfold Oper.wp execOp
  simp only [ho, resolve, invoke, builtin, Sem.run_bind, Sem.run_pure, Result.andThen_ok, List.map_toArray, List.map_cons, List.map_nil, hs, hx, hrun]
  rw [Nat.zero_add] at hge hcm ⊢
  refine hK _ _ (h _ _ hge hcm ⟨rfl, .inr ⟨w.heap.size, _, _, rfl, Nat.le_refl _, heap_alloc_new w.drew _, Nat.zero_le _, hcm, ?_, by simp⟩⟩ (ball (Below.drew (Below.refl _ _)) _))
  simp only [Array.size_append, size_zeroCells, Array.empty_append]
  simp [Value.cells]
  omega
end
set_option maxRecDepth 100000 in
set_option maxHeartbeats 4000000 in
theorem grow22_any (k : Nat) (hk : k ≤ 1000000) (w : World) : Calls Tryz.prog 29 #[.slice none 0 0, .int .i64 (k : Int)] w fun e w' => ∃ v', e = .returned v' ∧ w'.ownsRow w.heap.size 3 1 v' 0 [] ∧ Below w.heap.size w w' := by
  have q0 : (0 : Int) ≤ (k : Int) := by omega
  have q1 : (k : Int) ≤ 1000000 := by omega
  by_cases h0 : k = 0
  · subst h0
    go_enter Tryz.func29, Tryz.ntmps29
    go_wp2
    go_ret
    exact ⟨_, rfl, World.ownsRow_nil w _ _ _, Below.refl _ _⟩
  · have q2 : (0 : Int) < (k : Int) := by omega
    go_enter Tryz.func29, Tryz.ntmps29
    go_wp2_with (at_builtin; refine wpList_zeros rfl _ _ rfl k _ (by omega) hk rfl rfl rfl ?_; intro c w1 hkc hcm own1 hb1; have c0 : (0 : Int) ≤ (c : Int) := (by omega))
    go_ret
    exact ⟨_, rfl, own1, hb1⟩
end Go.Proofs.YtoamnnonkhgpoaaGreatDoor
