/-
  Pool: the counts; frames leave and enter a row.
-/
import Derived.Test.YtcpbkaeilmabaaaDr
import Derived.Laws.LoneSync
import Derived.RegionTactic
namespace Go.Proofs.Ytcpbkaeilmabaaa
set_option linter.unusedSimpArgs false
set_option linter.unusedVariables false
open Go.RowKit

theorem add64_any (g o x : Nat) (w : World) (hc : w.cell? ⟨g, o, none⟩ = some (.int .u64 x)) (hf : w.frozen? ⟨g, o, none⟩ = false) (hx : x ≤ 1000000) :
    Calls Try.prog 68 #[.pointer (some ⟨g, o, none⟩), .int .u64 1] w fun e w' => e = .returned (.int .u64 (x + 1 : Nat)) ∧ w' = w.setCell ⟨g, o, none⟩ (.int .u64 (x + 1 : Nat)) := by
  have hs : (Op.intArith .add .u64 (x : Int) 1).run Try.prog w = .ok (.int .u64 (x + 1 : Nat)) w := by
    simp [go_sem, IntKind.wrap_u64]; omega
  have ad := run_call_add (P := Try.prog) Try.func82 (by kernel_rfl) (by kernel_rfl) (by kernel_rfl) .u64 (by kernel_rfl) hc hf hs
  go_enter Try.func68, Try.ntmps68
  go_wp2
  go_ret
  exact ⟨rfl, rfl⟩
theorem store64_any (g o : Nat) (u : Value) (w : World) (hc : w.cell? ⟨g, o, none⟩ = some u) (hf : w.frozen? ⟨g, o, none⟩ = false) :
    Calls Try.prog 67 #[.pointer (some ⟨g, o, none⟩), .int .u64 0] w fun e w' => e = .returned (.tuple #[]) ∧ w' = w.setCell ⟨g, o, none⟩ (.int .u64 0) := by
  have st := run_call_store (P := Try.prog) Try.func81 (by kernel_rfl) (by kernel_rfl) (by kernel_rfl) (by kernel_rfl) (k := .u64) (y := 0) hc hf
  go_enter Try.func67, Try.ntmps67
  go_wp2
  go_end0
  exact ⟨rfl, rfl⟩
theorem load64_any (g o : Nat) (x : Int) (w : World) (hc : w.cell? ⟨g, o, none⟩ = some (.int .u64 x)) :
    Calls Try.prog 73 #[.pointer (some ⟨g, o, none⟩)] w fun e w' => e = .returned (.int .u64 x) ∧ w = w' := by
  have ld := run_call_load (P := Try.prog) Try.func83 (by kernel_rfl) (by kernel_rfl) (by kernel_rfl) .u64 (by kernel_rfl) hc
  go_enter Try.func73, Try.ntmps73
  go_wp2
  go_ret
  exact ⟨rfl, rfl⟩
/-- A frame leaves its row: what is stored. -/
theorem leave_raw (fg ab ao zb zo : Nat) (u v : Value) (w : World) (h2 : w.cell? ⟨fg, 2, none⟩ = some (.pointer (some ⟨ab, ao, none⟩))) (h3 : w.cell? ⟨fg, 3, none⟩ = some (.pointer (some ⟨zb, zo, none⟩)))
    (ha : w.cell? ⟨ab, ao + 3, none⟩ = some u) (fa : w.frozen? ⟨ab, ao + 3, none⟩ = false) (hz : ((w.setCell ⟨ab, ao + 3, none⟩ (.pointer (some ⟨zb, zo, none⟩))).cell? ⟨zb, zo + 2, none⟩) = some v) (fz : w.frozen? ⟨zb, zo + 2, none⟩ = false) :
    Calls Try.prog 69 #[.pointer (some ⟨fg, 0, none⟩)] w fun e w' => e = .returned (.tuple #[]) ∧ ((w.setCell ⟨ab, ao + 3, none⟩ (.pointer (some ⟨zb, zo, none⟩))).setCell ⟨zb, zo + 2, none⟩ (.pointer (some ⟨ab, ao, none⟩))).drew = w' := by
  go_enter Try.func69, Try.ntmps69
  go_wp2
  go_region
  all_goals (go_end0; exact ⟨rfl, rfl⟩)
/-- A frame enters a row: what is stored. -/
theorem enter_raw (fg ab ao gp : Nat) (o1 o2 u v : Value) (w : World) (h2 : w.cell? ⟨fg, 2, none⟩ = some o1) (h3 : w.cell? ⟨fg, 3, none⟩ = some o2) (f2 : w.frozen? ⟨fg, 2, none⟩ = false) (f3 : w.frozen? ⟨fg, 3, none⟩ = false) (he : w.cell? ⟨gp, 3 + 2, none⟩ = some (.pointer (some ⟨ab, ao, none⟩)))
    (fe : w.frozen? ⟨gp, 3 + 2, none⟩ = false) (ha : w.cell? ⟨ab, ao + 3, none⟩ = some u) (fa : w.frozen? ⟨ab, ao + 3, none⟩ = false) (n1 : ab ≠ fg) (n2 : gp ≠ fg) (n3 : ab = gp → ao = 3) :
    Calls Try.prog 71 #[.pointer (some ⟨fg, 0, none⟩), .pointer (some ⟨gp, 3, none⟩)] w fun e w' => e = .returned (.tuple #[]) ∧
      ((((w.setCell ⟨fg, 2, none⟩ (.pointer (some ⟨ab, ao, none⟩))).setCell ⟨fg, 3, none⟩ (.pointer (some ⟨gp, 3, none⟩))).setCell ⟨ab, ao + 3, none⟩ (.pointer (some ⟨fg, 0, none⟩))).setCell ⟨gp, 5, none⟩ (.pointer (some ⟨fg, 0, none⟩))) = w' := by
  have hx : ((((w.setCell ⟨fg, 2, none⟩ (.pointer (some ⟨ab, ao, none⟩))).setCell ⟨fg, 3, none⟩ (.pointer (some ⟨gp, 3, none⟩))).setCell ⟨ab, ao + 3, none⟩ (.pointer (some ⟨fg, 0, none⟩)))).cell? ⟨gp, 5, none⟩ = some (.pointer (some ⟨ab, ao, none⟩)) := by
    rw [World.cell?_setCell_other _ _ _ _ (by intro e; injection e with e1 e2; have := n3 e1; omega), World.cell?_setCell_other _ _ _ _ (by intro e; injection e with e1 e2; exact n2 e1.symm), World.cell?_setCell_other _ _ _ _ (by intro e; injection e with e1 e2; exact n2 e1.symm)]
    exact he
  clear n3
  go_enter Try.func71, Try.ntmps71
  go_wp2
  go_end0
  exact ⟨rfl, rfl⟩
end Go.Proofs.Ytcpbkaeilmabaaa
