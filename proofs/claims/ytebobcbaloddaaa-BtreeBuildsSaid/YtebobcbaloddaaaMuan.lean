/-
  Several texts in one: Oc.
-/
import Derived.Test.YtebobcbaloddaaaMuak
import Derived.Deep.QuietTactic
import Derived.Lib.SliceRun
import Derived.Deep.Upon
/-
  Rows of the call's own: clear, what they are as a string; a row whose block stays.
-/
namespace Go.Proofs.Ytebobcbaloddaaa
section
set_option linter.unusedSimpArgs false
set_option linter.unusedVariables false
set_option linter.unusedSimpArgs false
set_option linter.unusedVariables false
open Go.RowKit

theorem bel3_setCells {B g : Nat} {w0 : World} (hB : B ≤ g) : ∀ (vs : List Value) (o : Nat) (w : World), Below B w0 w → Below B w0 (w.setCells g o vs)
  | [], _, _, h => h
  | v :: r, o, _, h => bel3_setCells hB r (o + 1) _ (h.setCell hB v)
theorem siz3_setCells (g : Nat) : ∀ (vs : List Value) (o : Nat) (w : World), (w.setCells g o vs).heap.size = w.heap.size
  | [], _, _ => rfl
  | v :: r, o, w => (siz3_setCells g r (o + 1) _).trans (by simp [World.setCell])
theorem Try.zeroB3 (w : World) : (zeroValue 5).run Try.prog w = .ok (.int .u8 0) w := by kernel_rfl
/-- clear(own). -/
theorem Own.clr {w : World} {base : Nat} {A : Option Addr} {n c : Nat} {l : List UInt8} (h : Own w base (.slice A n c) l) :
    ∃ w', (∀ ty, (Builtin.clear_ #[50] ty #[.slice A n c]).run Try.prog w = .ok (.tuple #[]) w') ∧ (∀ B w0, B ≤ base → Below B w0 w → Below B w0 w') ∧
      (∀ g, g < w.heap.size → (Value.slice A n c).ownBlock ≠ some g → w'.heap[g]? = w.heap[g]?) ∧ w'.heap.size = w.heap.size := by
  rcases Nat.eq_zero_or_pos n with h0 | h0
  · subst h0
    refine ⟨w, fun ty => ?_, fun _ _ _ k => k, fun _ _ _ => rfl, rfl⟩
    have ht : Try.prog.underlying 50 = some (.slice 5) := Try.underlying50
    cases A <;> simp [Builtin.clear_, run_underlying ht, Sem.run_pure]
  · have hn : n = l.length := h.reads.2
    obtain ⟨g, cap, hv, hbase, hlt⟩ := World.ownsRow.form h (by omega)
    have hA : A = some ⟨g, 0, none⟩ := by injection hv
    have hcc : c = cap := by injection hv
    subst hA; subst hcc
    have h' : w.ownsRow base 5 1 (.slice (some ⟨g, 0, none⟩) l.length c) l.length (bL l) := by rw [hn] at h; exact h
    refine ⟨w.setCells g 0 (List.replicate n (.int .u8 0)), fun ty => ?_, ?_, ?_, by rw [siz3_setCells]⟩
    · refine Lib.run_clear_slice w _ _ ty _ Try.underlying50 Try.zeroB3 rfl rfl g 0 n c h0 (fun j hj => ?_) (fun j hj => ?_)
      · rw [Nat.zero_add, h'.cellAt j (by omega), List.getElem?_eq_getElem (by rw [bL_len]; omega)]
        rfl
      · rw [Nat.zero_add]
        exact h'.frozenAt j
    · intro B w0 hB hb
      exact bel3_setCells (by omega) _ _ _ hb
    · intro g' hg' hne
      refine World.heap_setCells_other w g 0 _ hg' (fun e => hne ?_)
      subst e
      rfl
theorem Reads.cnv {w : World} {B : Nat} {A : Option Addr} {n c : Nat} {l : List UInt8} (h : Reads w B 1 A n (bL l)) :
    (convert 50 9 (.slice A n c)).run Try.prog w = .ok (.string (str l)) w :=
  conv_reads (P := Try.prog) h 50 5 9 Try.underlying50 Try.underlying5 Try.underlying9 c
end
end Go.Proofs.Ytebobcbaloddaaa
