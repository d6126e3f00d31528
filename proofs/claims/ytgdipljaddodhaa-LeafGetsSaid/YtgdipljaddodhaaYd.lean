/-
  Entries of a tree: contract of the program's Compare.
-/
import Derived.Test.YtgdipljaddodhaaYc
set_option linter.unusedSimpArgs false
namespace Go.Proofs.Ytgdipljaddodhaa
open Go.RowKit

theorem three_reads (w : World) (x y z : Int) {g : Nat} (hg : g = w.heap.size) : Reads (w.alloc (.cells #[.int .i64 x, .int .i64 y, .int .i64 z] 3)) (g + 1) 1 (some ⟨g, 0, none⟩) 3 ([x, y, z].map (Value.int .i64)) := by
  subst hg
  exact reads_new w _ _ rfl rfl
/-- The cells of an entry that lies in a block of its own. -/
def AtE (W : World) (g : Nat) (e : En) : Prop := W.cell? ⟨g, 0, none⟩ = some (.string e.s) ∧ W.cell? ⟨g, 1, none⟩ = some (.int .u32 e.p) ∧ W.cell? ⟨g, 2, none⟩ = some (.int .u16 e.q)
theorem AtE.new (w : World) (e : En) (t : TypeId) : AtE (w.alloc (.cells #[.string e.s, .int .u32 e.p, .int .u16 e.q] t)) w.heap.size e := by
  refine ⟨?_, ?_, ?_⟩ <;> rw [World.cell?_alloc_at _ _ _ _ rfl] <;> rfl
theorem AtE.below {w w' : World} {g : Nat} {e : En} (h : AtE w g e) (hb : Below w.heap.size w w') : AtE w' g e := by
  obtain ⟨a, b, c⟩ := h
  exact ⟨(hb.cell (cell_block a)).trans a, (hb.cell (cell_block b)).trans b, (hb.cell (cell_block c)).trans c⟩

set_option maxRecDepth 100000 in
set_option maxHeartbeats 4000000 in
theorem compareE_any (a b : En) (w : World) : Calls Try.prog 10 #[a.agg, b.agg] w (RetB w (.int .i64 (cmpE a b))) := by
  have hS : Hid (∀ W, Below (w.heap.size + 1 + 1) ((w.alloc (.cells #[.string a.s, .int .u32 a.p, .int .u16 a.q] 27)).alloc (.cells #[.string b.s, .int .u32 b.p, .int .u16 b.q] 27)) W → W.cell? ⟨w.heap.size, 0, none⟩ = some (.string a.s) ∧ W.cell? ⟨w.heap.size, 1, none⟩ = some (.int .u32 a.p) ∧ W.cell? ⟨w.heap.size, 2, none⟩ = some (.int .u16 a.q) ∧ W.cell? ⟨w.heap.size + 1, 0, none⟩ = some (.string b.s) ∧ W.cell? ⟨w.heap.size + 1, 1, none⟩ = some (.int .u32 b.p) ∧ W.cell? ⟨w.heap.size + 1, 2, none⟩ = some (.int .u16 b.q) ∧ Below w.heap.size w W) := by
    refine Lib.hid fun W hW => ?_
    have hW' : Below ((w.alloc (.cells #[.string a.s, .int .u32 a.p, .int .u16 a.q] 27)).alloc (.cells #[.string b.s, .int .u32 b.p, .int .u16 b.q] 27)).heap.size ((w.alloc (.cells #[.string a.s, .int .u32 a.p, .int .u16 a.q] 27)).alloc (.cells #[.string b.s, .int .u32 b.p, .int .u16 b.q] 27)) W := by simpa using hW
    obtain ⟨q0, q1, q2⟩ := ((AtE.new w a 27).below ((Below.refl _ _).alloc (Nat.le_refl _) (.cells #[.string b.s, .int .u32 b.p, .int .u16 b.q] 27))).below hW'
    obtain ⟨q3, q4, q5⟩ := (AtE.new (w.alloc (.cells #[.string a.s, .int .u32 a.p, .int .u16 a.q] 27)) b 27).below hW'
    simp only [alloc_size] at q3 q4 q5
    exact ⟨q0, q1, q2, q3, q4, q5, (ball (ball (Below.refl _ _) _) _).trans (hW.mono (by omega))⟩
  unfold cmpE
  obtain ⟨s, p, q⟩ := a
  obtain ⟨t, x, y⟩ := b
  unfold En.agg
  simp only at hS ⊢
  go_enter Try.func10, Try.ntmps10
  go_wp2_with fail
  obtain ⟨WA, hWA⟩ : ∃ WA, ((w.alloc (.cells #[.string s, .int .u32 p, .int .u16 q] 27)).alloc (.cells #[.string t, .int .u32 x, .int .u16 y] 27)) = WA := ⟨_, rfl⟩
  have hz : WA.heap.size = w.heap.size + 1 + 1 := by rw [← hWA]; simp
  rw [hWA] at hS ⊢
  clear hWA
  obtain ⟨q0, q1, q2, q3, q4, q5, q9⟩ := hS.out WA (Below.refl _ _)
  clear q9
  go_region_held3 (fun W => W.cell? ⟨w.heap.size, 0, none⟩ = some (.string s) ∧ W.cell? ⟨w.heap.size, 1, none⟩ = some (.int .u32 p) ∧ W.cell? ⟨w.heap.size, 2, none⟩ = some (.int .u16 q) ∧ W.cell? ⟨w.heap.size + 1, 0, none⟩ = some (.string t) ∧ W.cell? ⟨w.heap.size + 1, 1, none⟩ = some (.int .u32 x) ∧ W.cell? ⟨w.heap.size + 1, 2, none⟩ = some (.int .u16 y) ∧ Below w.heap.size w W)
    (first | exact hS.out _ (by rw [← hz]; (with_reducible repeat (first | exact Below.refl _ _ | exact hb1 | refine bto0 ?_ hb1 | refine bdr ?_ _ | refine Below.drew ?_ | refine ball ?_ _))) | assumption)
    (first
      | (go_at_call 28; (with_reducible refine (Try.strings_Compare _ _ _).mono ?_); rintro e w' ⟨rfl, rfl⟩)
      | (go_at_call 29; (with_reducible refine (cmp32_any _ _ _).mono ?_); rintro e w' ⟨rfl, rfl⟩)
      | (go_at_call 30; (with_reducible refine (cmp16_any _ _ _).mono ?_); rintro e w' ⟨rfl, rfl⟩)
      | (go_at_call 27; refine (or_any _ _ _ (w.heap.size + 1 + 1 + 1) [Lib.compareBytes s.data.toList t.data.toList, cmpI p x, cmpI q y] _ (three_reads WA _ _ _ hz.symm).drew (by decide)).mono ?_; rintro e w' ⟨rfl, rfl⟩))
  go_wp2
  go_ret
  exact ⟨rfl, (hS.out _ (by rw [← hz]; (with_reducible repeat (first | exact Below.refl _ _ | exact hb1 | refine bto0 ?_ hb1 | refine bdr ?_ _ | refine Below.drew ?_ | refine ball ?_ _)))).2.2.2.2.2.2⟩
end Go.Proofs.Ytgdipljaddodhaa
