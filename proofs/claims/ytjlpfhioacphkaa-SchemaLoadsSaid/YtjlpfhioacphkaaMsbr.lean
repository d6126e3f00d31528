/-
  Several texts in one: Hc.
-/
import Derived.Test.YtjlpfhioacphkaaMsbp
import Derived.Test.YtjlpfhioacphkaaMsbd
/-
  Heap: the reference's Scan.
-/
namespace Go.Proofs.Ytjlpfhioacphkaa
section
set_option linter.unusedSimpArgs false
set_option linter.unusedVariables false
open Go.RowKit

/-- What the reference's Scan answers. -/
def RetRS (w : World) (R : List It × Nat × Int) (e : Ending) (w' : World) : Prop :=
  ∃ A c, e = .returned (.tuple #[.slice A R.1.length c, .int .i64 R.2.1, .int .i64 R.2.2]) ∧ Reads w' w'.heap.size 3 A R.1.length (iV R.1) ∧ Below w.heap.size w w'
theorem reads_empty (w : World) (t : TypeId) (size : Nat) {g : Nat} (hg : g = w.heap.size) : Reads (w.alloc (.cells #[] t)) (w.alloc (.cells #[] t)).heap.size size (some ⟨g, 0, none⟩) 0 [] := ⟨by simp, fun h => absurd h (by omega)⟩
theorem own_belowR2 {w w' : World} {base : Nat} {e : TypeId} {size n : Nat} {v : Value} {xs : List Value} (h : w.ownsRow base e size v n xs) (hb : Below w.heap.size w w') : w'.ownsRow base e size v n xs := own_kept_below h hb
/-- What another kind's block holds stays where a row of the call's own grows. -/
theorem blk_own_ne {w w' : World} {base : Nat} {e : TypeId} {size n : Nat} {v : Value} {xs : List Value} {g : Nat} {t : TypeId} {cs : Array Value} (h : w.ownsRow base e size v n xs) (hb : Blk w g t cs) (hg : w.grownBy w' v.ownBlock) (hne : e ≠ t) : Blk w' g t cs :=
  hb.grown hg fun e' => own_blk_ne h hb hne e'.symm
theorem reads_apart {w w' : World} {B size n : Nat} {A : Option Addr} {xs : List Value} {row : Option Nat} (h : Reads w B size A n xs) (hg : w.grownBy w' row) (hne : ∀ ad, A = some ad → row ≠ some ad.block) : Reads w' B size A n xs := by
  refine ⟨h.1, fun hn => ?_⟩
  obtain ⟨ad, e1, hb, hc⟩ := h.2 hn
  refine ⟨ad, e1, hb, fun j u hj => ?_⟩
  have hcu := hc j u hj
  have hk := hg.block (ad.add j).block (cell_block hcu) (by rw [block_of_add]; exact fun e => hne ad e1 e.symm)
  unfold World.cell? at hcu ⊢
  rw [hk]
  exact hcu
theorem itK_all (p : Nat) (rs : List (List UInt8)) (k : Nat) : ∀ x ∈ itK p rs k, x.p = p := by
  intro x hx
  unfold itK at hx
  obtain ⟨i, _, rfl⟩ := List.mem_map.1 hx
  rfl
end
end Go.Proofs.Ytjlpfhioacphkaa
