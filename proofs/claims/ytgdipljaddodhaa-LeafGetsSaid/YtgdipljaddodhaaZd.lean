/-
  Bytes of a string as a row of its own; clear of a row of the call's own.
-/
import Derived.Test.YtgdipljaddodhaaOw
import Derived.Lib.ConvBytes
import Derived.Lib.SliceRun
import Derived.Deep.Upon
namespace Go.Proofs.Ytgdipljaddodhaa
set_option linter.unusedSimpArgs false
set_option linter.unusedVariables false
open Go.RowKit

/-- What '[]byte(s)' makes: a new row that reads as s, whose cells can be written. -/
structure Fresh (w w' : World) (l : List UInt8) (c : Nat) : Prop where
  reads : Reads w' w'.heap.size 1 (some ⟨w.heap.size, 0, none⟩) l.length (bL l)
  below : Below w.heap.size w w'
  size : w'.heap.size = w.heap.size + 1
  isC : ∀ j, j < l.length → (w'.cell? ⟨w.heap.size, j, none⟩).isSome = true
  free : ∀ j, j < l.length → w'.frozen? ⟨w.heap.size, j, none⟩ = false
theorem bytes_of_str (w : World) (l : List UInt8) : ∃ w' c, (convert 9 34 (.string (str l))).run Try.prog w = .ok (.slice (some ⟨w.heap.size, 0, none⟩) l.length c) w' ∧ Fresh w w' l c := by
  refine ⟨Lib.bytesWorld w 5 (str l), grownCap w (str l).size 0 5, ?_, ?_⟩
  · have h := Lib.run_convert_string_bytes (P := Try.prog) w 9 34 5 (str l) Try.underlying9 Try.underlying34 Try.underlying5
    rw [h, str_size]
  · have hcell : ∀ j, j < l.length → (Lib.bytesWorld w 5 (str l)).cell? ⟨w.heap.size, j, none⟩ = some (.int .u8 ((l.getD j 0).toNat : Int)) := by
      intro j hj
      rw [Lib.bytesWorld_cell w _ (str l) j (by rw [str_size]; exact hj), str_data]
    have hz := Lib.bytesWorld_size w 5 (str l)
    refine ⟨⟨by rw [bL_len]; omega, fun _ => ⟨_, rfl, by simp [hz], fun j u hu => ?_⟩⟩, ⟨rfl, rfl, rfl, by omega, fun k hk => Lib.bytesWorld_at_old _ _ _ _ hk⟩, hz, fun j hj => by rw [hcell j hj]; rfl, fun j hj => ?_⟩
    · have hj := lt_of_at hu
      rw [bL_len] at hj
      rw [add_head, hcell j hj, ← hu]
      simp [bL, hj, List.getD]
    · have hs : (str l).size = l.length := str_size l
      simp only [World.frozen?, Lib.bytesWorld_at_new]
      have : (Lib.bytesCells w 5 (str l)).size ≥ l.length := by simp [Lib.bytesCells, str]
      simp; omega
theorem below_setCells {B g : Nat} {w0 : World} (hB : B ≤ g) : ∀ (vs : List Value) (o : Nat) (w : World), Below B w0 w → Below B w0 (w.setCells g o vs)
  | [], _, _, h => h
  | v :: r, o, w, h => below_setCells hB r (o + 1) _ (h.setCell hB v)
theorem size_setCells (g : Nat) : ∀ (vs : List Value) (o : Nat) (w : World), (w.setCells g o vs).heap.size = w.heap.size
  | [], _, _ => rfl
  | v :: r, o, w => (size_setCells g r (o + 1) _).trans (by simp [World.setCell])
theorem Try.zeroB (w : World) : (zeroValue 5).run Try.prog w = .ok (.int .u8 0) w := by kernel_rfl
/-- clear(own). -/
theorem Own.clear_ {w : World} {base : Nat} {A : Option Addr} {n c : Nat} {l : List UInt8} (h : Own w base (.slice A n c) l) :
    ∃ w', (∀ ty, (Builtin.clear_ #[34] ty #[.slice A n c]).run Try.prog w = .ok (.tuple #[]) w') ∧ (∀ B w0, B ≤ base → Below B w0 w → Below B w0 w') ∧
      (∀ g, g < w.heap.size → (Value.slice A n c).ownBlock ≠ some g → w'.heap[g]? = w.heap[g]?) ∧ w.heap.size ≤ w'.heap.size := by
  rcases Nat.eq_zero_or_pos n with h0 | h0
  · subst h0
    refine ⟨w, fun ty => ?_, fun _ _ _ k => k, fun _ _ _ => rfl, Nat.le_refl _⟩
    have ht : Try.prog.underlying 34 = some (.slice 5) := Try.underlying34
    cases A <;> simp [Builtin.clear_, run_underlying ht, Sem.run_pure]
  · obtain ⟨A', c', e, _⟩ := h.form
    have hn : n = l.length := h.reads.2
    obtain ⟨g, cap, hv, hbase, hlt⟩ := World.ownsRow.form h (by omega)
    have hA : A = some ⟨g, 0, none⟩ := by injection hv
    have hcc : c = cap := by injection hv
    subst hA; subst hcc
    have h' : w.ownsRow base 5 1 (.slice (some ⟨g, 0, none⟩) l.length c) l.length (bL l) := by rw [hn] at h; exact h
    refine ⟨w.setCells g 0 (List.replicate n (.int .u8 0)), fun ty => ?_, ?_, ?_, by rw [size_setCells]; exact Nat.le_refl _⟩
    · refine Lib.run_clear_slice w _ _ ty _ Try.underlying34 Try.zeroB rfl rfl g 0 n c h0 (fun j hj => ?_) (fun j hj => ?_)
      · rw [Nat.zero_add, h'.cellAt j (by omega), List.getElem?_eq_getElem (by rw [bL_len]; omega)]
        rfl
      · rw [Nat.zero_add]
        exact h'.frozenAt j
    · intro B w0 hB hb
      exact below_setCells (by omega) _ _ _ hb
    · intro g' hg' hne
      refine World.heap_setCells_other w g 0 _ hg' (fun e => hne ?_)
      subst e
      rfl
theorem Reads.same_ {w w' : World} {B size n : Nat} {A : Option Addr} {xs : List Value} (h : Reads w B size A n xs) (e : ∀ ad, A = some ad → ad.block < B → w'.heap[ad.block]? = w.heap[ad.block]?) : Reads w' B size A n xs :=
  ⟨h.1, fun hn => by
    obtain ⟨ad, hA, hb, hc⟩ := h.2 hn
    exact ⟨ad, hA, hb, fun j u hu => (World.cell?_of_block (by rw [block_of_add]; exact e ad hA hb)).trans (hc j u hu)⟩⟩

theorem own_base {w : World} {base sz n m c : Nat} {t : TypeId} {A : Option Addr} {ad : Addr} {xs : List Value} (h : w.ownsRow base t sz (.slice A m c) n xs) (hA : A = some ad) : base ≤ ad.block := by
  rcases h.2 with ⟨hv, _⟩ | ⟨g, cap, cur, hv, hb, _⟩
  · injection hv with h1; rw [hA] at h1; cases h1
  · injection hv with h1; rw [hA] at h1; injection h1 with h1; subst h1; exact hb
end Go.Proofs.Ytgdipljaddodhaa
