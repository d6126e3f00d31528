
/-
  Keys that came in: a text, a number, a Bool.
-/
import Derived.Test.YthpggfcindnlcaaGreatDoorOpen
import Derived.Test.YthpggfcindnlcaaGreatDoorQa
set_option linter.unusedSimpArgs false
set_option linter.unusedVariables false
namespace Go.Proofs.YthpggfcindnlcaaGreatDoor
open Go.RowKit Go.ChangeShapes Go.WideShapes Go.Deep

def Ky.cells (x : Ky) : List Value := [.string x.s, .int .i64 x.i, .bool x.d]
section
variable {H : Type} {enc : TypeId × Value → H} {P : Program} {w : World} {base : Nat} {spare : Nat → Bool} {held : Bool}
theorem trod_key {t tk ti ts : TypeId} {fs : Array Field} {n : Nat} {cs : List Value} {y : DataW H × List MemPlace} (ht : P.underlying t = some (.struct fs)) (hone : oneCellFields P fs = true) (hC : P.cellsOf t = 3) (hf : fs.toList.map (·.type) = [tk, ti, ts])
    (hk : P.underlying tk = some .string) (hi : P.underlying ti = some (.int .i64)) (hs : P.underlying ts = some .bool) (h : DataW.trod enc P w base spare held n t cs = some y) :
    ∃ v : Ky, cs = v.cells ∧ (-9223372036854775808 ≤ v.i ∧ v.i ≤ 9223372036854775807) := by
  obtain ⟨xs, m, _, _, hlen, hxl, hfd⟩ := DataW.trod_struct ht h
  rw [hC] at hlen
  match cs, hlen with
  | [c0, c1, c2], _ =>
    have hfs : fs.size = 3 := by have := congrArg List.length hf; simpa using this
    obtain ⟨l⟩ := fs
    match l, hfs, hf with
    | [f0, f1, f2], _, hf =>
      simp only [List.map_cons, List.map_nil, List.cons.injEq, and_true] at hf
      obtain ⟨rfl, rfl, rfl⟩ := hf
      match xs, hxl with
      | [y0, y1, y2], _ =>
        obtain ⟨o0, k0⟩ := hone_of hone 0 f0 rfl
        obtain ⟨o1, k1⟩ := hone_of hone 1 f1 rfl
        obtain ⟨o2, k2⟩ := hone_of hone 2 f2 rfl
        have e0 := hfd 0 f0 rfl
        have e1 := hfd 1 f1 rfl
        have e2 := hfd 2 f2 rfl
        rw [o0, k0] at e0; rw [o1, k1] at e1; rw [o2, k2] at e2
        obtain ⟨s, hs', _, ws⟩ := DataW.trod_string hk e0
        obtain ⟨b, hb, _, wb⟩ := DataW.trod_int hi e1
        obtain ⟨d, hd, _⟩ := DataW.trod_bool hs e2
        simp at hs' hb hd
        subst hs'; subst hb; subst hd
        exact ⟨⟨s, b, d⟩, rfl, Go.bounds_i64 wb⟩
theorem trod_keys {t e tk ti ts : TypeId} {fs : Array Field} {n : Nat} {cs : List Value} {y : DataW H × List MemPlace} (ht : P.underlying t = some (.slice e)) (he : P.underlying e = some (.struct fs)) (hone : oneCellFields P fs = true) (hC : P.cellsOf e = 3) (hf : fs.toList.map (·.type) = [tk, ti, ts])
    (hk : P.underlying tk = some .string) (hi : P.underlying ti = some (.int .i64)) (hs : P.underlying ts = some .bool) (h : DataW.trod enc P w base spare held n t cs = some y) :
    ∃ (A : Option Addr) (len cap : Nat) (l : List Ky), cs = [.slice A len cap] ∧ len ≤ cap ∧ cap ≤ maxLen ∧ l.length = len ∧ (∀ v ∈ l, -9223372036854775808 ≤ v.i ∧ v.i ≤ 9223372036854775807) ∧ Reads w w.heap.size 3 A len (vKy l) := by
  obtain ⟨A, len, cap, L, rfl, h1, h2, h3, h4, h5⟩ := trod_sl (fun c => ∃ v : Ky, c = v.cells ∧ (-9223372036854775808 ≤ v.i ∧ v.i ≤ 9223372036854775807)) ht hC (by omega) (fun m c y hc _ => trod_key he hone hC hf hk hi hs hc) h
  have hex : ∀ (L : List (List Value)), (∀ c ∈ L, ∃ v : Ky, c = v.cells ∧ (-9223372036854775808 ≤ v.i ∧ v.i ≤ 9223372036854775807)) → ∃ l : List Ky, L = l.map Ky.cells ∧ ∀ v ∈ l, -9223372036854775808 ≤ v.i ∧ v.i ≤ 9223372036854775807 := by
    intro L
    induction L with
    | nil => intro _; exact ⟨[], rfl, by simp⟩
    | cons c r ih =>
      intro hL
      obtain ⟨v, rfl, hv⟩ := hL c (by simp)
      obtain ⟨l, rfl, hl⟩ := ih fun c hc => hL c (by simp [hc])
      exact ⟨v :: l, rfl, by intro u hu; rcases List.mem_cons.1 hu with rfl | hu; exact hv; exact hl u hu⟩
  obtain ⟨l, rfl, hl⟩ := hex L fun c hc => (h4 c hc).1
  refine ⟨A, len, cap, l, rfl, h1, h2, by simpa using h3, hl, ?_⟩
  have : (l.map Ky.cells).flatMap id = vKy l := by unfold vKy; rw [List.flatMap_map]; rfl
  rwa [this] at h5
end
end Go.Proofs.YthpggfcindnlcaaGreatDoor
