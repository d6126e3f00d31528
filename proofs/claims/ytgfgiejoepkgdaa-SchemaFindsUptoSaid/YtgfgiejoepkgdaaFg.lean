/-
  A book's size, as its reading tells it.
-/
import Derived.Test.YtgfgiejoepkgdaaRows
import Derived.Test.YtgfgiejoepkgdaaFa
set_option linter.unusedSimpArgs false
set_option linter.unusedVariables false
namespace Go.Proofs.Ytgfgiejoepkgdaa
open Go.RowKit Go.ChangeShapes Go.WideShapes Go.Deep

theorem bulk_one {H : Type} (d : DataW H) : 1 ≤ Rows.uptoBulk d := by
  cases d with
  | lit x => cases x <;> simp [Rows.uptoBulk]
  | _ => simp [Rows.uptoBulk]
theorem bulk_len {H : Type} : ∀ l : List (DataW H), l.length ≤ Rows.uptoBulkAll l
  | [] => by simp
  | d :: r => by
    have h1 := bulk_one d
    have h2 := bulk_len r
    simp only [Rows.uptoBulkAll, List.length_cons]
    omega
section
variable {H : Type} {enc : TypeId × Value → H} {P : Program} {w : World} {base : Nat} {spare : Nat → Bool} {held : Bool}
theorem book_bulk {tb : TypeId} (T : BkTy P tb) {n : Nat} {A : Option Addr} {k c : Nat} {B : Value} {y : DataW H × List MemPlace} (h : DataW.trod enc P w base spare held n tb [.slice A k c, B] = some y) : k ≤ Rows.uptoBulk y.1 := by
  obtain ⟨xs, m, hm, hy, hlen, hxl, hfd⟩ := DataW.trod_struct T.hb h
  have hf := T.hbf
  generalize T.fb = fs at hf hxl hfd
  have hfs : fs.size = 2 := by have := congrArg List.length hf; simpa using this
  obtain ⟨l⟩ := fs
  match l, hfs, hf with
  | [f0, f1], _, hf =>
    simp only [List.map_cons, List.map_nil, List.cons.injEq, Prod.mk.injEq, and_true] at hf
    obtain ⟨⟨t0, o0⟩, ⟨t1, o1⟩⟩ := hf
    match xs, hxl, hy with
    | [y0, y1], _, hy =>
      have e0 := hfd 0 f0 rfl
      rw [o0, t0, T.hts.2] at e0
      subst hy
      simp only [List.map_cons, List.map_nil, Rows.uptoBulk, Rows.uptoBulkAll]
      rcases DataW.trod_slice T.hts.1 e0 with ⟨hc, _⟩ | ⟨a, len, cap, elems, rest, m', _, hcs, hx, _, _, _, hle, _, _, _⟩
      · simp at hc
        omega
      · simp at hcs
        obtain ⟨_, rfl, _⟩ := hcs
        subst hx
        have := bulk_len (elems.map (·.1))
        rw [List.length_map, hle] at this
        simp only [Rows.uptoBulk]
        omega
end
end Go.Proofs.Ytgfgiejoepkgdaa
