/-
  Several texts in one: Fh.
-/
import Derived.Test.YtjlpfhioacphkaaMsac
import Derived.SizedLaws
/-
  A book's size, as its reading tells it.
-/
namespace Go.Proofs.Ytjlpfhioacphkaa
section
set_option linter.unusedSimpArgs false
set_option linter.unusedVariables false
open Go.RowKit Go.ChangeShapes Go.WideShapes Go.Deep

section
variable {H : Type} {enc : TypeId × Value → H} {P : Program} {w : World} {base : Nat} {spare : Nat → Bool} {held : Bool}
theorem book_reach {tb : TypeId} (T : BkTy P tb) (hby : P.bytesOf T.tt = 64) {n : Nat} {A : Option Addr} {k c : Nat} {B : Value} {y : DataW H × List MemPlace} (h : DataW.trod enc P w base spare held n tb [.slice A k c, B] = some y) (hall : ∀ x ∈ y.1.weights P tb, x ≤ 140737488351232) : k ≤ 2199023255552 := by
  obtain ⟨xs, m, hm, hy, hlen, hxl, hfd⟩ := DataW.trod_struct T.hb h
  have hf := T.hbf
  have hb := T.hb
  generalize T.fb = fs at hf hxl hfd hb
  have hfs : fs.size = 2 := by have := congrArg List.length hf; simpa using this
  obtain ⟨l⟩ := fs
  match l, hfs, hf, hb with
  | [f0, f1], _, hf, hb =>
    simp only [List.map_cons, List.map_nil, List.cons.injEq, Prod.mk.injEq, and_true] at hf
    obtain ⟨⟨t0, o0⟩, ⟨t1, o1⟩⟩ := hf
    match xs, hxl, hy with
    | [y0, y1], _, hy =>
      have e0 := hfd 0 f0 rfl
      rw [o0, t0, T.hts.2] at e0
      subst hy
      rcases DataW.trod_slice T.hts.1 e0 with ⟨hc, _⟩ | ⟨a, len, cap, elems, rest, m', _, hcs, hx, _, _, _, hle, _, _, _⟩
      · simp at hc
        omega
      · simp at hcs
        obtain ⟨_, rfl, _⟩ := hcs
        subst hx
        have h1 := hall ((elems.length + rest.length) * P.bytesOf T.tt) (by
          simp only [List.map_cons, List.map_nil]
          unfold DataW.weights
          rw [hb]
          simp only [List.map_cons, List.map_nil, DataW.weightsEach, t0]
          refine List.mem_append_left _ ?_
          unfold DataW.weights
          rw [T.hts.1]
          simp)
        rw [hby, hle] at h1
        omega
end
end
end Go.Proofs.Ytjlpfhioacphkaa
