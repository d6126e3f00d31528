/-
  Several texts in one: Sr Ss Su.
-/
import Derived.Test.YtjlpfhioacphkaaMsao
import Derived.Test.YtjlpfhioacphkaaMsbm
import Derived.Test.YtjlpfhioacphkaaMsaq
import Derived.BigQuiet
import Derived.BigGuardPart
/-
  Slots of a heap page: the law's same.
-/
namespace Go.Proofs.Ytjlpfhioacphkaa
section
set_option linter.unusedSimpArgs false
set_option linter.unusedVariables false
open Go.RowKit

/-- The rows of a family from one on. -/
structure FamAt (w : World) (base : Nat) (rs : List (List UInt8)) (fs : List (Nat × Nat)) (k : Nat) : Prop where
  own : ∀ (i : Nat) (f : Nat × Nat) (r : List UInt8), k ≤ i → fs[i]? = some f → rs[i]? = some r → Own w base (.slice (some ⟨f.1, 0, none⟩) r.length f.2) r
theorem Fam.at_ {w : World} {base : Nat} {rs : List (List UInt8)} {fs : List (Nat × Nat)} (h : Fam w base rs fs) : FamAt w base rs fs 0 := ⟨fun i f r _ hf hr => h.own i f r hf hr⟩
theorem FamAt.below {w w' : World} {base k : Nat} {rs : List (List UInt8)} {fs : List (Nat × Nat)} (h : FamAt w base rs fs k) (hb : Below w.heap.size w w') : FamAt w' base rs fs k :=
  ⟨fun i f r hk hf hr => (h.own i f r hk hf hr).below hb⟩
theorem FamAt.next {w w' : World} {base k : Nat} {rs : List (List UInt8)} {fs : List (Nat × Nat)} {f : Nat × Nat} (h : FamAt w base rs fs k) (hl : ∀ (i j : Nat) (f f' : Nat × Nat), i < j → fs[i]? = some f → fs[j]? = some f' → f.1 < f'.1) (hf : fs[k]? = some f)
    (he : ∀ g, g < w.heap.size → g ≠ f.1 → w'.heap[g]? = w.heap[g]?) : FamAt w' base rs fs (k + 1) :=
  ⟨fun i f' r hk hf' hr => (h.own i f' r (by omega) hf' hr).same_ (he _ (h.own i f' r (by omega) hf' hr).block_lt.2 (fun e => by have := hl k i f f' (by omega) hf hf'; omega))⟩
section
variable {w : World} {A : Option Addr} {n c B : Nat} {l : List UInt8}
end
end
end Go.Proofs.Ytjlpfhioacphkaa
/-
  Slots of a heap page: the law's example.
-/
namespace Go.Proofs.Ytjlpfhioacphkaa
section
set_option linter.unusedSimpArgs false
set_option linter.unusedVariables false
open Go.RowKit

theorem lay_pE {next : Nat} {rs : List (List UInt8)} (h : Fits rs) : pE (layL next rs) = 512 - tot rs := by
  unfold pE
  rw [lay_C h, lay_end h rs.length (Nat.le_refl _), List.take_length]; rfl
theorem lay_room {next : Nat} {rs : List (List UInt8)} (h : Fits rs) : pRoom (layL next rs) = 508 - (8 + 4 * rs.length + tot rs) := by
  unfold pRoom
  rw [lay_page h, if_pos rfl, lay_pE h, lay_C h]; omega
theorem lay_count {next : Nat} {rs : List (List UInt8)} (h : Fits rs) : pC (layL next rs) = rs.length := by
  unfold pC
  rw [lay_page h, if_pos rfl, lay_C h]
theorem lay_recs {next : Nat} {rs : List (List UInt8)} (h : Fits rs) : recs (layL next rs) = rs := by
  apply List.ext_getElem?
  intro i
  by_cases hi : i < rs.length
  · rw [recs_at _ (by rw [lay_C h]; exact hi), List.getElem?_eq_getElem hi, lay_rec h (List.getElem?_eq_getElem hi)]
  · rw [List.getElem?_eq_none (by rw [recs_len, lay_C h]; omega), List.getElem?_eq_none (by omega)]
theorem fits_one : Fits [zs 10] := ⟨by decide, by intro r hr; rw [List.mem_singleton] at hr; subst hr; decide⟩
end
end Go.Proofs.Ytjlpfhioacphkaa
/-
  Slots of a heap page: the law SlotsPlays.
-/
namespace Go.Proofs.Ytjlpfhioacphkaa
section
set_option linter.unusedSimpArgs false
set_option linter.unusedVariables false
open Go.RowKit

theorem Own.past {w w' : World} {base : Nat} {v : Value} {l : List UInt8} (h : Own w base v l) (he : ∀ g, v.ownBlock = some g → g < w.heap.size → w'.heap[g]? = w.heap[g]?) : Own w' base v l := by
  refine ⟨h.1, ?_⟩
  rcases h.2 with hn | ⟨g, cap, cur, rfl, hb, hgg, rest⟩
  · exact .inl hn
  · refine .inr ⟨g, cap, cur, rfl, hb, ?_, rest⟩
    rw [he g rfl (Array.getElem?_eq_some_iff.1 hgg).1]
    exact hgg
section
variable {w w' : World} {base gp c c2 m next : Nat} {A A2 : Option Addr} {rs : List (List UInt8)}
end
end
end Go.Proofs.Ytjlpfhioacphkaa
