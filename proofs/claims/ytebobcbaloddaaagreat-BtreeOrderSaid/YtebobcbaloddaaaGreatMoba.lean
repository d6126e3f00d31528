/-
  Pc.
-/
import Derived.Test.YtebobcbaloddaaaGreatMoar
import Derived.Test.YtebobcbaloddaaaGreatMoau
import Derived.Lib.Builder
namespace Go.Proofs.YtebobcbaloddaaaGreat
section
set_option linter.unusedSimpArgs false
set_option linter.unusedVariables false
set_option linter.unusedSimpArgs false
set_option linter.unusedVariables false
open Go.RowKit
section
variable {w : World} {lo gp : Nat} {K : List Fr} {x0 x1 x2 x7 x8 : Value}
theorem enter_any (h : Rg w lo gp K x0 x1 x2 x7 x8) {f : Fr} {o1 o2 : Value} (hf : Blk w f.g 100 #[.int .u32 f.p, .slice (some ⟨f.b, 0, none⟩) 512 512, o1, o2]) (hlo : lo ≤ f.g) (hfr : ∀ (j : Nat) (f' : Fr), K[j]? = some f' → f'.g ≠ f.g) :
 Calls Tryz.prog 103 #[.pointer (some ⟨f.g, 0, none⟩), .pointer (some ⟨gp, 3, none⟩)] w fun e w' => e = .returned (.tuple #[]) ∧ Rg w' lo gp (K ++ [f]) x0 x1 x2 x7 x8 ∧ Stay w w' lo gp (K ++ [f]) := by
 obtain ⟨ab, ao, ta, ca, ea, ba, sa, la, ga⟩ := h.node K.length
 have h2 : w.cell? ⟨f.g, 2, none⟩ = some o1 := hf.cell 2
 have h3 : w.cell? ⟨f.g, 3, none⟩ = some o2 := hf.cell 3
 have he : w.cell? ⟨gp, 3 + 2, none⟩ = some (.pointer (some ⟨ab, ao, none⟩)) := by rw [h.pool.cell]; simp [plC, ea]
 have ha : w.cell? ⟨ab, ao + 3, none⟩ = some ca[ao + 3] := by rw [ba.cell, Array.getElem?_eq_getElem sa]
 have n2 : gp ≠ f.g := fun e => by
  have hp := h.pool
  rw [e] at hp
  exact hf.ne_ hp (by decide) rfl
 have n1 : ab ≠ f.g := by
  rcases adr_cases gp K K.length with ⟨e, _⟩ | ⟨j, f', _, hj, e⟩
  · rw [e] at ea; injection ea with ea; rw [← ea]; exact n2
  · rw [e] at ea; injection ea with ea; rw [← ea]; exact hfr j f' hj
 refine (enter_raw f.g ab ao gp _ _ _ (.pointer none) w h2 h3 (hf.frozen _) (hf.frozen _) he (h.pool.frozen _) ha (ba.frozen _) n1 n2 ga).mono ?_
 rintro e w' ⟨rfl, rfl⟩
 have hup : ∀ {g : Nat} {t : TypeId} {cs : Array Value}, g ≠ f.g → Blk w g t cs → Blk ((((w.setCell ⟨f.g, 2, none⟩ (.pointer (some ⟨ab, ao, none⟩))).setCell ⟨f.g, 3, none⟩ (.pointer (some ⟨gp, 3, none⟩))).setCell ⟨ab, ao + 3, none⟩ (.pointer (some ⟨f.g, 0, none⟩))).setCell ⟨gp, 5, none⟩ (.pointer (some ⟨f.g, 0, none⟩))) g t
  (if g = gp then (if g = ab then cs.setIfInBounds (ao + 3) (.pointer (some ⟨f.g, 0, none⟩)) else cs).setIfInBounds 5 (.pointer (some ⟨f.g, 0, none⟩)) else (if g = ab then cs.setIfInBounds (ao + 3) (.pointer (some ⟨f.g, 0, none⟩)) else cs)) :=
  fun hg hb => ((((hb.far hg _).far hg _).upd ab (ao + 3) _).upd gp 5 _)
 have eab : (adr gp K K.length).block = ab ∧ (adr gp K K.length).off = ao := by rw [ea]; exact ⟨rfl, rfl⟩
 refine ⟨rfl, ⟨h.low, ?_, ?_, ?_⟩, ⟨?_, ?_, ?_⟩⟩
 · have hb := hup n2 h.pool
   have k1 := h.blk_pl K.length
   rw [eab.1] at k1
   rw [if_pos rfl] at hb
   have e1 : adr gp (K ++ [f]) (K ++ [f]).length = ⟨f.g, 0, none⟩ := by rw [adr_snoc, if_pos (by simp)]
   have e2 : adr gp (K ++ [f]) 1 = if K.length = 0 then ⟨f.g, 0, none⟩ else adr gp K 1 := by
    rw [adr_snoc]
    by_cases c : K.length = 0
    · rw [if_pos (by omega), if_pos c]
    · rw [if_neg (by omega), if_neg c]
   unfold plC
   rw [e1, e2]
   by_cases c : K.length = 0
   · have d1 : gp = ab := k1.2 (.inl c)
     have d3 : ao = 3 := by rw [← eab.2]; exact adr_off_pl _ (.inl c)
     subst d3
     rw [if_pos d1] at hb
     rw [if_pos c]
     exact hb
   · have d1 : ¬ gp = ab := fun e => by have := k1.1 e; omega
     rw [if_neg d1] at hb
     rw [if_neg c]
     exact hb
 · intro j f' hj
   rcases Nat.lt_or_ge j K.length with hlt | hge
   · rw [List.getElem?_append_left hlt] at hj
     refine ⟨?_, (h.fr j f' hj).2⟩
     have hb := hup (hfr j f' hj) (h.fr j f' hj).1
     have k1 := h.blk_fr hj K.length
     rw [eab.1] at k1
     rw [if_neg (h.ne hj)] at hb
     unfold frC
     rw [adr_snoc, adr_snoc, if_neg (by omega)]
     by_cases c : j + 1 = K.length
     · have d1 : f'.g = ab := k1.2 c.symm
       have d3 : ao = 0 := by rw [← eab.2, ← c]; exact adr_off_fr hj
       subst d3
       rw [if_pos d1] at hb
       rw [if_pos (by omega)]
       exact hb
     · have d1 : ¬ f'.g = ab := fun e => c (k1.1 e).symm
       rw [if_neg d1] at hb
       rw [if_neg (by omega)]
       exact hb
   · have hl := lt_of_at hj
     have : j = K.length := by simp at hl; omega
     subst this
     rw [List.getElem?_append_right (Nat.le_refl _), Nat.sub_self] at hj
     injection hj with hj
     subst hj
     refine ⟨?_, hlo⟩
     have hb := (((hf.set_ 2 (.pointer (some ⟨ab, ao, none⟩))).set_ 3 (.pointer (some ⟨gp, 3, none⟩))).far (p := ⟨ab, ao + 3, none⟩) (fun e => n1 e.symm) (.pointer (some ⟨f.g, 0, none⟩))).far (p := ⟨gp, 5, none⟩) (fun e => n2 e.symm) (.pointer (some ⟨f.g, 0, none⟩))
     unfold frC
     rw [adr_snoc, adr_snoc, if_neg (by omega), if_neg (by omega), ea, adr_past (by omega)]
     exact hb
 · intro j1 j2 f1 f2 hj1 hj2 hg
   have cs : ∀ (j : Nat) (f' : Fr), (K ++ [f])[j]? = some f' → (K[j]? = some f') ∨ (j = K.length ∧ f' = f) := by
    intro j f' hj
    rcases Nat.lt_or_ge j K.length with hlt | hge
    · rw [List.getElem?_append_left hlt] at hj; exact .inl hj
    · have hl := lt_of_at hj
      have : j = K.length := by simp at hl; omega
      subst this
      rw [List.getElem?_append_right (Nat.le_refl _), Nat.sub_self] at hj
      injection hj with hj
      exact .inr ⟨rfl, hj.symm⟩
   rcases cs j1 f1 hj1 with a | ⟨a, rfl⟩ <;> rcases cs j2 f2 hj2 with b | ⟨b, rfl⟩
   · exact h.inj _ _ _ _ a b hg
   · exact absurd hg (hfr _ _ a)
   · exact absurd hg.symm (hfr _ _ b)
   · omega
 · simp [World.setCell]
 · intro g hg hk
   have nf : g ≠ f.g := hk K.length f (by rw [List.getElem?_append_right (Nat.le_refl _), Nat.sub_self]; rfl)
   have na : g ≠ ab := by
    rcases adr_cases gp K K.length with ⟨e, _⟩ | ⟨j, f', _, hj, e⟩
    · rw [e] at eab; rw [← eab.1]; exact hg
    · rw [e] at eab; rw [← eab.1]; exact hk j f' (by rw [List.getElem?_append_left (lt_of_at hj)]; exact hj)
   rw [Below.heap_setCell _ _ _ _ hg, Below.heap_setCell _ _ _ _ na, Below.heap_setCell _ _ _ _ nf, Below.heap_setCell _ _ _ _ nf]
 · intro B w0 hB hb
   exact (((hb.setCell (show B ≤ (⟨f.g, 2, none⟩ : Addr).block from Nat.le_trans hB hlo) _).setCell (show B ≤ (⟨f.g, 3, none⟩ : Addr).block from Nat.le_trans hB hlo) _).setCell (show B ≤ (⟨ab, ao + 3, none⟩ : Addr).block from Nat.le_trans hB la) _).setCell (show B ≤ (⟨gp, 5, none⟩ : Addr).block from Nat.le_trans hB h.low) _
theorem Rg.below (h : Rg w lo gp K x0 x1 x2 x7 x8) {w' : World} (hb : Below w.heap.size w w') : Rg w' lo gp K x0 x1 x2 x7 x8 :=
 ⟨h.low, h.pool.below hb h.pool.lt, fun i f hi => ⟨(h.fr i f hi).1.below hb (h.fr i f hi).1.lt, (h.fr i f hi).2⟩, h.inj⟩
theorem Rg.same (h : Rg w lo gp K x0 x1 x2 x7 x8) {w' : World} (h1 : w'.heap[gp]? = w.heap[gp]?) (h2 : ∀ (j : Nat) (f : Fr), K[j]? = some f → w'.heap[f.g]? = w.heap[f.g]?) : Rg w' lo gp K x0 x1 x2 x7 x8 :=
 ⟨h.low, h1.trans h.pool, fun i f hi => ⟨(h2 i f hi).trans (h.fr i f hi).1, (h.fr i f hi).2⟩, h.inj⟩
theorem Rg.put7 (h : Rg w lo gp K x0 x1 x2 x7 x8) (u : Value) : Rg (w.setCell ⟨gp, 7, none⟩ u) lo gp K x0 x1 x2 u x8 :=
 ⟨h.low, h.pool.set_ 7 u, fun i f hi => ⟨(h.fr i f hi).1.far (p := ⟨gp, 7, none⟩) (h.ne hi) u, (h.fr i f hi).2⟩, h.inj⟩
theorem Rg.put8 (h : Rg w lo gp K x0 x1 x2 x7 x8) (u : Value) : Rg (w.setCell ⟨gp, 8, none⟩ u) lo gp K x0 x1 x2 x7 u :=
 ⟨h.low, h.pool.set_ 8 u, fun i f hi => ⟨(h.fr i f hi).1.far (p := ⟨gp, 8, none⟩) (h.ne hi) u, (h.fr i f hi).2⟩, h.inj⟩
end
end
end Go.Proofs.YtebobcbaloddaaaGreat
