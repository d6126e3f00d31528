/-
  Pa Pb.
-/
import Derived.Test.YtebobcbaloddaaaGreatMoaq
import Derived.Laws.LoneSync
import Derived.RegionTactic
namespace Go.Proofs.YtebobcbaloddaaaGreat
section
set_option linter.unusedSimpArgs false
set_option linter.unusedVariables false
set_option linter.unusedSimpArgs false
set_option linter.unusedVariables false
open Go.RowKit
theorem add64_any (g o x : Nat) (w : World) (hc : w.cell? ⟨g, o, none⟩ = some (.int .u64 x)) (hf : w.frozen? ⟨g, o, none⟩ = false) (hx : x ≤ 1000000) :
 Calls Tryz.prog 100 #[.pointer (some ⟨g, o, none⟩), .int .u64 1] w fun e w' => e = .returned (.int .u64 (x + 1 : Nat)) ∧ w' = w.setCell ⟨g, o, none⟩ (.int .u64 (x + 1 : Nat)) := by
 have hs : (Op.intArith .add .u64 (x : Int) 1).run Tryz.prog w = .ok (.int .u64 (x + 1 : Nat)) w := by
  simp [go_sem, IntKind.wrap_u64]; omega
 have ad := run_call_add (P := Tryz.prog) Tryz.func119 (by kernel_rfl) (by kernel_rfl) (by kernel_rfl) .u64 (by kernel_rfl) hc hf hs
 go_enter Tryz.func100, Tryz.ntmps100
 go_wp2
 go_ret
 exact ⟨rfl, rfl⟩
theorem leave_raw (fg ab ao zb zo : Nat) (u v : Value) (w : World) (h2 : w.cell? ⟨fg, 2, none⟩ = some (.pointer (some ⟨ab, ao, none⟩))) (h3 : w.cell? ⟨fg, 3, none⟩ = some (.pointer (some ⟨zb, zo, none⟩)))
 (ha : w.cell? ⟨ab, ao + 3, none⟩ = some u) (fa : w.frozen? ⟨ab, ao + 3, none⟩ = false) (hz : ((w.setCell ⟨ab, ao + 3, none⟩ (.pointer (some ⟨zb, zo, none⟩))).cell? ⟨zb, zo + 2, none⟩) = some v) (fz : w.frozen? ⟨zb, zo + 2, none⟩ = false) :
 Calls Tryz.prog 101 #[.pointer (some ⟨fg, 0, none⟩)] w fun e w' => e = .returned (.tuple #[]) ∧ ((w.setCell ⟨ab, ao + 3, none⟩ (.pointer (some ⟨zb, zo, none⟩))).setCell ⟨zb, zo + 2, none⟩ (.pointer (some ⟨ab, ao, none⟩))).drew = w' := by
 go_enter Tryz.func101, Tryz.ntmps101
 go_wp2
 go_region
 all_goals (go_end0; exact ⟨rfl, rfl⟩)
theorem enter_raw (fg ab ao gp : Nat) (o1 o2 u v : Value) (w : World) (h2 : w.cell? ⟨fg, 2, none⟩ = some o1) (h3 : w.cell? ⟨fg, 3, none⟩ = some o2) (f2 : w.frozen? ⟨fg, 2, none⟩ = false) (f3 : w.frozen? ⟨fg, 3, none⟩ = false) (he : w.cell? ⟨gp, 3 + 2, none⟩ = some (.pointer (some ⟨ab, ao, none⟩)))
 (fe : w.frozen? ⟨gp, 3 + 2, none⟩ = false) (ha : w.cell? ⟨ab, ao + 3, none⟩ = some u) (fa : w.frozen? ⟨ab, ao + 3, none⟩ = false) (n1 : ab ≠ fg) (n2 : gp ≠ fg) (n3 : ab = gp → ao = 3) :
 Calls Tryz.prog 103 #[.pointer (some ⟨fg, 0, none⟩), .pointer (some ⟨gp, 3, none⟩)] w fun e w' => e = .returned (.tuple #[]) ∧
  ((((w.setCell ⟨fg, 2, none⟩ (.pointer (some ⟨ab, ao, none⟩))).setCell ⟨fg, 3, none⟩ (.pointer (some ⟨gp, 3, none⟩))).setCell ⟨ab, ao + 3, none⟩ (.pointer (some ⟨fg, 0, none⟩))).setCell ⟨gp, 5, none⟩ (.pointer (some ⟨fg, 0, none⟩))) = w' := by
 have hx : ((((w.setCell ⟨fg, 2, none⟩ (.pointer (some ⟨ab, ao, none⟩))).setCell ⟨fg, 3, none⟩ (.pointer (some ⟨gp, 3, none⟩))).setCell ⟨ab, ao + 3, none⟩ (.pointer (some ⟨fg, 0, none⟩)))).cell? ⟨gp, 5, none⟩ = some (.pointer (some ⟨ab, ao, none⟩)) := by
  rw [World.cell?_setCell_other _ _ _ _ (by intro e; injection e with e1 e2; have := n3 e1; omega), World.cell?_setCell_other _ _ _ _ (by intro e; injection e with e1 e2; exact n2 e1.symm), World.cell?_setCell_other _ _ _ _ (by intro e; injection e with e1 e2; exact n2 e1.symm)]
  exact he
 clear n3
 go_enter Tryz.func103, Tryz.ntmps103
 go_wp2
 go_end0
 exact ⟨rfl, rfl⟩
end
end Go.Proofs.YtebobcbaloddaaaGreat
namespace Go.Proofs.YtebobcbaloddaaaGreat
section
set_option linter.unusedSimpArgs false
set_option linter.unusedVariables false
set_option linter.unusedSimpArgs false
set_option linter.unusedVariables false
open Go.RowKit
structure Fr where
 g : Nat
 p : Nat
 b : Nat
 l : List UInt8
def adr (gp : Nat) (K : List Fr) : Nat → Addr
 | 0 => ⟨gp, 3, none⟩
 | i + 1 => match K[i]? with
   | some f => ⟨f.g, 0, none⟩
   | none => ⟨gp, 3, none⟩
theorem adr_at {gp : Nat} {K : List Fr} {i : Nat} {f : Fr} (h : K[i]? = some f) : adr gp K (i + 1) = ⟨f.g, 0, none⟩ := by simp [adr, h]
theorem adr_past {gp : Nat} {K : List Fr} {i : Nat} (h : K.length < i) : adr gp K i = ⟨gp, 3, none⟩ := by
 obtain ⟨j, rfl⟩ : ∃ j, i = j + 1 := ⟨i - 1, by omega⟩
 simp [adr, List.getElem?_eq_none (show K.length ≤ j by omega)]
theorem adr_cases (gp : Nat) (K : List Fr) (i : Nat) : (adr gp K i = ⟨gp, 3, none⟩ ∧ (i = 0 ∨ K.length < i)) ∨ ∃ j f, i = j + 1 ∧ K[j]? = some f ∧ adr gp K i = ⟨f.g, 0, none⟩ := by
 cases i with
 | zero => exact .inl ⟨rfl, .inl rfl⟩
 | succ j =>
   rcases h : K[j]? with _ | f
   · exact .inl ⟨by simp [adr, h], .inr (by have := List.getElem?_eq_none_iff.1 h; omega)⟩
   · exact .inr ⟨j, f, rfl, h, adr_at h⟩
theorem adr_erase (gp : Nat) (K : List Fr) (i j : Nat) (hi : i < K.length) : adr gp (K.eraseIdx i) j = adr gp K (if j ≤ i then j else j + 1) := by
 cases j with
 | zero => simp [adr]
 | succ j =>
   by_cases hj : j + 1 ≤ i
   · rw [if_pos hj]
     simp only [adr, List.getElem?_eraseIdx]
     rw [if_pos (by omega)]
   · rw [if_neg hj]
     simp only [adr, List.getElem?_eraseIdx]
     rw [if_neg (by omega)]
theorem adr_snoc (gp : Nat) (K : List Fr) (f : Fr) (j : Nat) : adr gp (K ++ [f]) j = if j = K.length + 1 then ⟨f.g, 0, none⟩ else adr gp K j := by
 cases j with
 | zero => simp [adr]
 | succ j =>
   by_cases hj : j = K.length
   · subst hj; simp [adr]
   · rw [if_neg (by omega)]
     simp only [adr]
     rcases Nat.lt_or_ge j K.length with h | h
     · rw [List.getElem?_append_left h]
     · rw [List.getElem?_eq_none (show (K ++ [f]).length ≤ j by simp; omega), List.getElem?_eq_none h]
def frC (gp : Nat) (K : List Fr) (i : Nat) (f : Fr) : Array Value := #[.int .u32 f.p, .slice (some ⟨f.b, 0, none⟩) 512 512, .pointer (some (adr gp K i)), .pointer (some (adr gp K (i + 2)))]
def plC (gp : Nat) (K : List Fr) (x0 x1 x2 x7 x8 : Value) : Array Value := #[x0, x1, x2, .int .u32 0, .slice none 0 0, .pointer (some (adr gp K K.length)), .pointer (some (adr gp K 1)), x7, x8]
structure Rg (w : World) (lo gp : Nat) (K : List Fr) (x0 x1 x2 x7 x8 : Value) : Prop where
 low : lo ≤ gp
 pool : Blk w gp 108 (plC gp K x0 x1 x2 x7 x8)
 fr : ∀ (i : Nat) (f : Fr), K[i]? = some f → Blk w f.g 100 (frC gp K i f) ∧ lo ≤ f.g
 inj : ∀ (i j : Nat) (f f' : Fr), K[i]? = some f → K[j]? = some f' → f.g = f'.g → i = j
theorem Blk.upd {w : World} {g : Nat} {t : TypeId} {cs : Array Value} (h : Blk w g t cs) (b o : Nat) (v : Value) : Blk (w.setCell ⟨b, o, none⟩ v) g t (if g = b then cs.setIfInBounds o v else cs) := by
 by_cases hb : g = b
 · subst hb; rw [if_pos rfl]; exact h.set_ o v
 · rw [if_neg hb]; exact h.far hb v
section
variable {w : World} {lo gp : Nat} {K : List Fr} {x0 x1 x2 x7 x8 : Value}
theorem Rg.ne (h : Rg w lo gp K x0 x1 x2 x7 x8) {i : Nat} {f : Fr} (hi : K[i]? = some f) : f.g ≠ gp := ((h.fr i f hi).1).ne_ h.pool (by decide)
theorem Rg.node (h : Rg w lo gp K x0 x1 x2 x7 x8) (i : Nat) : ∃ b o t cs, adr gp K i = ⟨b, o, none⟩ ∧ Blk w b t cs ∧ o + 3 < cs.size ∧ lo ≤ b ∧ (b = gp → o = 3) := by
 rcases adr_cases gp K i with ⟨e, _⟩ | ⟨j, f, rfl, hj, e⟩
 · exact ⟨gp, 3, _, _, e, h.pool, by simp [plC], h.low, fun _ => rfl⟩
 · exact ⟨f.g, 0, _, _, e, (h.fr j f hj).1, by simp [frC], (h.fr j f hj).2, fun e' => absurd e' (h.ne hj)⟩
theorem Rg.blk_fr (h : Rg w lo gp K x0 x1 x2 x7 x8) {m : Nat} {f : Fr} (hm : K[m]? = some f) (i : Nat) : f.g = (adr gp K i).block ↔ i = m + 1 := by
 rcases adr_cases gp K i with ⟨e, hi⟩ | ⟨j, f', rfl, hj, e⟩
 · rw [e]
   have hlt := lt_of_at hm
   exact ⟨fun e' => absurd e' (h.ne hm), fun e' => by omega⟩
 · rw [e]
   constructor
   · intro e'; have := h.inj m j f f' hm hj e'; omega
   · intro e'
     have : j = m := by omega
     subst this
     rw [hm] at hj
     injection hj with hj
     rw [hj]
theorem Rg.blk_pl (h : Rg w lo gp K x0 x1 x2 x7 x8) (i : Nat) : gp = (adr gp K i).block ↔ i = 0 ∨ K.length < i := by
 rcases adr_cases gp K i with ⟨e, hi⟩ | ⟨j, f', rfl, hj, e⟩
 · rw [e]; exact ⟨fun _ => hi, fun _ => rfl⟩
 · rw [e]
   have hlt := lt_of_at hj
   exact ⟨fun e' => absurd e'.symm (h.ne hj), fun e' => by omega⟩
structure Stay (w w' : World) (lo gp : Nat) (K : List Fr) : Prop where
 size : w'.heap.size = w.heap.size
 heap : ∀ g, g ≠ gp → (∀ (j : Nat) (f : Fr), K[j]? = some f → g ≠ f.g) → w'.heap[g]? = w.heap[g]?
 below : ∀ B w0, B ≤ lo → Below B w0 w → Below B w0 w'
theorem adr_off_fr {m : Nat} {f : Fr} (hm : K[m]? = some f) : (adr gp K (m + 1)).off = 0 := by rw [adr_at hm]
theorem adr_off_pl (i : Nat) (h : i = 0 ∨ K.length < i) : (adr gp K i).off = 3 := by
 rcases h with rfl | h
 · rfl
 · rw [adr_past h]
theorem leave_any (h : Rg w lo gp K x0 x1 x2 x7 x8) {i : Nat} {f : Fr} (hi : K[i]? = some f) :
 Calls Tryz.prog 101 #[.pointer (some ⟨f.g, 0, none⟩)] w fun e w' => e = .returned (.tuple #[]) ∧ Rg w' lo gp (K.eraseIdx i) x0 x1 x2 x7 x8 ∧
  (∃ x y, Blk w' f.g 100 #[.int .u32 f.p, .slice (some ⟨f.b, 0, none⟩) 512 512, x, y]) ∧ Stay w w' lo gp K := by
 have hlt := lt_of_at hi
 obtain ⟨ab, ao, ta, ca, ea, ba, sa, la, _⟩ := h.node i
 obtain ⟨zb, zo, tz, cz, ez, bz, sz, lz, _⟩ := h.node (i + 2)
 have hf := (h.fr i f hi).1
 have h2 : w.cell? ⟨f.g, 2, none⟩ = some (.pointer (some ⟨ab, ao, none⟩)) := by rw [hf.cell]; simp [frC, ea]
 have h3 : w.cell? ⟨f.g, 3, none⟩ = some (.pointer (some ⟨zb, zo, none⟩)) := by rw [hf.cell]; simp [frC, ez]
 have ha : w.cell? ⟨ab, ao + 3, none⟩ = some ca[ao + 3] := by rw [ba.cell, Array.getElem?_eq_getElem sa]
 have hz : ∃ v, (w.setCell ⟨ab, ao + 3, none⟩ (.pointer (some ⟨zb, zo, none⟩))).cell? ⟨zb, zo + 2, none⟩ = some v := by
  have hu := bz.upd ab (ao + 3) (.pointer (some ⟨zb, zo, none⟩))
  refine ⟨_, (hu.cell (zo + 2)).trans (Array.getElem?_eq_getElem ?_)⟩
  split
  · rw [Array.size_setIfInBounds]; omega
  · omega
 obtain ⟨v, hz⟩ := hz
 refine (leave_raw f.g ab ao zb zo _ _ w h2 h3 ha (ba.frozen _) hz (bz.frozen _)).mono ?_
 rintro e w' ⟨rfl, rfl⟩
 have hup : ∀ {g : Nat} {t : TypeId} {cs : Array Value}, Blk w g t cs → Blk (((w.setCell ⟨ab, ao + 3, none⟩ (.pointer (some ⟨zb, zo, none⟩))).setCell ⟨zb, zo + 2, none⟩ (.pointer (some ⟨ab, ao, none⟩))).drew) g t
  (if g = zb then (if g = ab then cs.setIfInBounds (ao + 3) (.pointer (some ⟨zb, zo, none⟩)) else cs).setIfInBounds (zo + 2) (.pointer (some ⟨ab, ao, none⟩)) else (if g = ab then cs.setIfInBounds (ao + 3) (.pointer (some ⟨zb, zo, none⟩)) else cs)) :=
  fun hb => ((hb.upd ab (ao + 3) _).upd zb (zo + 2) _).drew
 have eab : (adr gp K i).block = ab ∧ (adr gp K i).off = ao := by rw [ea]; exact ⟨rfl, rfl⟩
 have ezb : (adr gp K (i + 2)).block = zb ∧ (adr gp K (i + 2)).off = zo := by rw [ez]; exact ⟨rfl, rfl⟩
 have hfr : ∀ (m : Nat) (f' : Fr), K[m]? = some f' → Blk (((w.setCell ⟨ab, ao + 3, none⟩ (.pointer (some ⟨zb, zo, none⟩))).setCell ⟨zb, zo + 2, none⟩ (.pointer (some ⟨ab, ao, none⟩))).drew) f'.g 100
  #[.int .u32 f'.p, .slice (some ⟨f'.b, 0, none⟩) 512 512, .pointer (some (if m = i + 1 then adr gp K i else adr gp K m)), .pointer (some (if m + 1 = i then adr gp K (i + 2) else adr gp K (m + 2)))] := by
  intro m f' hm
  have hb := hup (h.fr m f' hm).1
  have k1 := h.blk_fr hm i
  have k2 := h.blk_fr hm (i + 2)
  rw [eab.1] at k1
  rw [ezb.1] at k2
  by_cases c1 : m + 1 = i
  · have d1 : f'.g = ab := k1.2 c1.symm
    have d2 : ¬ f'.g = zb := fun e => by have := k2.1 e; omega
    have d3 : ao = 0 := by rw [← eab.2, ← c1]; exact adr_off_fr hm
    subst d3
    rw [if_neg d2, if_pos d1] at hb
    rw [if_neg (by omega), if_pos c1, ez]
    exact hb
  · have d1 : ¬ f'.g = ab := fun e => c1 (k1.1 e).symm
    by_cases c2 : m = i + 1
    · have d2 : f'.g = zb := k2.2 (by omega)
      have d3 : zo = 0 := by rw [← ezb.2, show i + 2 = m + 1 from by omega]; exact adr_off_fr hm
      subst d3
      rw [if_pos d2, if_neg d1] at hb
      rw [if_pos c2, if_neg c1, ea]
      exact hb
    · have d2 : ¬ f'.g = zb := fun e => by have := k2.1 e; omega
      rw [if_neg d2, if_neg d1] at hb
      rw [if_neg c2, if_neg c1]
      exact hb
 refine ⟨rfl, ⟨h.low, ?_, ?_, ?_⟩, ⟨_, _, hfr i f hi⟩, ⟨?_, ?_, ?_⟩⟩
 · have hb := hup h.pool
   have k1 := h.blk_pl i
   have k2 := h.blk_pl (i + 2)
   rw [eab.1] at k1
   rw [ezb.1] at k2
   have hl : (K.eraseIdx i).length = K.length - 1 := List.length_eraseIdx_of_lt hlt
   have e1 : adr gp (K.eraseIdx i) (K.eraseIdx i).length = if K.length = i + 1 then adr gp K i else adr gp K K.length := by
    rw [hl, adr_erase gp K i _ hlt]
    by_cases c : K.length = i + 1
    · rw [if_pos (by omega), if_pos c, show K.length - 1 = i from by omega]
    · rw [if_neg (by omega), if_neg c, show K.length - 1 + 1 = K.length from by omega]
   have e2 : adr gp (K.eraseIdx i) 1 = if i = 0 then adr gp K (i + 2) else adr gp K 1 := by
    rw [adr_erase gp K i _ hlt]
    by_cases c : i = 0
    · subst c; rfl
    · rw [if_pos (by omega), if_neg c]
   unfold plC
   rw [e1, e2]
   by_cases c1 : i = 0
   · have d1 : gp = ab := k1.2 (.inl c1)
     have d3 : ao = 3 := by rw [← eab.2]; exact adr_off_pl i (.inl c1)
     by_cases c2 : K.length = i + 1
     · have d2 : gp = zb := k2.2 (by omega)
       have d4 : zo = 3 := by rw [← ezb.2]; exact adr_off_pl (i + 2) (by omega)
       subst d3
       subst d4
       rw [if_pos d2, if_pos d1] at hb
       rw [if_pos c1, if_pos c2, ez, ea]
       exact hb
     · have d2 : ¬ gp = zb := fun e => by have := k2.1 e; omega
       subst d3
       rw [if_neg d2, if_pos d1] at hb
       rw [if_pos c1, if_neg c2, ez]
       exact hb
   · have d1 : ¬ gp = ab := fun e => by have := k1.1 e; omega
     by_cases c2 : K.length = i + 1
     · have d2 : gp = zb := k2.2 (by omega)
       have d4 : zo = 3 := by rw [← ezb.2]; exact adr_off_pl (i + 2) (by omega)
       subst d4
       rw [if_pos d2, if_neg d1] at hb
       rw [if_neg c1, if_pos c2, ea]
       exact hb
     · have d2 : ¬ gp = zb := fun e => by have := k2.1 e; omega
       rw [if_neg d2, if_neg d1] at hb
       rw [if_neg c1, if_neg c2]
       exact hb
 · intro j f' hj
   rw [List.getElem?_eraseIdx] at hj
   by_cases hji : j < i
   · rw [if_pos hji] at hj
     have hb := hfr j f' hj
     refine ⟨?_, (h.fr j f' hj).2⟩
     unfold frC
     rw [adr_erase gp K i _ hlt, adr_erase gp K i _ hlt, if_pos (by omega)]
     rw [if_neg (by omega)] at hb
     by_cases c1 : j + 1 = i
     · rw [if_neg (by omega), show j + 2 + 1 = i + 2 from by omega]
       rw [if_pos c1] at hb
       exact hb
     · rw [if_pos (by omega)]
       rw [if_neg c1] at hb
       exact hb
   · rw [if_neg hji] at hj
     have hb := hfr (j + 1) f' hj
     refine ⟨?_, (h.fr (j + 1) f' hj).2⟩
     unfold frC
     rw [adr_erase gp K i _ hlt, adr_erase gp K i _ hlt]
     rw [if_neg (show ¬ j + 1 + 1 = i by omega)] at hb
     rw [if_neg (show ¬ j + 2 ≤ i by omega)]
     by_cases c1 : j = i
     · subst c1
       rw [if_pos rfl] at hb
       rw [if_pos (Nat.le_refl _)]
       exact hb
     · rw [if_neg (by omega)] at hb
       rw [if_neg (by omega)]
       exact hb
 · intro j1 j2 f1 f2 hj1 hj2 hg
   rw [List.getElem?_eraseIdx] at hj1 hj2
   split at hj1 <;> split at hj2
   · exact h.inj _ _ _ _ hj1 hj2 hg
   · have := h.inj _ _ _ _ hj1 hj2 hg; omega
   · have := h.inj _ _ _ _ hj1 hj2 hg; omega
   · have := h.inj _ _ _ _ hj1 hj2 hg; omega
 · simp [World.setCell]
 · intro g hg hk
   have na : g ≠ ab := by
    rcases adr_cases gp K i with ⟨e, _⟩ | ⟨j, f', _, hj, e⟩
    · rw [e] at eab; rw [← eab.1]; exact hg
    · rw [e] at eab; rw [← eab.1]; exact hk j f' hj
   have nz : g ≠ zb := by
    rcases adr_cases gp K (i + 2) with ⟨e, _⟩ | ⟨j, f', _, hj, e⟩
    · rw [e] at ezb; rw [← ezb.1]; exact hg
    · rw [e] at ezb; rw [← ezb.1]; exact hk j f' hj
   show ((w.setCell _ _).setCell _ _).heap[g]? = _
   rw [Below.heap_setCell _ _ _ _ nz, Below.heap_setCell _ _ _ _ na]
 · intro B w0 hB hb
   exact ((hb.setCell (show B ≤ (⟨ab, ao + 3, none⟩ : Addr).block from Nat.le_trans hB la) _).setCell (show B ≤ (⟨zb, zo + 2, none⟩ : Addr).block from Nat.le_trans hB lz) _).drew
end
end
end Go.Proofs.YtebobcbaloddaaaGreat
