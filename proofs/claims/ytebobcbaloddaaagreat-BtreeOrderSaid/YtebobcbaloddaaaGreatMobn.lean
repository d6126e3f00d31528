/-
  Pi Pj Pk Pn Hp.
-/
import Derived.Test.YtebobcbaloddaaaGreatMobj
import Derived.Test.YtebobcbaloddaaaGreatMobd
import Derived.Test.YtebobcbaloddaaaGreatMoav
import Derived.Test.YtebobcbaloddaaaGreatMoan
import Derived.Test.YtebobcbaloddaaaGreatMobb
import Derived.BigGuardPart
import Derived.BigQuiet
namespace Go.Proofs.YtebobcbaloddaaaGreat
section
set_option linter.unusedSimpArgs false
set_option linter.unusedVariables false
set_option linter.unusedSimpArgs false
set_option linter.unusedVariables false
open Go.RowKit Go.Maps
theorem stepG_small {size : Nat} {s : List Nat × Nat × Nat} {p k : Nat} (h1 : s.2.1 ≤ k) (h2 : s.2.2 ≤ k) : (stepG size s p).2.1 ≤ k + 1 ∧ (stepG size s p).2.2 ≤ k + 1 := by
 unfold stepG
 split <;> (simp only; omega)
end
end Go.Proofs.YtebobcbaloddaaaGreat
namespace Go.Proofs.YtebobcbaloddaaaGreat
section
set_option linter.unusedSimpArgs false
set_option linter.unusedVariables false
set_option linter.unusedSimpArgs false
set_option linter.unusedVariables false
open Go.RowKit Go.Maps
section
variable {w : World} {lo gp gd gb gt n : Nat} {ps : List (List UInt8)} {T : List Bool} {gm size : Nat} {K : List Fr} {D : DataW Unit} {rd ht : Nat}
end
/-! ### a nil pool -/
end
end Go.Proofs.YtebobcbaloddaaaGreat
namespace Go.Proofs.YtebobcbaloddaaaGreat
section
set_option linter.unusedSimpArgs false
set_option linter.unusedVariables false
set_option linter.unusedSimpArgs false
set_option linter.unusedVariables false
open Go.RowKit Go.Maps
theorem nodup_le : ∀ (l : List Nat) (n : Nat), l.Nodup → (∀ x ∈ l, x < n) → l.length ≤ n
 | l, 0, _, h => by
   cases l with
   | nil => exact Nat.le_refl _
   | cons x l => exact absurd (h x (by simp)) (by omega)
 | l, n + 1, hn, h => by
   have h1 := nodup_le (l.erase n) n (hn.erase n) (fun x hx => by
    have h2 := (List.Nodup.mem_erase_iff hn).1 hx
    have := h x h2.2
    have := h2.1
    omega)
   rw [List.length_erase] at h1
   split at h1 <;> omega
theorem Own.stays {w w' : World} {base : Nat} {v : Value} {l : List UInt8} (h : Own w base v l) (he : ∀ g cs, v.ownBlock = some g → Blk w g 5 cs → w'.heap[g]? = w.heap[g]?) : Own w' base v l := by
 refine ⟨h.1, ?_⟩
 rcases h.2 with hn | ⟨g, cap, cur, rfl, hb, hgg, rest⟩
 · exact .inl hn
 · refine .inr ⟨g, cap, cur, rfl, hb, ?_, rest⟩
   rw [he g cur rfl hgg]
   exact hgg
section
variable {w w' : World} {lo gp gd gb gt n : Nat} {ps : List (List UInt8)} {T : List Bool} {gm size : Nat} {K : List Fr} {D : DataW Unit} {rd ht : Nat}
variable {lo' gp' gm' size' : Nat} {K' : List Fr} {D' : DataW Unit} {rd' ht' : Nat}
end
def GetV (ps : List (List UInt8)) (n p : Nat) (w' : World) (base : Nat) (v : Value) (e : Int) : Prop :=
 (p < n ∧ ∃ A c q, ps[p]? = some q ∧ v = .slice A 512 c ∧ e = 0 ∧ Own w' base (.slice A 512 c) q ∧ 512 ≤ c) ∨ (n ≤ p ∧ v = .slice none 0 0 ∧ e = 8)
def stepU (n size : Nat) (s : List Nat × Nat × Nat) (p : Nat) : List Nat × Nat × Nat := if p < n then stepG size s p else s
section
variable {w : World} {lo gp gd gb gt n : Nat} {ps : List (List UInt8)} {T : List Bool} {gm size : Nat} {K : List Fr} {D : DataW Unit} {rd ht : Nat}
end
theorem stepU_small {n size : Nat} {s : List Nat × Nat × Nat} {p k : Nat} (h1 : s.2.1 ≤ k) (h2 : s.2.2 ≤ k) : (stepU n size s p).2.1 ≤ k + 1 ∧ (stepU n size s p).2.2 ≤ k + 1 := by
 unfold stepU
 split
 · exact stepG_small h1 h2
 · omega
end
end Go.Proofs.YtebobcbaloddaaaGreat
namespace Go.Proofs.YtebobcbaloddaaaGreat
section
set_option linter.unusedSimpArgs false
set_option linter.unusedVariables false
set_option linter.unusedSimpArgs false
set_option linter.unusedVariables false
open Go.RowKit Go.Maps
structure Far (w w' : World) (r : Nat) : Prop where
 heap : ∀ g, g ≠ r → w'.heap[g]? = w.heap[g]?
 size : w'.heap.size = w.heap.size
 below : ∀ B w0, B ≤ r → Below B w0 w → Below B w0 w'
section
variable {w w' : World} {lo gp gd gb gt n : Nat} {ps : List (List UInt8)} {T : List Bool} {gm size : Nat} {K : List Fr} {D : DataW Unit} {rd ht : Nat}
theorem PS.far (h : PS w lo gp gd gb gt n ps T gm size K D rd ht) {r : Nat} {t : TypeId} {cs : Array Value} (hX : Blk w r t cs) (hf : Far w w' r) (h1 : t ≠ 108) (h2 : t ≠ 100) (h3 : t ≠ 5) (h4 : t ≠ 4) (h5 : t ≠ 61) : PS w' lo gp gd gb gt n ps T gm size K D rd ht := by
 have hb : ∀ {g : Nat} {ty : TypeId} {cs' : Array Value}, t ≠ ty → Blk w g ty cs' → Blk w' g ty cs' := fun ht hb => (hf.heap _ (hb.ne_ hX fun e => ht e.symm)).trans hb
 exact ⟨⟨h.rg.low, hb h1 h.rg.pool, fun i f hi => ⟨hb h2 (h.rg.fr i f hi).1, (h.rg.fr i f hi).2⟩, h.rg.inj⟩, h.mp.same (hf.heap gm fun e => h.mp.ne_ hX e.symm), h.lom, fun i f hi => ⟨hb h3 (h.by_ i f hi).1, (h.by_ i f hi).2⟩, h.pg, ⟨⟨hb h5 h.dk.dk.d, hb h3 h.dk.dk.b, hb h4 h.dk.dk.t, h.dk.dk.hb, h.dk.dk.ht⟩, h.dk.full, h.dk.hp⟩, h.s1, h.sz⟩
theorem Turn.far (t : Turn w w' lo gp gm K) {w2 : World} {r : Nat} (hf : Far w' w2 r) (hr : w.heap.size ≤ r) (hlo : lo ≤ w.heap.size) : Turn w w2 lo gp gm K :=
 ⟨by rw [hf.size]; exact t.size, fun g hg h1 h2 h3 => (hf.heap g (by omega)).trans (t.heap g hg h1 h2 h3), fun B w0 hB hb => hf.below B w0 (by omega) (t.below B w0 hB hb)⟩
theorem Turn.more (t : Turn w w' lo gp gm K) {w2 : World} (hb : Below w'.heap.size w' w2) (hlo : lo ≤ w.heap.size) : Turn w w2 lo gp gm K :=
 ⟨Nat.le_trans t.size hb.size, fun g hg h1 h2 h3 => (hb.block g (Nat.lt_of_lt_of_le hg t.size)).trans (t.heap g hg h1 h2 h3), fun B w0 hB hb' => (t.below B w0 hB hb').trans (hb.mono (by have := t.size; omega))⟩
end
section
variable {w : World} {lo gp gd gb gt n : Nat} {ps : List (List UInt8)} {T : List Bool} {gm size : Nat} {K : List Fr} {D : DataW Unit} {rd ht : Nat}
end
end
end Go.Proofs.YtebobcbaloddaaaGreat
namespace Go.Proofs.YtebobcbaloddaaaGreat
section
set_option linter.unusedSimpArgs false
set_option linter.unusedVariables false
set_option linter.unusedSimpArgs false
set_option linter.unusedVariables false
open Go.RowKit Go.Maps
section
variable {w : World} {lo gp gd gb gt n : Nat} {ps : List (List UInt8)} {T : List Bool} {gm size : Nat} {K : List Fr} {D : DataW Unit} {rd ht : Nat}
theorem get_v (h : PS w lo gp gd gb gt n ps T gm size K D rd ht) (p : Nat) (hp2 : p ≤ 4294967295) (hn : n ≤ 1000) (hrd : rd ≤ 1000000) (hht : ht ≤ 1000000) (hlo : lo ≤ w.heap.size) :
 Calls Tryz.prog 73 #[.pointer (some ⟨gp, 0, none⟩), .int .u32 p] w fun e w' => ∃ K' D' rd' ht' v r, e = .returned (.tuple #[v, .int .i64 r]) ∧ GetV ps n p w' w.heap.size v r ∧ PS w' lo gp gd gb gt n ps T gm size K' D' rd' ht' ∧ (pgs K', rd', ht') = stepU n size (pgs K, rd, ht) p ∧ Turn w w' lo gp gm K ∧
  ∀ (j : Nat) (f : Fr), K'[j]? = some f → (∃ i : Nat, K[i]? = some f) ∨ w.heap.size ≤ f.g := by
 by_cases hpn : p < n
 · obtain ⟨q, hq⟩ : ∃ q, ps[p]? = some q := ⟨_, List.getElem?_eq_getElem (by rw [h.dk.hp]; exact hpn)⟩
   have hk20 : K.length ≤ 1000000 := by
    have hnd := h.nodup
    have hsub : ∀ x ∈ pgs K, x < n := by
     intro x hx
     unfold pgs at hx
     obtain ⟨f, hf, rfl⟩ := List.mem_map.1 hx
     obtain ⟨i, hi⟩ := List.getElem?_of_mem hf
     exact h.pn hi
    have hle : (pgs K).length ≤ n := nodup_le _ n hnd hsub
    unfold pgs at hle
    rw [List.length_map] at hle
    omega
   refine (get_any h hq (by omega) hrd hht hk20 hlo).mono ?_
   rintro e w' ⟨K', D', rd', ht', A, c, rfl, h2, h3, h4, h5, h6, h7⟩
   exact ⟨K', D', rd', ht', _, _, rfl, .inl ⟨hpn, A, c, q, hq, rfl, rfl, h2, h3⟩, h4, by unfold stepU; rw [if_pos hpn]; exact h5, h6, h7⟩
 · refine (get_beyond h (by omega) hp2 (by omega)).mono ?_
   rintro e w' ⟨rfl, rfl⟩
   exact ⟨K, D, rd, ht, _, _, rfl, .inr ⟨by omega, rfl, rfl⟩, h, by unfold stepU; rw [if_neg hpn], Turn.refl _ _ _ _ _, fun j f hj => .inl ⟨j, hj⟩⟩
end
section
variable {w w' : World} {lo gp gd gb gt n : Nat} {ps : List (List UInt8)} {T : List Bool} {gm size : Nat} {K : List Fr} {D : DataW Unit} {rd ht : Nat}
end
end
end Go.Proofs.YtebobcbaloddaaaGreat
