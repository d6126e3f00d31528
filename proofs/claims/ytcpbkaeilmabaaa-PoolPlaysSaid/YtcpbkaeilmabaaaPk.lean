/-
  Pool: two pools over one disk; the laws PoolSizes, PoolAgain.
-/
import Derived.Test.YtcpbkaeilmabaaaPj
import Derived.Test.YtcpbkaeilmabaaaOc
import Derived.BigGuardPart
import Derived.BigQuiet
namespace Go.Proofs.Ytcpbkaeilmabaaa
set_option linter.unusedSimpArgs false
set_option linter.unusedVariables false
open Go.RowKit Go.Maps

theorem nodup_le : ∀ (l : List Nat) (n : Nat), l.Nodup → (∀ x ∈ l, x < n) → l.length ≤ n
  | l, 0, _, h => by
    cases l with
    | nil => exact Nat.le_refl _
    | cons x l => exact absurd (h x (by simp)) (by omega)
  | l, n + 1, hn, h => by
    have h1 := nodup_le (l.erase n) n (hn.erase n) (fun x hx => by
      have h2 := (List.Nodup.mem_erase_iff hn).1 hx
      have := h x h2.2
      have := h2.1
      omega)
    rw [List.length_erase] at h1
    split at h1 <;> omega
/-- A row of the call's own stays where its block does. -/
theorem Own.stays {w w' : World} {base : Nat} {v : Value} {l : List UInt8} (h : Own w base v l) (he : ∀ g cs, v.ownBlock = some g → Blk w g 5 cs → w'.heap[g]? = w.heap[g]?) : Own w' base v l := by
  refine ⟨h.1, ?_⟩
  rcases h.2 with hn | ⟨g, cap, cur, rfl, hb, hgg, rest⟩
  · exact .inl hn
  · refine .inr ⟨g, cap, cur, rfl, hb, ?_, rest⟩
    rw [he g cur rfl hgg]
    exact hgg
section
variable {w w' : World} {lo gp gd gb gt n : Nat} {ps : List (List UInt8)} {T : List Bool} {gm size : Nat} {K : List Fr} {D : DataW Unit} {rd ht : Nat}
theorem PS.turn_own (h : PS w lo gp gd gb gt n ps T gm size K D rd ht) (t : Turn w w' lo gp gm K) {base : Nat} {v : Value} {l : List UInt8} (ho : Own w base v l) : Own w' base v l :=
  ho.stays fun g cs _ hb => t.heap g hb.lt (hb.ne_ h.rg.pool (by decide)) (h.mp.ne_ hb) (fun j f hj => hb.ne_ (h.rg.fr j f hj).1 (by decide))
/-- Two pools of which no block is the same. -/
structure Disj (gp gm : Nat) (K : List Fr) (gp' gm' : Nat) (K' : List Fr) : Prop where
  p : gp ≠ gp'
  m : gm ≠ gm'
  f : ∀ (i j : Nat) (f f' : Fr), K[i]? = some f → K'[j]? = some f' → f.g ≠ f'.g
theorem Disj.symm {gp gm gp' gm' : Nat} {K K' : List Fr} (h : Disj gp gm K gp' gm' K') : Disj gp' gm' K' gp gm K := ⟨h.p.symm, h.m.symm, fun i j f f' hi hj => (h.f j i f' f hj hi).symm⟩
variable {lo' gp' gm' size' : Nat} {K' : List Fr} {D' : DataW Unit} {rd' ht' : Nat}
/-- The other pool stays. -/
theorem PS.other (h : PS w lo gp gd gb gt n ps T gm size K D rd ht) (t : Turn w w' lo gp gm K) (k : PS w lo' gp' gd gb gt n ps T gm' size' K' D' rd' ht') (d : Disj gp gm K gp' gm' K') : PS w' lo' gp' gd gb gt n ps T gm' size' K' D' rd' ht' := by
  have hb : ∀ {g : Nat} {ty : TypeId} {cs : Array Value}, Blk w g ty cs → g ≠ gp → (∀ (j : Nat) (f : Fr), K[j]? = some f → g ≠ f.g) → Blk w' g ty cs := fun hb h1 h2 => (t.heap _ hb.lt h1 (h.mp.ne_ hb) h2).trans hb
  have ho : ∀ {g : Nat} {ty : TypeId} {cs : Array Value}, ty ≠ 122 → ty ≠ 115 → Blk w g ty cs → Blk w' g ty cs := fun h1 h2 hc => h.turn_blk t hc h1 h2
  refine ⟨⟨k.rg.low, hb k.rg.pool d.p.symm (fun j f hj => (k.rg.pool.ne_ (h.rg.fr j f hj).1 (by decide))), fun i f hi => ⟨hb (k.rg.fr i f hi).1 ((k.rg.fr i f hi).1.ne_ h.rg.pool (by decide)) (fun j f' hj => (d.f j i f' f hj hi).symm), (k.rg.fr i f hi).2⟩, k.rg.inj⟩, ?_, k.lom, fun i f hi => ⟨ho (by decide) (by decide) (k.by_ i f hi).1, (k.by_ i f hi).2⟩, k.pg, ⟨⟨ho (by decide) (by decide) k.dk.dk.d, ho (by decide) (by decide) k.dk.dk.b, ho (by decide) (by decide) k.dk.dk.t, k.dk.dk.hb, k.dk.dk.ht⟩, k.dk.full, k.dk.hp⟩, k.s1, k.sz⟩
  exact k.mp.same (t.heap gm' k.mp.lt (fun e => k.mp.ne_ h.rg.pool e.symm) d.m.symm (fun j f hj => fun e => k.mp.ne_ (h.rg.fr j f hj).1 e.symm))
theorem Disj.get (d : Disj gp gm K gp' gm' K') (k : PS w lo' gp' gd gb gt n ps T gm' size' K' D' rd' ht') {K2 : List Fr} (hk : ∀ (j : Nat) (f : Fr), K2[j]? = some f → (∃ i : Nat, K[i]? = some f) ∨ w.heap.size ≤ f.g) : Disj gp gm K2 gp' gm' K' :=
  ⟨d.p, d.m, fun i j f f' hi hj => by
    rcases hk i f hi with ⟨i', hi'⟩ | hg
    · exact d.f i' j f f' hi' hj
    · have := (k.rg.fr j f' hj).1.lt; omega⟩
end
/-- What Get leaves, be the page there or not. -/
def GetV (ps : List (List UInt8)) (n p : Nat) (w' : World) (base : Nat) (v : Value) (e : Int) : Prop :=
  (p < n ∧ ∃ A c q, ps[p]? = some q ∧ v = .slice A 512 c ∧ e = 0 ∧ Own w' base (.slice A 512 c) q ∧ 512 ≤ c) ∨ (n ≤ p ∧ v = .slice none 0 0 ∧ e = 8)
def stepU (n size : Nat) (s : List Nat × Nat × Nat) (p : Nat) : List Nat × Nat × Nat := if p < n then stepG size s p else s
section
variable {w : World} {lo gp gd gb gt n : Nat} {ps : List (List UInt8)} {T : List Bool} {gm size : Nat} {K : List Fr} {D : DataW Unit} {rd ht : Nat}
theorem get_u (h : PS w lo gp gd gb gt n ps T gm size K D rd ht) (p : Nat) (hp2 : p ≤ 4294967295) (hn : n ≤ 20) (hrd : rd ≤ 1000000) (hht : ht ≤ 1000000) (hlo : lo ≤ w.heap.size) :
    Calls Try.prog 39 #[.pointer (some ⟨gp, 0, none⟩), .int .u32 p] w fun e w' => ∃ K' D' rd' ht' v r, e = .returned (.tuple #[v, .int .i64 r]) ∧ GetV ps n p w' w.heap.size v r ∧ PS w' lo gp gd gb gt n ps T gm size K' D' rd' ht' ∧ (pgs K', rd', ht') = stepU n size (pgs K, rd, ht) p ∧ Turn w w' lo gp gm K ∧
      ∀ (j : Nat) (f : Fr), K'[j]? = some f → (∃ i : Nat, K[i]? = some f) ∨ w.heap.size ≤ f.g := by
  by_cases hpn : p < n
  · obtain ⟨q, hq⟩ : ∃ q, ps[p]? = some q := ⟨_, List.getElem?_eq_getElem (by rw [h.dk.hp]; exact hpn)⟩
    have hk20 : K.length ≤ 1000000 := by
      have hnd := h.nodup
      have hsub : ∀ x ∈ pgs K, x < n := by
        intro x hx
        unfold pgs at hx
        obtain ⟨f, hf, rfl⟩ := List.mem_map.1 hx
        obtain ⟨i, hi⟩ := List.getElem?_of_mem hf
        exact h.pn hi
      have hle : (pgs K).length ≤ n := nodup_le _ n hnd hsub
      unfold pgs at hle
      rw [List.length_map] at hle
      omega
    refine (get_any h hq (by omega) hrd hht hk20 hlo).mono ?_
    rintro e w' ⟨K', D', rd', ht', A, c, rfl, h2, h3, h4, h5, h6, h7⟩
    exact ⟨K', D', rd', ht', _, _, rfl, .inl ⟨hpn, A, c, q, hq, rfl, rfl, h2, h3⟩, h4, by unfold stepU; rw [if_pos hpn]; exact h5, h6, h7⟩
  · refine (get_beyond h (by omega) hp2 (by omega)).mono ?_
    rintro e w' ⟨rfl, rfl⟩
    exact ⟨K, D, rd, ht, _, _, rfl, .inr ⟨by omega, rfl, rfl⟩, h, by unfold stepU; rw [if_neg hpn], Turn.refl _ _ _ _ _, fun j f hj => .inl ⟨j, hj⟩⟩
end
/-- The pages of a smaller pool are the last ones of a greater one. -/
theorem lru_step {sa sb : Nat} {A B : List Nat} {ra ha rb hb p : Nat} (hs : sa ≤ sb) (hsuf : A <:+ B) (hn : B.Nodup) (hA : A.length ≤ sa) (hB : B.length ≤ sb) (hr : rb ≤ ra) (hsum : ra + ha = rb + hb) :
    (stepG sa (A, ra, ha) p).1 <:+ (stepG sb (B, rb, hb) p).1 ∧ (stepG sb (B, rb, hb) p).2.1 ≤ (stepG sa (A, ra, ha) p).2.1 ∧
      (stepG sa (A, ra, ha) p).2.1 + (stepG sa (A, ra, ha) p).2.2 = (stepG sb (B, rb, hb) p).2.1 + (stepG sb (B, rb, hb) p).2.2 := by
  obtain ⟨X, rfl⟩ := hsuf
  have hnx := List.nodup_append.1 hn
  unfold stepG
  by_cases h1 : p ∈ A
  · have hx : p ∉ X := fun h => hnx.2.2 p h p h1 rfl
    rw [if_pos h1, if_pos (List.mem_append_right X h1)]
    simp only
    refine ⟨⟨X, ?_⟩, hr, by omega⟩
    rw [List.erase_append_right _ hx, List.append_assoc]
  · rw [if_neg h1]
    by_cases h2 : p ∈ X ++ A
    · have hx : p ∈ X := (List.mem_append.1 h2).resolve_right h1
      rw [if_pos h2]
      simp only
      refine ⟨?_, by omega, by omega⟩
      rw [List.erase_append_left _ hx]
      split
      · exact ⟨X.erase p, by rw [List.append_assoc]⟩
      · cases A with
        | nil => exact ⟨X.erase p, by simp⟩
        | cons a A => exact ⟨X.erase p ++ [a], by simp⟩
    · rw [if_neg h2]
      simp only
      refine ⟨?_, by omega, by omega⟩
      rw [List.length_append] at hB ⊢
      by_cases hb : X.length + A.length < sb
      · rw [if_pos hb]
        split
        · exact ⟨X, by rw [List.append_assoc]⟩
        · cases A with
          | nil => exact ⟨X, by simp⟩
          | cons a A => exact ⟨X ++ [a], by simp⟩
      · rw [if_neg hb]
        cases X with
        | nil =>
          have e : A.length = sa := by simp at hb hB; omega
          rw [if_neg (by omega)]
          exact ⟨[], by simp⟩
        | cons x X =>
          simp only [List.cons_append, List.tail_cons]
          split
          · exact ⟨X, by rw [List.append_assoc]⟩
          · cases A with
            | nil => exact ⟨X, by simp⟩
            | cons a A => exact ⟨X ++ [a], by simp⟩
theorem stepU_small {n size : Nat} {s : List Nat × Nat × Nat} {p k : Nat} (h1 : s.2.1 ≤ k) (h2 : s.2.2 ≤ k) : (stepU n size s p).2.1 ≤ k + 1 ∧ (stepU n size s p).2.2 ≤ k + 1 := by
  unfold stepU
  split
  · exact stepG_small h1 h2
  · omega
end Go.Proofs.Ytcpbkaeilmabaaa
