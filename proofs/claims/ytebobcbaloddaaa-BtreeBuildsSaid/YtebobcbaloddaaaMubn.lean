/-
  Several texts in one: Pi Pj Pk Pn Hp.
-/
import Derived.Test.YtebobcbaloddaaaMubj
import Derived.Test.YtebobcbaloddaaaMubd
import Derived.Test.YtebobcbaloddaaaMuav
import Derived.Test.YtebobcbaloddaaaMuan
import Derived.Test.YtebobcbaloddaaaMubb
import Derived.BigGuardPart
import Derived.BigQuiet
/-
  Pool: the law's disk and example; Reset.
-/
namespace Go.Proofs.Ytebobcbaloddaaa
section
set_option linter.unusedSimpArgs false
set_option linter.unusedVariables false
set_option linter.unusedSimpArgs false
set_option linter.unusedVariables false
open Go.RowKit Go.Maps

def RetBegin (w : World) (n : Nat) (e : Ending) (w' : World) : Prop := ∃ g gb gt ps T, e = .returned (.pointer (some ⟨g, 0, none⟩)) ∧ DP w' g gb gt n ps T ∧ Below w.heap.size w w'
def fiveP : List Nat := [1, 2, 1, 3, 2]
def fiveV : Array Value := #[.int .u32 1, .int .u32 2, .int .u32 1, .int .u32 3, .int .u32 2]
theorem five_at (k p : Nat) (h : fiveP[k]? = some p) : fiveV[k]? = some (.int .u32 (p : Nat)) ∧ p < 4 := by
  have hk := lt_of_at h
  unfold fiveP at h hk
  simp only [List.length_cons, List.length_nil] at hk
  have : k = 0 ∨ k = 1 ∨ k = 2 ∨ k = 3 ∨ k = 4 := by omega
  rcases this with rfl | rfl | rfl | rfl | rfl <;> (simp at h; subst h; exact ⟨rfl, by omega⟩)
theorem five_end : fiveP.foldl (stepG 2) ([], 0, 0) = ([3, 2], 4, 1) := by decide +kernel
theorem stepG_small {size : Nat} {s : List Nat × Nat × Nat} {p k : Nat} (h1 : s.2.1 ≤ k) (h2 : s.2.2 ≤ k) : (stepG size s p).2.1 ≤ k + 1 ∧ (stepG size s p).2.2 ≤ k + 1 := by
  unfold stepG
  split <;> (simp only; omega)
theorem fold_small (size : Nat) : ∀ (l : List Nat) (s : List Nat × Nat × Nat) (k : Nat), s.2.1 ≤ k → s.2.2 ≤ k → (l.foldl (stepG size) s).2.1 ≤ k + l.length ∧ (l.foldl (stepG size) s).2.2 ≤ k + l.length
  | [], s, k, h1, h2 => ⟨h1, h2⟩
  | p :: l, s, k, h1, h2 => by
    have h := stepG_small (size := size) (p := p) h1 h2
    have := fold_small size l _ (k + 1) h.1 h.2
    simp only [List.foldl_cons, List.length_cons]
    omega
end
end Go.Proofs.Ytebobcbaloddaaa
/-
  Pool: Reset; a nil pool.
-/
namespace Go.Proofs.Ytebobcbaloddaaa
section
set_option linter.unusedSimpArgs false
set_option linter.unusedVariables false
set_option linter.unusedSimpArgs false
set_option linter.unusedVariables false
open Go.RowKit Go.Maps

/-- clear of a map of the call's own. -/
theorem own_clear {w : World} {b n : Nat} {D : DataW Unit} (h : w.ownsMap Try.prog 31 Rp b n D) : ∃ w', (∀ ty, (Builtin.clear_ #[74] ty #[.map (some b)]).run Try.prog w = .ok (.tuple #[]) w') ∧ w'.ownsMap Try.prog 31 Rp b 0 (.map []) ∧ w.mapTurned w' b := by
  obtain ⟨es, clock, hb, F, hs, rfl⟩ := h
  refine ⟨ChangeMaps.setBlock w b (.map #[] clock), fun ty => ?_, ⟨#[], clock, ChangeMaps.heap_setBlock_same hb _, ⟨by simp, MapKept.stamped_empty clock, by simp⟩, Nat.le_refl _, rfl⟩, ⟨es, clock, #[], clock, hb, rfl⟩⟩
  have hu : Try.prog.underlying 74 = some (.map 31 75) := Try.underlying74
  simp [Builtin.clear_, run_underlying hu, MapKept.run_getObj_map hb, MapKept.run_setObj_map _ hb, Result.andThen, ChangeMaps.setBlock]
section
variable {w : World} {lo gp gd gb gt n : Nat} {ps : List (List UInt8)} {T : List Bool} {gm size : Nat} {K : List Fr} {D : DataW Unit} {rd ht : Nat}
end
/-! ### a nil pool -/
theorem nget_any (p : Int) (w : World) : Calls Try.prog 42 #[.pointer none, .int .u32 p] w fun e w' => e = .returned (.tuple #[.slice none 0 0, .int .i64 1]) ∧ w = w' := by
  go_enter Try.func42, Try.ntmps42
  go_wp2
  go_ret2
  exact ⟨rfl, rfl⟩
theorem npages_any (w : World) : Calls Try.prog 27 #[.pointer none] w fun e w' => e = .returned (.int .i64 0) ∧ w = w' := by
  go_enter Try.func27, Try.ntmps27
  go_wp2
  go_ret
  exact ⟨rfl, rfl⟩
end
end Go.Proofs.Ytebobcbaloddaaa
/-
  Pool: two pools over one disk; the laws PoolSizes, PoolAgain.
-/
namespace Go.Proofs.Ytebobcbaloddaaa
section
set_option linter.unusedSimpArgs false
set_option linter.unusedVariables false
set_option linter.unusedSimpArgs false
set_option linter.unusedVariables false
open Go.RowKit Go.Maps

theorem nodup_le : ∀ (l : List Nat) (n : Nat), l.Nodup → (∀ x ∈ l, x < n) → l.length ≤ n
  | l, 0, _, h => by
    cases l with
    | nil => exact Nat.le_refl _
    | cons x l => exact absurd (h x (by simp)) (by omega)
  | l, n + 1, hn, h => by
    have h1 := nodup_le (l.erase n) n (hn.erase n) (fun x hx => by
      have h2 := (List.Nodup.mem_erase_iff hn).1 hx
      have := h x h2.2
      have := h2.1
      omega)
    rw [List.length_erase] at h1
    split at h1 <;> omega
/-- A row of the call's own stays where its block does. -/
theorem Own.stays {w w' : World} {base : Nat} {v : Value} {l : List UInt8} (h : Own w base v l) (he : ∀ g cs, v.ownBlock = some g → Blk w g 5 cs → w'.heap[g]? = w.heap[g]?) : Own w' base v l := by
  refine ⟨h.1, ?_⟩
  rcases h.2 with hn | ⟨g, cap, cur, rfl, hb, hgg, rest⟩
  · exact .inl hn
  · refine .inr ⟨g, cap, cur, rfl, hb, ?_, rest⟩
    rw [he g cur rfl hgg]
    exact hgg
section
variable {w w' : World} {lo gp gd gb gt n : Nat} {ps : List (List UInt8)} {T : List Bool} {gm size : Nat} {K : List Fr} {D : DataW Unit} {rd ht : Nat}
theorem PS.turn_own (h : PS w lo gp gd gb gt n ps T gm size K D rd ht) (t : Turn w w' lo gp gm K) {base : Nat} {v : Value} {l : List UInt8} (ho : Own w base v l) : Own w' base v l :=
  ho.stays fun g cs _ hb => t.heap g hb.lt (hb.ne_ h.rg.pool (by decide)) (h.mp.ne_ hb) (fun j f hj => hb.ne_ (h.rg.fr j f hj).1 (by decide))
/-- Two pools of which no block is the same. -/
structure Disj (gp gm : Nat) (K : List Fr) (gp' gm' : Nat) (K' : List Fr) : Prop where
  p : gp ≠ gp'
  m : gm ≠ gm'
  f : ∀ (i j : Nat) (f f' : Fr), K[i]? = some f → K'[j]? = some f' → f.g ≠ f'.g
theorem Disj.symm {gp gm gp' gm' : Nat} {K K' : List Fr} (h : Disj gp gm K gp' gm' K') : Disj gp' gm' K' gp gm K := ⟨h.p.symm, h.m.symm, fun i j f f' hi hj => (h.f j i f' f hj hi).symm⟩
variable {lo' gp' gm' size' : Nat} {K' : List Fr} {D' : DataW Unit} {rd' ht' : Nat}
/-- The other pool stays. -/
theorem PS.other (h : PS w lo gp gd gb gt n ps T gm size K D rd ht) (t : Turn w w' lo gp gm K) (k : PS w lo' gp' gd gb gt n ps T gm' size' K' D' rd' ht') (d : Disj gp gm K gp' gm' K') : PS w' lo' gp' gd gb gt n ps T gm' size' K' D' rd' ht' := by
  have hb : ∀ {g : Nat} {ty : TypeId} {cs : Array Value}, Blk w g ty cs → g ≠ gp → (∀ (j : Nat) (f : Fr), K[j]? = some f → g ≠ f.g) → Blk w' g ty cs := fun hb h1 h2 => (t.heap _ hb.lt h1 (h.mp.ne_ hb) h2).trans hb
  have ho : ∀ {g : Nat} {ty : TypeId} {cs : Array Value}, ty ≠ 85 → ty ≠ 77 → Blk w g ty cs → Blk w' g ty cs := fun h1 h2 hc => h.turn_blk t hc h1 h2
  refine ⟨⟨k.rg.low, hb k.rg.pool d.p.symm (fun j f hj => (k.rg.pool.ne_ (h.rg.fr j f hj).1 (by decide))), fun i f hi => ⟨hb (k.rg.fr i f hi).1 ((k.rg.fr i f hi).1.ne_ h.rg.pool (by decide)) (fun j f' hj => (d.f j i f' f hj hi).symm), (k.rg.fr i f hi).2⟩, k.rg.inj⟩, ?_, k.lom, fun i f hi => ⟨ho (by decide) (by decide) (k.by_ i f hi).1, (k.by_ i f hi).2⟩, k.pg, ⟨⟨ho (by decide) (by decide) k.dk.dk.d, ho (by decide) (by decide) k.dk.dk.b, ho (by decide) (by decide) k.dk.dk.t, k.dk.dk.hb, k.dk.dk.ht⟩, k.dk.full, k.dk.hp⟩, k.s1, k.sz⟩
  exact k.mp.same (t.heap gm' k.mp.lt (fun e => k.mp.ne_ h.rg.pool e.symm) d.m.symm (fun j f hj => fun e => k.mp.ne_ (h.rg.fr j f hj).1 e.symm))
theorem Disj.get (d : Disj gp gm K gp' gm' K') (k : PS w lo' gp' gd gb gt n ps T gm' size' K' D' rd' ht') {K2 : List Fr} (hk : ∀ (j : Nat) (f : Fr), K2[j]? = some f → (∃ i : Nat, K[i]? = some f) ∨ w.heap.size ≤ f.g) : Disj gp gm K2 gp' gm' K' :=
  ⟨d.p, d.m, fun i j f f' hi hj => by
    rcases hk i f hi with ⟨i', hi'⟩ | hg
    · exact d.f i' j f f' hi' hj
    · have := (k.rg.fr j f' hj).1.lt; omega⟩
end
/-- What Get leaves, be the page there or not. -/
def GetV (ps : List (List UInt8)) (n p : Nat) (w' : World) (base : Nat) (v : Value) (e : Int) : Prop :=
  (p < n ∧ ∃ A c q, ps[p]? = some q ∧ v = .slice A 512 c ∧ e = 0 ∧ Own w' base (.slice A 512 c) q ∧ 512 ≤ c) ∨ (n ≤ p ∧ v = .slice none 0 0 ∧ e = 8)
def stepU (n size : Nat) (s : List Nat × Nat × Nat) (p : Nat) : List Nat × Nat × Nat := if p < n then stepG size s p else s
section
variable {w : World} {lo gp gd gb gt n : Nat} {ps : List (List UInt8)} {T : List Bool} {gm size : Nat} {K : List Fr} {D : DataW Unit} {rd ht : Nat}
theorem get_u (h : PS w lo gp gd gb gt n ps T gm size K D rd ht) (p : Nat) (hp2 : p ≤ 4294967295) (hn : n ≤ 20) (hrd : rd ≤ 1000000) (hht : ht ≤ 1000000) (hlo : lo ≤ w.heap.size) :
    Calls Try.prog 42 #[.pointer (some ⟨gp, 0, none⟩), .int .u32 p] w fun e w' => ∃ K' D' rd' ht' v r, e = .returned (.tuple #[v, .int .i64 r]) ∧ GetV ps n p w' w.heap.size v r ∧ PS w' lo gp gd gb gt n ps T gm size K' D' rd' ht' ∧ (pgs K', rd', ht') = stepU n size (pgs K, rd, ht) p ∧ Turn w w' lo gp gm K ∧
      ∀ (j : Nat) (f : Fr), K'[j]? = some f → (∃ i : Nat, K[i]? = some f) ∨ w.heap.size ≤ f.g := by
  by_cases hpn : p < n
  · obtain ⟨q, hq⟩ : ∃ q, ps[p]? = some q := ⟨_, List.getElem?_eq_getElem (by rw [h.dk.hp]; exact hpn)⟩
    have hk20 : K.length ≤ 1000000 := by
      have hnd := h.nodup
      have hsub : ∀ x ∈ pgs K, x < n := by
        intro x hx
        unfold pgs at hx
        obtain ⟨f, hf, rfl⟩ := List.mem_map.1 hx
        obtain ⟨i, hi⟩ := List.getElem?_of_mem hf
        exact h.pn hi
      have hle : (pgs K).length ≤ n := nodup_le _ n hnd hsub
      unfold pgs at hle
      rw [List.length_map] at hle
      omega
    refine (get_any h hq (by omega) hrd hht hk20 hlo).mono ?_
    rintro e w' ⟨K', D', rd', ht', A, c, rfl, h2, h3, h4, h5, h6, h7⟩
    exact ⟨K', D', rd', ht', _, _, rfl, .inl ⟨hpn, A, c, q, hq, rfl, rfl, h2, h3⟩, h4, by unfold stepU; rw [if_pos hpn]; exact h5, h6, h7⟩
  · refine (get_beyond h (by omega) hp2 (by omega)).mono ?_
    rintro e w' ⟨rfl, rfl⟩
    exact ⟨K, D, rd, ht, _, _, rfl, .inr ⟨by omega, rfl, rfl⟩, h, by unfold stepU; rw [if_neg hpn], Turn.refl _ _ _ _ _, fun j f hj => .inl ⟨j, hj⟩⟩
end
/-- The pages of a smaller pool are the last ones of a greater one. -/
theorem lru_step {sa sb : Nat} {A B : List Nat} {ra ha rb hb p : Nat} (hs : sa ≤ sb) (hsuf : A <:+ B) (hn : B.Nodup) (hA : A.length ≤ sa) (hB : B.length ≤ sb) (hr : rb ≤ ra) (hsum : ra + ha = rb + hb) :
    (stepG sa (A, ra, ha) p).1 <:+ (stepG sb (B, rb, hb) p).1 ∧ (stepG sb (B, rb, hb) p).2.1 ≤ (stepG sa (A, ra, ha) p).2.1 ∧
      (stepG sa (A, ra, ha) p).2.1 + (stepG sa (A, ra, ha) p).2.2 = (stepG sb (B, rb, hb) p).2.1 + (stepG sb (B, rb, hb) p).2.2 := by
  obtain ⟨X, rfl⟩ := hsuf
  have hnx := List.nodup_append.1 hn
  unfold stepG
  by_cases h1 : p ∈ A
  · have hx : p ∉ X := fun h => hnx.2.2 p h p h1 rfl
    rw [if_pos h1, if_pos (List.mem_append_right X h1)]
    simp only
    refine ⟨⟨X, ?_⟩, hr, by omega⟩
    rw [List.erase_append_right _ hx, List.append_assoc]
  · rw [if_neg h1]
    by_cases h2 : p ∈ X ++ A
    · have hx : p ∈ X := (List.mem_append.1 h2).resolve_right h1
      rw [if_pos h2]
      simp only
      refine ⟨?_, by omega, by omega⟩
      rw [List.erase_append_left _ hx]
      split
      · exact ⟨X.erase p, by rw [List.append_assoc]⟩
      · cases A with
        | nil => exact ⟨X.erase p, by simp⟩
        | cons a A => exact ⟨X.erase p ++ [a], by simp⟩
    · rw [if_neg h2]
      simp only
      refine ⟨?_, by omega, by omega⟩
      rw [List.length_append] at hB ⊢
      by_cases hb : X.length + A.length < sb
      · rw [if_pos hb]
        split
        · exact ⟨X, by rw [List.append_assoc]⟩
        · cases A with
          | nil => exact ⟨X, by simp⟩
          | cons a A => exact ⟨X ++ [a], by simp⟩
      · rw [if_neg hb]
        cases X with
        | nil =>
          have e : A.length = sa := by simp at hb hB; omega
          rw [if_neg (by omega)]
          exact ⟨[], by simp⟩
        | cons x X =>
          simp only [List.cons_append, List.tail_cons]
          split
          · exact ⟨X, by rw [List.append_assoc]⟩
          · cases A with
            | nil => exact ⟨X, by simp⟩
            | cons a A => exact ⟨X ++ [a], by simp⟩
theorem stepU_small {n size : Nat} {s : List Nat × Nat × Nat} {p k : Nat} (h1 : s.2.1 ≤ k) (h2 : s.2.2 ≤ k) : (stepU n size s p).2.1 ≤ k + 1 ∧ (stepU n size s p).2.2 ≤ k + 1 := by
  unfold stepU
  split
  · exact stepG_small h1 h2
  · omega
end
end Go.Proofs.Ytebobcbaloddaaa
/-
  Pool: Head.
-/
namespace Go.Proofs.Ytebobcbaloddaaa
section
set_option linter.unusedSimpArgs false
set_option linter.unusedVariables false
set_option linter.unusedSimpArgs false
set_option linter.unusedVariables false
open Go.RowKit Go.Maps

/-- Three cells of a block are written: all else stays. -/
structure Far (w w' : World) (r : Nat) : Prop where
  heap : ∀ g, g ≠ r → w'.heap[g]? = w.heap[g]?
  size : w'.heap.size = w.heap.size
  below : ∀ B w0, B ≤ r → Below B w0 w → Below B w0 w'
theorem Far.set3 (w : World) (r : Nat) (a b c : Value) : Far w (((w.setCell ⟨r, 0, none⟩ a).setCell ⟨r, 1, none⟩ b).setCell ⟨r, 2, none⟩ c) r :=
  ⟨fun g hg => (Below.heap_setCell _ _ _ _ hg).trans ((Below.heap_setCell _ _ _ _ hg).trans (Below.heap_setCell _ _ _ _ hg)), by simp [World.setCell],
   fun B w0 hB hb => ((hb.setCell (show B ≤ (⟨r, 0, none⟩ : Addr).block from hB) _).setCell (show B ≤ (⟨r, 1, none⟩ : Addr).block from hB) _).setCell (show B ≤ (⟨r, 2, none⟩ : Addr).block from hB) _⟩
section
variable {w w' : World} {lo gp gd gb gt n : Nat} {ps : List (List UInt8)} {T : List Bool} {gm size : Nat} {K : List Fr} {D : DataW Unit} {rd ht : Nat}
theorem PS.far (h : PS w lo gp gd gb gt n ps T gm size K D rd ht) {r : Nat} {t : TypeId} {cs : Array Value} (hX : Blk w r t cs) (hf : Far w w' r) (h1 : t ≠ 85) (h2 : t ≠ 77) (h3 : t ≠ 5) (h4 : t ≠ 4) (h5 : t ≠ 53) : PS w' lo gp gd gb gt n ps T gm size K D rd ht := by
  have hb : ∀ {g : Nat} {ty : TypeId} {cs' : Array Value}, t ≠ ty → Blk w g ty cs' → Blk w' g ty cs' := fun ht hb => (hf.heap _ (hb.ne_ hX fun e => ht e.symm)).trans hb
  exact ⟨⟨h.rg.low, hb h1 h.rg.pool, fun i f hi => ⟨hb h2 (h.rg.fr i f hi).1, (h.rg.fr i f hi).2⟩, h.rg.inj⟩, h.mp.same (hf.heap gm fun e => h.mp.ne_ hX e.symm), h.lom, fun i f hi => ⟨hb h3 (h.by_ i f hi).1, (h.by_ i f hi).2⟩, h.pg, ⟨⟨hb h5 h.dk.dk.d, hb h3 h.dk.dk.b, hb h4 h.dk.dk.t, h.dk.dk.hb, h.dk.dk.ht⟩, h.dk.full, h.dk.hp⟩, h.s1, h.sz⟩
theorem Turn.far (t : Turn w w' lo gp gm K) {w2 : World} {r : Nat} (hf : Far w' w2 r) (hr : w.heap.size ≤ r) (hlo : lo ≤ w.heap.size) : Turn w w2 lo gp gm K :=
  ⟨by rw [hf.size]; exact t.size, fun g hg h1 h2 h3 => (hf.heap g (by omega)).trans (t.heap g hg h1 h2 h3), fun B w0 hB hb => hf.below B w0 (by omega) (t.below B w0 hB hb)⟩
theorem Turn.more (t : Turn w w' lo gp gm K) {w2 : World} (hb : Below w'.heap.size w' w2) (hlo : lo ≤ w.heap.size) : Turn w w2 lo gp gm K :=
  ⟨Nat.le_trans t.size hb.size, fun g hg h1 h2 h3 => (hb.block g (Nat.lt_of_lt_of_le hg t.size)).trans (t.heap g hg h1 h2 h3), fun B w0 hB hb' => (t.below B w0 hB hb').trans (hb.mono (by have := t.size; omega))⟩
end
def hd0 : Value := .agg #[.int .u8 0, .int .u16 0, .int .u32 0]
section
variable {w : World} {lo gp gd gb gt n : Nat} {ps : List (List UInt8)} {T : List Bool} {gm size : Nat} {K : List Fr} {D : DataW Unit} {rd ht : Nat}
/-- What Head leaves. -/
def RetH (w : World) (lo gp gd gb gt n : Nat) (ps : List (List UInt8)) (T : List Bool) (gm size : Nat) (K : List Fr) (p : Nat) (k : Int) (e : Ending) (w' : World) : Prop :=
  (∃ K' D' rd' ht', PS w' lo gp gd gb gt n ps T gm size K' D' rd' ht') ∧ Turn w w' lo gp gm K ∧
  ((n ≤ p ∧ e = .returned (.tuple #[hd0, .slice none 0 0, .int .i64 8])) ∨
   (∃ q, ps[p]? = some q ∧ (hdOk q = false ∨ (hdK q : Int) ≠ k) ∧ e = .returned (.tuple #[hd0, .slice none 0 0, .int .i64 2])) ∨
   (∃ q A c, ps[p]? = some q ∧ hdOk q = true ∧ (hdK q : Int) = k ∧ e = .returned (.tuple #[hdV q, .slice A 512 c, .int .i64 0]) ∧ Own w' w.heap.size (.slice A 512 c) q))
end
end
end Go.Proofs.Ytebobcbaloddaaa
/-
  Pool: Get and Head, with counts; what a pool keeps when other memory changes.
-/
namespace Go.Proofs.Ytebobcbaloddaaa
section
set_option linter.unusedSimpArgs false
set_option linter.unusedVariables false
set_option linter.unusedSimpArgs false
set_option linter.unusedVariables false
open Go.RowKit Go.Maps

section
variable {w : World} {lo gp gd gb gt n : Nat} {ps : List (List UInt8)} {T : List Bool} {gm size : Nat} {K : List Fr} {D : DataW Unit} {rd ht : Nat}
theorem get_v (h : PS w lo gp gd gb gt n ps T gm size K D rd ht) (p : Nat) (hp2 : p ≤ 4294967295) (hn : n ≤ 1000) (hrd : rd ≤ 1000000) (hht : ht ≤ 1000000) (hlo : lo ≤ w.heap.size) :
    Calls Try.prog 42 #[.pointer (some ⟨gp, 0, none⟩), .int .u32 p] w fun e w' => ∃ K' D' rd' ht' v r, e = .returned (.tuple #[v, .int .i64 r]) ∧ GetV ps n p w' w.heap.size v r ∧ PS w' lo gp gd gb gt n ps T gm size K' D' rd' ht' ∧ (pgs K', rd', ht') = stepU n size (pgs K, rd, ht) p ∧ Turn w w' lo gp gm K ∧
      ∀ (j : Nat) (f : Fr), K'[j]? = some f → (∃ i : Nat, K[i]? = some f) ∨ w.heap.size ≤ f.g := by
  by_cases hpn : p < n
  · obtain ⟨q, hq⟩ : ∃ q, ps[p]? = some q := ⟨_, List.getElem?_eq_getElem (by rw [h.dk.hp]; exact hpn)⟩
    have hk20 : K.length ≤ 1000000 := by
      have hnd := h.nodup
      have hsub : ∀ x ∈ pgs K, x < n := by
        intro x hx
        unfold pgs at hx
        obtain ⟨f, hf, rfl⟩ := List.mem_map.1 hx
        obtain ⟨i, hi⟩ := List.getElem?_of_mem hf
        exact h.pn hi
      have hle : (pgs K).length ≤ n := nodup_le _ n hnd hsub
      unfold pgs at hle
      rw [List.length_map] at hle
      omega
    refine (get_any h hq (by omega) hrd hht hk20 hlo).mono ?_
    rintro e w' ⟨K', D', rd', ht', A, c, rfl, h2, h3, h4, h5, h6, h7⟩
    exact ⟨K', D', rd', ht', _, _, rfl, .inl ⟨hpn, A, c, q, hq, rfl, rfl, h2, h3⟩, h4, by unfold stepU; rw [if_pos hpn]; exact h5, h6, h7⟩
  · refine (get_beyond h (by omega) hp2 (by omega)).mono ?_
    rintro e w' ⟨rfl, rfl⟩
    exact ⟨K, D, rd, ht, _, _, rfl, .inr ⟨by omega, rfl, rfl⟩, h, by unfold stepU; rw [if_neg hpn], Turn.refl _ _ _ _ _, fun j f hj => .inl ⟨j, hj⟩⟩
/-- What Head leaves. -/
def RetH2 (m : Nat) (w : World) (lo gp gd gb gt n : Nat) (ps : List (List UInt8)) (T : List Bool) (gm size : Nat) (K : List Fr) (p : Nat) (k : Int) (e : Ending) (w' : World) : Prop :=
  (∃ K' D' rd' ht', PS w' lo gp gd gb gt n ps T gm size K' D' rd' ht' ∧ rd' ≤ m + 1 ∧ ht' ≤ m + 1 ∧ ∀ (j : Nat) (f : Fr), K'[j]? = some f → (∃ i : Nat, K[i]? = some f) ∨ w.heap.size ≤ f.g) ∧ Turn w w' lo gp gm K ∧
  ((n ≤ p ∧ e = .returned (.tuple #[hd0, .slice none 0 0, .int .i64 8])) ∨
   (∃ q, ps[p]? = some q ∧ (hdOk q = false ∨ (hdK q : Int) ≠ k) ∧ e = .returned (.tuple #[hd0, .slice none 0 0, .int .i64 2])) ∨
   (∃ q A c, ps[p]? = some q ∧ hdOk q = true ∧ (hdK q : Int) = k ∧ e = .returned (.tuple #[hdV q, .slice A 512 c, .int .i64 0]) ∧ Own w' w.heap.size (.slice A 512 c) q))
end
section
variable {w w' : World} {lo gp gd gb gt n : Nat} {ps : List (List UInt8)} {T : List Bool} {gm size : Nat} {K : List Fr} {D : DataW Unit} {rd ht : Nat}
/-- Blocks of two kinds change alone. -/
theorem PS.keep (h : PS w lo gp gd gb gt n ps T gm size K D rd ht) (t1 t2 : TypeId) (he : ∀ g, (∀ cs, ¬ Blk w g t1 cs) → (∀ cs, ¬ Blk w g t2 cs) → g < w.heap.size → w'.heap[g]? = w.heap[g]?)
    (a1 : ∀ t, t = t1 ∨ t = t2 → t ≠ 85 ∧ t ≠ 77 ∧ t ≠ 5 ∧ t ≠ 4 ∧ t ≠ 53) : PS w' lo gp gd gb gt n ps T gm size K D rd ht := by
  have hb : ∀ {g : Nat} {ty : TypeId} {cs' : Array Value}, t1 ≠ ty → t2 ≠ ty → Blk w g ty cs' → Blk w' g ty cs' := fun h1 h2 hb => (he _ (fun cs hc => hb.ne_ hc (fun e => h1 e.symm) rfl) (fun cs hc => hb.ne_ hc (fun e => h2 e.symm) rfl) hb.lt).trans hb
  obtain ⟨p1, p2, p3, p4, p5⟩ := a1 t1 (.inl rfl)
  obtain ⟨q1, q2, q3, q4, q5⟩ := a1 t2 (.inr rfl)
  exact ⟨⟨h.rg.low, hb p1 q1 h.rg.pool, fun i f hi => ⟨hb p2 q2 (h.rg.fr i f hi).1, (h.rg.fr i f hi).2⟩, h.rg.inj⟩, h.mp.same (he gm (fun cs hc => h.mp.ne_ hc rfl) (fun cs hc => h.mp.ne_ hc rfl) h.mp.lt), h.lom, fun i f hi => ⟨hb p3 q3 (h.by_ i f hi).1, (h.by_ i f hi).2⟩, h.pg, ⟨⟨hb p5 q5 h.dk.dk.d, hb p3 q3 h.dk.dk.b, hb p4 q4 h.dk.dk.t, h.dk.dk.hb, h.dk.dk.ht⟩, h.dk.full, h.dk.hp⟩, h.s1, h.sz⟩
theorem Turn.base (t : Turn w w' lo gp gm K) {w2 : World} (hb : Below w.heap.size w' w2) (hlo : lo ≤ w.heap.size) : Turn w w2 lo gp gm K :=
  ⟨Nat.le_trans t.size hb.size, fun g hg h1 h2 h3 => (hb.block g hg).trans (t.heap g hg h1 h2 h3), fun B w0 hB hb' => (t.below B w0 hB hb').trans (hb.mono (by omega))⟩
end
end
end Go.Proofs.Ytebobcbaloddaaa
