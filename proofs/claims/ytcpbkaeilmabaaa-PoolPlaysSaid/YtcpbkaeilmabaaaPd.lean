/-
  Pool: its map; its state.
-/
import Derived.Test.YtcpbkaeilmabaaaPc
import Derived.Test.YtcpbkaeilmabaaaSd
import Derived.Maps.OwnSet
import Derived.Maps.OwnOps
namespace Go.Proofs.Ytcpbkaeilmabaaa
set_option linter.unusedSimpArgs false
set_option linter.unusedVariables false
open Go.RowKit Go.Maps

/-- How a frame's pointer reads: its block's number. -/
def Rp (v : Value) : Option (DataW Unit × List MemPlace) := match v with
  | .pointer (some ⟨g, 0, none⟩) => some (.lit (.int .i64 (g : Nat)), [])
  | .pointer none => some (.nil, [])
  | _ => none
theorem Rp_ptr (g : Nat) : Rp (.pointer (some ⟨g, 0, none⟩)) = some (.lit (.int .i64 (g : Nat)), []) := rfl
theorem Rp_inv {v : Value} {g : Nat} {ps : List MemPlace} (h : Rp v = some (.lit (.int .i64 (g : Nat)), ps)) : v = .pointer (some ⟨g, 0, none⟩) := by
  unfold Rp at h
  split at h
  · simp only [Option.some.injEq, Prod.mk.injEq, DataW.lit.injEq, Lit.int.injEq, true_and] at h
    have : _ = g := Int.ofNat.inj h.1
    subst this; rfl
  · simp at h
  · cases h
theorem Rp_nil {v : Value} {ps : List MemPlace} (h : Rp v = some (.nil, ps)) : v = .pointer none := by
  unfold Rp at h
  split at h
  · simp at h
  · rfl
  · cases h
theorem Try.keyU : Keyed Try.prog 34 := int_keyed Try.underlying34
theorem Try.zeroFr (w : World) : (zeroValue 113).run Try.prog w = .ok (.pointer none) w := by kernel_rfl
theorem u32_key (p : Nat) (h : p ≤ 4294967295) : keyOf Try.prog 34 (.int .u32 p) = some (.int .u32 p) := keyOf_int_mk Try.underlying34 (by simp [Lit.wf, IntKind.min, IntKind.max, IntKind.signed, IntKind.bits]; omega)
theorem ownsMap_tight {w : World} {b n : Nat} {D : DataW Unit} (h : w.ownsMap Try.prog 34 Rp b n D) : w.ownsMap Try.prog 34 Rp b (Maps.size D) D := by
  obtain ⟨es, clock, hb, F, hs, rfl⟩ := h
  exact ⟨es, clock, hb, F, by simp [Maps.size, length_sorted], rfl⟩
/-- The map of the frames that are kept. -/
structure MapR (w : World) (gm : Nat) (K : List Fr) (D : DataW Unit) : Prop where
  own : w.ownsMap Try.prog 34 Rp gm K.length D
  size : Maps.size D = K.length
  hasn : ∀ p : Nat, (∀ (i : Nat) (f : Fr), K[i]? = some f → f.p ≠ p) → Maps.has D (.int .u32 p) = false
  hass : ∀ (i : Nat) (f : Fr), K[i]? = some f → Maps.has D (.int .u32 f.p) = true
  atk : ∀ (i : Nat) (f : Fr) (z : DataW Unit), K[i]? = some f → D.atKey (.int .u32 f.p) z = .lit (.int .i64 (f.g : Nat))
theorem MapR.same {w w' : World} {gm : Nat} {K : List Fr} {D : DataW Unit} (h : MapR w gm K D) (e : w'.heap[gm]? = w.heap[gm]?) : MapR w' gm K D := by
  refine ⟨?_, h.size, h.hasn, h.hass, h.atk⟩
  obtain ⟨es, clock, hb, r⟩ := h.own
  exact ⟨es, clock, e.trans hb, r⟩
theorem MapR.lt {w : World} {gm : Nat} {K : List Fr} {D : DataW Unit} (h : MapR w gm K D) : gm < w.heap.size := h.own.lt
/-- A block of cells is no map's. -/
theorem MapR.ne_ {w : World} {gm g : Nat} {K : List Fr} {D : DataW Unit} {t : TypeId} {cs : Array Value} (h : MapR w gm K D) (hb : Blk w g t cs) : g ≠ gm := by
  rintro rfl
  obtain ⟨es, clock, hm, _⟩ := h.own
  unfold Blk at hb
  rw [hm] at hb
  injection hb with hb
  cases hb
/-- The same frames in another order, one taken out and laid behind. -/
theorem MapR.turn {w : World} {gm i : Nat} {K : List Fr} {D : DataW Unit} {f : Fr} (h : MapR w gm K D) (hi : K[i]? = some f) : MapR w gm (K.eraseIdx i ++ [f]) D := by
  have hlt := lt_of_at hi
  have hl : (K.eraseIdx i ++ [f]).length = K.length := by rw [List.length_append, List.length_eraseIdx_of_lt hlt]; simp; omega
  have fwd : ∀ (j : Nat) (f' : Fr), (K.eraseIdx i ++ [f])[j]? = some f' → ∃ j' : Nat, K[j']? = some f' := by
    intro j f' hj
    rcases Nat.lt_or_ge j (K.eraseIdx i).length with h1 | h1
    · rw [List.getElem?_append_left h1, List.getElem?_eraseIdx] at hj
      split at hj
      · exact ⟨_, hj⟩
      · exact ⟨_, hj⟩
    · rw [List.getElem?_append_right h1] at hj
      have := lt_of_at hj
      have hz : j - (K.eraseIdx i).length = 0 := by simp at this; omega
      rw [hz] at hj
      injection hj with hj
      exact ⟨i, by rw [hi, hj]⟩
  have bwd : ∀ (j : Nat) (f' : Fr), K[j]? = some f' → ∃ j' : Nat, (K.eraseIdx i ++ [f])[j']? = some f' := by
    intro j f' hj
    by_cases hji : j = i
    · subst hji
      rw [hi] at hj
      injection hj with hj
      exact ⟨(K.eraseIdx j).length, by rw [List.getElem?_append_right (Nat.le_refl _), Nat.sub_self, ← hj]; rfl⟩
    · have hjl := lt_of_at hj
      by_cases h2 : j < i
      · exact ⟨j, by rw [List.getElem?_append_left (by rw [List.length_eraseIdx_of_lt hlt]; omega), List.getElem?_eraseIdx, if_pos h2]; exact hj⟩
      · exact ⟨j - 1, by rw [List.getElem?_append_left (by rw [List.length_eraseIdx_of_lt hlt]; omega), List.getElem?_eraseIdx, if_neg (by omega), show j - 1 + 1 = j from by omega]; exact hj⟩
  refine ⟨by rw [hl]; exact h.own, by rw [hl]; exact h.size, fun p hp => h.hasn p fun j f' hj => ?_, fun j f' hj => ?_, fun j f' z hj => ?_⟩
  · obtain ⟨j', hj'⟩ := bwd j f' hj
    exact hp j' f' hj'
  · obtain ⟨j', hj'⟩ := fwd j f' hj
    exact h.hass j' f' hj'
  · obtain ⟨j', hj'⟩ := fwd j f' hj
    exact h.atk j' f' z hj'
theorem u32_lit (p : Nat) : WideAt.IsKeyLit (.int .u32 (p : Nat)) := by trivial
theorem lit_ne {p q : Nat} (h : p ≠ q) : (Lit.int .u32 (p : Nat)) ≠ .int .u32 (q : Nat) := fun e => h (by injection e with _ e; exact Int.ofNat.inj e)
/-- One frame more. -/
theorem MapR.add {w w' : World} {gm n : Nat} {K : List Fr} {D : DataW Unit} {f : Fr} (h : MapR w gm K D) (hn : ∀ (i : Nat) (f' : Fr), K[i]? = some f' → f'.p ≠ f.p) (ho : w'.ownsMap Try.prog 34 Rp gm n (D.put (.int .u32 f.p) (.lit (.int .i64 (f.g : Nat))))) :
    MapR w' gm (K ++ [f]) (D.put (.int .u32 f.p) (.lit (.int .i64 (f.g : Nat)))) := by
  have hT := h.own.tidy Try.keyU
  have hM := h.own.isMap
  have hh : Maps.has D (.int .u32 f.p) = false := h.hasn f.p hn
  have hs : Maps.size (D.put (.int .u32 f.p) (.lit (.int .i64 (f.g : Nat)))) = (K ++ [f]).length := by
    rw [Maps.size_put hT, hh, h.size, List.length_append]; rfl
  have hc : ∀ (j : Nat) (f' : Fr), (K ++ [f])[j]? = some f' → K[j]? = some f' ∨ f' = f := by
    intro j f' hj
    rcases Nat.lt_or_ge j K.length with h1 | h1
    · rw [List.getElem?_append_left h1] at hj; exact .inl hj
    · rw [List.getElem?_append_right h1] at hj
      have := lt_of_at hj
      have hz : j - K.length = 0 := by simp at this; omega
      rw [hz] at hj
      injection hj with hj
      exact .inr hj.symm
  refine ⟨by rw [← hs]; exact ownsMap_tight ho, hs, fun p hp => ?_, fun j f' hj => ?_, fun j f' z hj => ?_⟩
  · have h1 : f.p ≠ p := hp K.length f (by rw [List.getElem?_append_right (Nat.le_refl _), Nat.sub_self]; rfl)
    rw [Maps.has_put_other (lit_ne (fun e => h1 e.symm))]
    exact h.hasn p fun i f' hi => hp i f' (by rw [List.getElem?_append_left (lt_of_at hi)]; exact hi)
  · rcases hc j f' hj with h1 | rfl
    · rw [Maps.has_put_other (lit_ne (hn j f' h1))]; exact h.hass j f' h1
    · exact Maps.has_put_same hM (u32_lit _) _
  · rcases hc j f' hj with h1 | rfl
    · rw [Maps.atKey_put_other (lit_ne (hn j f' h1))]; exact h.atk j f' z h1
    · exact Maps.atKey_put_same hM (u32_lit _) _ _
/-- The first frame goes. -/
theorem MapR.drop {w w' : World} {gm n : Nat} {K : List Fr} {D : DataW Unit} {f : Fr} (h : MapR w gm (f :: K) D) (hn : ∀ (i : Nat) (f' : Fr), K[i]? = some f' → f'.p ≠ f.p) (ho : w'.ownsMap Try.prog 34 Rp gm n (D.del (.int .u32 f.p))) :
    MapR w' gm K (D.del (.int .u32 f.p)) := by
  have hT := h.own.tidy Try.keyU
  have hs : Maps.size (D.del (.int .u32 f.p)) = K.length := by
    have h1 := Maps.size_del (k := .int .u32 f.p) hT
    rw [h.hass 0 f rfl, h.size, List.length_cons] at h1
    simp only [if_true] at h1
    omega
  refine ⟨by rw [← hs]; exact ownsMap_tight ho, hs, fun p hp => ?_, fun j f' hj => ?_, fun j f' z hj => ?_⟩
  · by_cases h1 : p = f.p
    · subst h1; exact Maps.has_del_same
    · rw [Maps.has_del_other (lit_ne h1)]
      refine h.hasn p fun i f' hi => ?_
      cases i with
      | zero => injection hi with hi; subst hi; exact fun e => h1 e.symm
      | succ i => exact hp i f' hi
  · rw [Maps.has_del_other (lit_ne (hn j f' hj))]; exact h.hass (j + 1) f' hj
  · rw [Maps.atKey_del_other (lit_ne (hn j f' hj))]; exact h.atk (j + 1) f' z hj
/-- What a pool is: its ring, its map, the pages' bytes, its disk. -/
structure PS (w : World) (lo gp gd gb gt n : Nat) (ps : List (List UInt8)) (T : List Bool) (gm size : Nat) (K : List Fr) (D : DataW Unit) (rd ht : Nat) : Prop where
  rg : Rg w lo gp K (.pointer (some ⟨gd, 0, none⟩)) (.int .i64 size) (.map (some gm)) (.int .u64 rd) (.int .u64 ht)
  mp : MapR w gm K D
  lom : lo ≤ gm
  by_ : ∀ (i : Nat) (f : Fr), K[i]? = some f → Blk w f.b 5 (bV f.l) ∧ ps[f.p]? = some f.l
  pg : ∀ (i j : Nat) (f f' : Fr), K[i]? = some f → K[j]? = some f' → f.p = f'.p → i = j
  dk : DP w gd gb gt n ps T
  s1 : 1 ≤ size
  sz : K.length ≤ size
theorem DP.same_ {w w' : World} {g gb gt n : Nat} {ps : List (List UInt8)} {T : List Bool} (h : DP w g gb gt n ps T) (h1 : w'.heap[g]? = w.heap[g]?) (h2 : w'.heap[gb]? = w.heap[gb]?) (h3 : w'.heap[gt]? = w.heap[gt]?) : DP w' g gb gt n ps T :=
  ⟨⟨h1.trans h.dk.d, h2.trans h.dk.b, h3.trans h.dk.t, h.dk.hb, h.dk.ht⟩, h.full, h.hp⟩
/-- Only a pool's own blocks turn, and new ones come. -/
structure Turn (w w' : World) (lo gp gm : Nat) (K : List Fr) : Prop where
  size : w.heap.size ≤ w'.heap.size
  heap : ∀ g, g < w.heap.size → g ≠ gp → g ≠ gm → (∀ (j : Nat) (f : Fr), K[j]? = some f → g ≠ f.g) → w'.heap[g]? = w.heap[g]?
  below : ∀ B w0, B ≤ lo → Below B w0 w → Below B w0 w'
theorem Turn.refl (w : World) (lo gp gm : Nat) (K : List Fr) : Turn w w lo gp gm K := ⟨Nat.le_refl _, fun _ _ _ _ _ => rfl, fun _ _ _ h => h⟩
theorem Turn.trans {w w' w'' : World} {lo gp gm : Nat} {K K' : List Fr} (h : Turn w w' lo gp gm K) (h' : Turn w' w'' lo gp gm K') (hk : ∀ (j : Nat) (f : Fr), K'[j]? = some f → (∃ i : Nat, K[i]? = some f) ∨ w.heap.size ≤ f.g) : Turn w w'' lo gp gm K :=
  ⟨Nat.le_trans h.size h'.size, fun g hg h1 h2 h3 => (h'.heap g (Nat.lt_of_lt_of_le hg h.size) h1 h2 (fun j f hj => by
    rcases hk j f hj with ⟨i, hi⟩ | hk
    · exact h3 i f hi
    · omega)).trans (h.heap g hg h1 h2 h3), fun B w0 hB hb => h'.below B w0 hB (h.below B w0 hB hb)⟩
theorem Turn.of_below {w w' : World} {lo gp gm : Nat} {K : List Fr} (h : Below w.heap.size w w') (hl : lo ≤ w.heap.size) : Turn w w' lo gp gm K :=
  ⟨h.size, fun g hg _ _ _ => h.block g hg, fun B w0 hB hb => hb.trans (h.mono (by omega))⟩
theorem Turn.of_stay {w w' : World} {lo gp gm : Nat} {K : List Fr} (h : Stay w w' lo gp K) : Turn w w' lo gp gm K :=
  ⟨by rw [h.size]; exact Nat.le_refl _, fun g hg h1 h2 h3 => h.heap g h1 h3, h.below⟩
end Go.Proofs.Ytcpbkaeilmabaaa
