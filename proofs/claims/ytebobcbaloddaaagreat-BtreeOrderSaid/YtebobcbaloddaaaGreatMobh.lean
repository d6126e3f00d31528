/-
  Pd Pe.
-/
import Derived.Test.YtebobcbaloddaaaGreatMoba
import Derived.Test.YtebobcbaloddaaaGreatMobc
import Derived.Maps.OwnSet
import Derived.Maps.OwnOps
namespace Go.Proofs.YtebobcbaloddaaaGreat
section
set_option linter.unusedSimpArgs false
set_option linter.unusedVariables false
set_option linter.unusedSimpArgs false
set_option linter.unusedVariables false
open Go.RowKit Go.Maps
def Rp (v : Value) : Option (DataW Unit × List MemPlace) := match v with
 | .pointer (some ⟨g, 0, none⟩) => some (.lit (.int .i64 (g : Nat)), [])
 | .pointer none => some (.nil, [])
 | _ => none
theorem Rp_inv {v : Value} {g : Nat} {ps : List MemPlace} (h : Rp v = some (.lit (.int .i64 (g : Nat)), ps)) : v = .pointer (some ⟨g, 0, none⟩) := by
 unfold Rp at h
 split at h
 · simp only [Option.some.injEq, Prod.mk.injEq, DataW.lit.injEq, Lit.int.injEq, true_and] at h
   have : _ = g := Int.ofNat.inj h.1
   subst this; rfl
 · simp at h
 · cases h
theorem Rp_nil {v : Value} {ps : List MemPlace} (h : Rp v = some (.nil, ps)) : v = .pointer none := by
 unfold Rp at h
 split at h
 · simp at h
 · rfl
 · cases h
theorem Tryz.keyU : Keyed Tryz.prog 30 := int_keyed Tryz.underlying30
theorem Tryz.zeroFr (w : World) : (zeroValue 98).run Tryz.prog w = .ok (.pointer none) w := by kernel_rfl
theorem u32_key (p : Nat) (h : p ≤ 4294967295) : keyOf Tryz.prog 30 (.int .u32 p) = some (.int .u32 p) := keyOf_int_mk Tryz.underlying30 (by simp [Lit.wf, IntKind.min, IntKind.max, IntKind.signed, IntKind.bits]; omega)
theorem ownsMap_tight {w : World} {b n : Nat} {D : DataW Unit} (h : w.ownsMap Tryz.prog 30 Rp b n D) : w.ownsMap Tryz.prog 30 Rp b (Maps.size D) D := by
 obtain ⟨es, clock, hb, F, hs, rfl⟩ := h
 exact ⟨es, clock, hb, F, by simp [Maps.size, length_sorted], rfl⟩
structure MapR (w : World) (gm : Nat) (K : List Fr) (D : DataW Unit) : Prop where
 own : w.ownsMap Tryz.prog 30 Rp gm K.length D
 size : Maps.size D = K.length
 hasn : ∀ p : Nat, (∀ (i : Nat) (f : Fr), K[i]? = some f → f.p ≠ p) → Maps.has D (.int .u32 p) = false
 hass : ∀ (i : Nat) (f : Fr), K[i]? = some f → Maps.has D (.int .u32 f.p) = true
 atk : ∀ (i : Nat) (f : Fr) (z : DataW Unit), K[i]? = some f → D.atKey (.int .u32 f.p) z = .lit (.int .i64 (f.g : Nat))
theorem MapR.same {w w' : World} {gm : Nat} {K : List Fr} {D : DataW Unit} (h : MapR w gm K D) (e : w'.heap[gm]? = w.heap[gm]?) : MapR w' gm K D := by
 refine ⟨?_, h.size, h.hasn, h.hass, h.atk⟩
 obtain ⟨es, clock, hb, r⟩ := h.own
 exact ⟨es, clock, e.trans hb, r⟩
theorem MapR.lt {w : World} {gm : Nat} {K : List Fr} {D : DataW Unit} (h : MapR w gm K D) : gm < w.heap.size := h.own.lt
theorem MapR.ne_ {w : World} {gm g : Nat} {K : List Fr} {D : DataW Unit} {t : TypeId} {cs : Array Value} (h : MapR w gm K D) (hb : Blk w g t cs) : g ≠ gm := by
 rintro rfl
 obtain ⟨es, clock, hm, _⟩ := h.own
 unfold Blk at hb
 rw [hm] at hb
 injection hb with hb
 cases hb
theorem MapR.turn {w : World} {gm i : Nat} {K : List Fr} {D : DataW Unit} {f : Fr} (h : MapR w gm K D) (hi : K[i]? = some f) : MapR w gm (K.eraseIdx i ++ [f]) D := by
 have hlt := lt_of_at hi
 have hl : (K.eraseIdx i ++ [f]).length = K.length := by rw [List.length_append, List.length_eraseIdx_of_lt hlt]; simp; omega
 have fwd : ∀ (j : Nat) (f' : Fr), (K.eraseIdx i ++ [f])[j]? = some f' → ∃ j' : Nat, K[j']? = some f' := by
  intro j f' hj
  rcases Nat.lt_or_ge j (K.eraseIdx i).length with h1 | h1
  · rw [List.getElem?_append_left h1, List.getElem?_eraseIdx] at hj
    split at hj
    · exact ⟨_, hj⟩
    · exact ⟨_, hj⟩
  · rw [List.getElem?_append_right h1] at hj
    have := lt_of_at hj
    have hz : j - (K.eraseIdx i).length = 0 := by simp at this; omega
    rw [hz] at hj
    injection hj with hj
    exact ⟨i, by rw [hi, hj]⟩
 have bwd : ∀ (j : Nat) (f' : Fr), K[j]? = some f' → ∃ j' : Nat, (K.eraseIdx i ++ [f])[j']? = some f' := by
  intro j f' hj
  by_cases hji : j = i
  · subst hji
    rw [hi] at hj
    injection hj with hj
    exact ⟨(K.eraseIdx j).length, by rw [List.getElem?_append_right (Nat.le_refl _), Nat.sub_self, ← hj]; rfl⟩
  · have hjl := lt_of_at hj
    by_cases h2 : j < i
    · exact ⟨j, by rw [List.getElem?_append_left (by rw [List.length_eraseIdx_of_lt hlt]; omega), List.getElem?_eraseIdx, if_pos h2]; exact hj⟩
    · exact ⟨j - 1, by rw [List.getElem?_append_left (by rw [List.length_eraseIdx_of_lt hlt]; omega), List.getElem?_eraseIdx, if_neg (by omega), show j - 1 + 1 = j from by omega]; exact hj⟩
 refine ⟨by rw [hl]; exact h.own, by rw [hl]; exact h.size, fun p hp => h.hasn p fun j f' hj => ?_, fun j f' hj => ?_, fun j f' z hj => ?_⟩
 · obtain ⟨j', hj'⟩ := bwd j f' hj
   exact hp j' f' hj'
 · obtain ⟨j', hj'⟩ := fwd j f' hj
   exact h.hass j' f' hj'
 · obtain ⟨j', hj'⟩ := fwd j f' hj
   exact h.atk j' f' z hj'
theorem u32_lit (p : Nat) : WideAt.IsKeyLit (.int .u32 (p : Nat)) := by trivial
theorem lit_ne {p q : Nat} (h : p ≠ q) : (Lit.int .u32 (p : Nat)) ≠ .int .u32 (q : Nat) := fun e => h (by injection e with _ e; exact Int.ofNat.inj e)
theorem MapR.add {w w' : World} {gm n : Nat} {K : List Fr} {D : DataW Unit} {f : Fr} (h : MapR w gm K D) (hn : ∀ (i : Nat) (f' : Fr), K[i]? = some f' → f'.p ≠ f.p) (ho : w'.ownsMap Tryz.prog 30 Rp gm n (D.put (.int .u32 f.p) (.lit (.int .i64 (f.g : Nat))))) :
 MapR w' gm (K ++ [f]) (D.put (.int .u32 f.p) (.lit (.int .i64 (f.g : Nat)))) := by
 have hT := h.own.tidy Tryz.keyU
 have hM := h.own.isMap
 have hh : Maps.has D (.int .u32 f.p) = false := h.hasn f.p hn
 have hs : Maps.size (D.put (.int .u32 f.p) (.lit (.int .i64 (f.g : Nat)))) = (K ++ [f]).length := by
  rw [Maps.size_put hT, hh, h.size, List.length_append]; rfl
 have hc : ∀ (j : Nat) (f' : Fr), (K ++ [f])[j]? = some f' → K[j]? = some f' ∨ f' = f := by
  intro j f' hj
  rcases Nat.lt_or_ge j K.length with h1 | h1
  · rw [List.getElem?_append_left h1] at hj; exact .inl hj
  · rw [List.getElem?_append_right h1] at hj
    have := lt_of_at hj
    have hz : j - K.length = 0 := by simp at this; omega
    rw [hz] at hj
    injection hj with hj
    exact .inr hj.symm
 refine ⟨by rw [← hs]; exact ownsMap_tight ho, hs, fun p hp => ?_, fun j f' hj => ?_, fun j f' z hj => ?_⟩
 · have h1 : f.p ≠ p := hp K.length f (by rw [List.getElem?_append_right (Nat.le_refl _), Nat.sub_self]; rfl)
   rw [Maps.has_put_other (lit_ne (fun e => h1 e.symm))]
   exact h.hasn p fun i f' hi => hp i f' (by rw [List.getElem?_append_left (lt_of_at hi)]; exact hi)
 · rcases hc j f' hj with h1 | rfl
   · rw [Maps.has_put_other (lit_ne (hn j f' h1))]; exact h.hass j f' h1
   · exact Maps.has_put_same hM (u32_lit _) _
 · rcases hc j f' hj with h1 | rfl
   · rw [Maps.atKey_put_other (lit_ne (hn j f' h1))]; exact h.atk j f' z h1
   · exact Maps.atKey_put_same hM (u32_lit _) _ _
theorem MapR.drop {w w' : World} {gm n : Nat} {K : List Fr} {D : DataW Unit} {f : Fr} (h : MapR w gm (f :: K) D) (hn : ∀ (i : Nat) (f' : Fr), K[i]? = some f' → f'.p ≠ f.p) (ho : w'.ownsMap Tryz.prog 30 Rp gm n (D.del (.int .u32 f.p))) :
 MapR w' gm K (D.del (.int .u32 f.p)) := by
 have hT := h.own.tidy Tryz.keyU
 have hs : Maps.size (D.del (.int .u32 f.p)) = K.length := by
  have h1 := Maps.size_del (k := .int .u32 f.p) hT
  rw [h.hass 0 f rfl, h.size, List.length_cons] at h1
  simp only [if_true] at h1
  omega
 refine ⟨by rw [← hs]; exact ownsMap_tight ho, hs, fun p hp => ?_, fun j f' hj => ?_, fun j f' z hj => ?_⟩
 · by_cases h1 : p = f.p
   · subst h1; exact Maps.has_del_same
   · rw [Maps.has_del_other (lit_ne h1)]
     refine h.hasn p fun i f' hi => ?_
     cases i with
     | zero => injection hi with hi; subst hi; exact fun e => h1 e.symm
     | succ i => exact hp i f' hi
 · rw [Maps.has_del_other (lit_ne (hn j f' hj))]; exact h.hass (j + 1) f' hj
 · rw [Maps.atKey_del_other (lit_ne (hn j f' hj))]; exact h.atk (j + 1) f' z hj
structure PS (w : World) (lo gp gd gb gt n : Nat) (ps : List (List UInt8)) (T : List Bool) (gm size : Nat) (K : List Fr) (D : DataW Unit) (rd ht : Nat) : Prop where
 rg : Rg w lo gp K (.pointer (some ⟨gd, 0, none⟩)) (.int .i64 size) (.map (some gm)) (.int .u64 rd) (.int .u64 ht)
 mp : MapR w gm K D
 lom : lo ≤ gm
 by_ : ∀ (i : Nat) (f : Fr), K[i]? = some f → Blk w f.b 5 (bV f.l) ∧ ps[f.p]? = some f.l
 pg : ∀ (i j : Nat) (f f' : Fr), K[i]? = some f → K[j]? = some f' → f.p = f'.p → i = j
 dk : DP w gd gb gt n ps T
 s1 : 1 ≤ size
 sz : K.length ≤ size
theorem DP.same_ {w w' : World} {g gb gt n : Nat} {ps : List (List UInt8)} {T : List Bool} (h : DP w g gb gt n ps T) (h1 : w'.heap[g]? = w.heap[g]?) (h2 : w'.heap[gb]? = w.heap[gb]?) (h3 : w'.heap[gt]? = w.heap[gt]?) : DP w' g gb gt n ps T :=
 ⟨⟨h1.trans h.dk.d, h2.trans h.dk.b, h3.trans h.dk.t, h.dk.hb, h.dk.ht⟩, h.full, h.hp⟩
structure Turn (w w' : World) (lo gp gm : Nat) (K : List Fr) : Prop where
 size : w.heap.size ≤ w'.heap.size
 heap : ∀ g, g < w.heap.size → g ≠ gp → g ≠ gm → (∀ (j : Nat) (f : Fr), K[j]? = some f → g ≠ f.g) → w'.heap[g]? = w.heap[g]?
 below : ∀ B w0, B ≤ lo → Below B w0 w → Below B w0 w'
theorem Turn.refl (w : World) (lo gp gm : Nat) (K : List Fr) : Turn w w lo gp gm K := ⟨Nat.le_refl _, fun _ _ _ _ _ => rfl, fun _ _ _ h => h⟩
theorem Turn.trans {w w' w'' : World} {lo gp gm : Nat} {K K' : List Fr} (h : Turn w w' lo gp gm K) (h' : Turn w' w'' lo gp gm K') (hk : ∀ (j : Nat) (f : Fr), K'[j]? = some f → (∃ i : Nat, K[i]? = some f) ∨ w.heap.size ≤ f.g) : Turn w w'' lo gp gm K :=
 ⟨Nat.le_trans h.size h'.size, fun g hg h1 h2 h3 => (h'.heap g (Nat.lt_of_lt_of_le hg h.size) h1 h2 (fun j f hj => by
  rcases hk j f hj with ⟨i, hi⟩ | hk
  · exact h3 i f hi
  · omega)).trans (h.heap g hg h1 h2 h3), fun B w0 hB hb => h'.below B w0 hB (h.below B w0 hB hb)⟩
theorem Turn.of_below {w w' : World} {lo gp gm : Nat} {K : List Fr} (h : Below w.heap.size w w') (hl : lo ≤ w.heap.size) : Turn w w' lo gp gm K :=
 ⟨h.size, fun g hg _ _ _ => h.block g hg, fun B w0 hB hb => hb.trans (h.mono (by omega))⟩
theorem Turn.of_stay {w w' : World} {lo gp gm : Nat} {K : List Fr} (h : Stay w w' lo gp K) : Turn w w' lo gp gm K :=
 ⟨by rw [h.size]; exact Nat.le_refl _, fun g hg h1 h2 h3 => h.heap g h1 h3, h.below⟩
end
end Go.Proofs.YtebobcbaloddaaaGreat
namespace Go.Proofs.YtebobcbaloddaaaGreat
section
set_option linter.unusedSimpArgs false
set_option linter.unusedVariables false
set_option linter.unusedSimpArgs false
set_option linter.unusedVariables false
open Go.RowKit Go.Maps
theorem reads_bv {w : World} {g : Nat} {t : TypeId} {l : List UInt8} (h : Blk w g t (bV l)) (hn : l.length = 512) : Reads w w.heap.size 1 (some ⟨g, 0, none⟩) 512 (bL l) := by
 refine ⟨by rw [bL_len]; omega, fun _ => ⟨_, rfl, h.lt, fun j u hu => ?_⟩⟩
 rw [add_head, h.cell, ← hu, ← Array.getElem?_toList, bV_toList]
section
variable {w : World} {lo gp gd gb gt n : Nat} {ps : List (List UInt8)} {T : List Bool} {gm size : Nat} {K : List Fr} {D : DataW Unit} {rd ht : Nat}
theorem stay_blk {w' : World} {x0 x1 x2 x7 x8 : Value} {K' : List Fr} (hp : Blk w gp 108 (plC gp K x0 x1 x2 x7 x8)) (hf : ∀ (j : Nat) (f : Fr), K'[j]? = some f → ∃ cs, Blk w f.g 100 cs) (st : Stay w w' lo gp K') {g : Nat} {t : TypeId} {cs : Array Value} (hb : Blk w g t cs) (h1 : t ≠ 108) (h2 : t ≠ 100) : Blk w' g t cs :=
 (st.heap g (hb.ne_ hp h1) fun j f hj => by obtain ⟨c, hc⟩ := hf j f hj; exact hb.ne_ hc h2).trans hb
theorem Rg.frs {x0 x1 x2 x7 x8 : Value} (h : Rg w lo gp K x0 x1 x2 x7 x8) : ∀ (j : Nat) (f : Fr), K[j]? = some f → ∃ cs, Blk w f.g 100 cs := fun j f hj => ⟨_, (h.fr j f hj).1⟩
theorem PS.below (h : PS w lo gp gd gb gt n ps T gm size K D rd ht) {w' : World} (hb : Below w.heap.size w w') : PS w' lo gp gd gb gt n ps T gm size K D rd ht :=
 ⟨h.rg.below hb, h.mp.same (hb.block _ h.mp.lt), h.lom, fun i f hi => ⟨(h.by_ i f hi).1.below hb (h.by_ i f hi).1.lt, (h.by_ i f hi).2⟩, h.pg, h.dk.below hb h.dk.lts.1 h.dk.lts.2.1 h.dk.lts.2.2, h.s1, h.sz⟩
theorem PS.len512 (h : PS w lo gp gd gb gt n ps T gm size K D rd ht) {i : Nat} {f : Fr} (hi : K[i]? = some f) : f.l.length = 512 := h.dk.full _ (List.mem_of_getElem? (h.by_ i f hi).2)
theorem PS.pn (h : PS w lo gp gd gb gt n ps T gm size K D rd ht) {i : Nat} {f : Fr} (hi : K[i]? = some f) : f.p < n := by have := lt_of_at (h.by_ i f hi).2; rw [h.dk.hp] at this; exact this
def RetGet2 (w : World) (lo gp gd gb gt n : Nat) (ps : List (List UInt8)) (T : List Bool) (gm size : Nat) (K K' : List Fr) (rd ht : Nat) (l : List UInt8) (e : Ending) (w' : World) : Prop :=
 ∃ A c D' wm, e = .returned (.tuple #[.slice A 512 c, .int .i64 0]) ∧ Own w' wm.heap.size (.slice A 512 c) l ∧ 512 ≤ c ∧ PS wm lo gp gd gb gt n ps T gm size K' D' rd ht ∧ Turn w wm lo gp gm K ∧ Below wm.heap.size wm w'
set_option maxRecDepth 100000 in
theorem get_hit2 (h : PS w lo gp gd gb gt n ps T gm size K D rd ht) {i : Nat} {f : Fr} (hi : K[i]? = some f) (hn : n ≤ 1000000) (hh : ht ≤ 1000000) (hlo : lo ≤ w.heap.size) :
 Calls Tryz.prog 73 #[.pointer (some ⟨gp, 0, none⟩), .int .u32 f.p] w (RetGet2 w lo gp gd gb gt n ps T gm size K (K.eraseIdx i ++ [f]) rd (ht + 1) f.l) := by
 have hlt := lt_of_at hi
 have hpn := h.pn hi
 have c2 : w.cell? ⟨gp, 2, none⟩ = some (.map (some gm)) := h.rg.pool.cell 2
 have c8 : w.cell? ⟨gp, 8, none⟩ = some (.int .u64 ht) := h.rg.pool.cell 8
 obtain ⟨v, pv, hrun, hv⟩ := h.mp.own.look_ok Tryz.keyU Tryz.underlying97 (Tryz.zeroFr w) (show Rp (.pointer none) = some (.nil, []) from rfl) (u32_key f.p (by omega))
 rw [h.mp.hass i f hi] at hrun
 rw [h.mp.atk i f .nil hi] at hv
 obtain rfl := Rp_inv hv
 have AD := Lib.hid (add64_any gp 8 ht w c8 (h.rg.pool.frozen 8) hh)
 have rg1 := h.rg.put8 (.int .u64 (ht + 1 : Nat))
 have LV := Lib.hid (leave_any rg1 hi)
 have H := Lib.hid h
 have HI := Lib.hid hi
 have hpI : (f.p : Int) ≤ 1000000 := by omega
 clear hi hv c8
 go_enter Tryz.func73, Tryz.ntmps73
 go_wp2_with fail
 refine AD.out.mono ?_
 rintro e w1 ⟨rfl, rfl⟩
 go_wp2_with fail
 refine LV.out.mono ?_
 rintro e w2 ⟨rfl, rg2, ⟨x, y, hfx⟩, st2⟩
 have hfresh : ∀ (j : Nat) (f' : Fr), (K.eraseIdx i)[j]? = some f' → f'.g ≠ f.g := by
  intro j f' hj he
  rw [List.getElem?_eraseIdx] at hj
  split at hj
  · have := H.out.rg.inj _ _ _ _ hj HI.out he; omega
  · have := H.out.rg.inj _ _ _ _ hj HI.out he; omega
 have EN := Lib.hid (enter_any rg2 hfx (H.out.rg.fr i f HI.out).2 hfresh)
 have hF2 : ∀ (j : Nat) (f' : Fr), (K.eraseIdx i ++ [f])[j]? = some f' → ∃ cs, Blk w2 f'.g 100 cs := by
  intro j f' hj
  rcases Nat.lt_or_ge j (K.eraseIdx i).length with h1 | h1
  · rw [List.getElem?_append_left h1] at hj; exact rg2.frs j f' hj
  · rw [List.getElem?_append_right h1] at hj
    have := lt_of_at hj
    have hz : j - (K.eraseIdx i).length = 0 := by simp at this; omega
    rw [hz] at hj
    injection hj with hj
    exact ⟨_, by rw [← hj]; exact hfx⟩
 have H2 := Lib.hid (And.intro rg2 (And.intro st2 hF2))
 clear rg2 st2 hfx hfresh hF2
 go_wp2_with fail
 refine EN.out.mono ?_
 rintro e w3 ⟨rfl, rg3, st3⟩
 have h1f := fun (j : Nat) (f' : Fr) (hj : K[j]? = some f') => rg1.frs j f' hj
 have b12 : ∀ {g : Nat} {t : TypeId} {cs : Array Value}, t ≠ 108 → t ≠ 100 → Blk w g t cs → Blk w3 g t cs := by
  intro g t cs h1 h2 hb
  have hb1 : Blk (w.setCell ⟨gp, 8, none⟩ (.int .u64 (ht + 1 : Nat))) g t cs := hb.far (p := ⟨gp, 8, none⟩) (hb.ne_ H.out.rg.pool h1) _
  exact stay_blk H2.out.1.pool H2.out.2.2 st3 (stay_blk rg1.pool h1f H2.out.2.1 hb1 h1 h2) h1 h2
 have hlast : (K.eraseIdx i ++ [f])[(K.eraseIdx i).length]? = some f := by rw [List.getElem?_append_right (Nat.le_refl _), Nat.sub_self]; rfl
 have d1 : w3.cell? ⟨f.g, 1, none⟩ = some (.slice (some ⟨f.b, 0, none⟩) 512 512) := (rg3.fr _ f hlast).1.cell 1
 have hbf := b12 (by decide) (by decide) (H.out.by_ i f HI.out).1
 have CL := Lib.hid (clone_any (c := 512) (reads_bv hbf (H.out.len512 HI.out)) (Nat.le_refl _) (by omega))
 have hgm : w3.heap[gm]? = w.heap[gm]? := by
  have e1 : (w.setCell ⟨gp, 8, none⟩ (.int .u64 (ht + 1 : Nat))).heap[gm]? = w.heap[gm]? := Below.heap_setCell _ _ _ _ (fun e => H.out.mp.ne_ H.out.rg.pool e.symm)
  have m1 : MapR (w.setCell ⟨gp, 8, none⟩ (.int .u64 (ht + 1 : Nat))) gm K D := H.out.mp.same e1
  have e2 := H2.out.2.1.heap gm (fun e => m1.ne_ rg1.pool e.symm) (fun j f' hj => fun e => m1.ne_ (rg1.fr j f' hj).1 e.symm)
  have m2 := m1.same e2
  have e3 := st3.heap gm (fun e => m2.ne_ H2.out.1.pool e.symm) (fun j f' hj => fun e => by obtain ⟨cs, hc⟩ := H2.out.2.2 j f' hj; exact m2.ne_ hc e.symm)
  exact e3.trans (e2.trans e1)
 have hwi : ∀ (j : Nat) (f' : Fr), (K.eraseIdx i ++ [f])[j]? = some f' → ∃ j' : Nat, K[j']? = some f' := by
  intro j f' hj
  rcases Nat.lt_or_ge j (K.eraseIdx i).length with h1 | h1
  · rw [List.getElem?_append_left h1, List.getElem?_eraseIdx] at hj
    split at hj
    · exact ⟨_, hj⟩
    · exact ⟨_, hj⟩
  · rw [List.getElem?_append_right h1] at hj
    have := lt_of_at hj
    have hz : j - (K.eraseIdx i).length = 0 := by simp at this; omega
    rw [hz] at hj
    injection hj with hj
    exact ⟨i, by rw [HI.out, hj]⟩
 have tn : Turn w w3 lo gp gm K := by
  have t1 : Turn w (w.setCell ⟨gp, 8, none⟩ (.int .u64 (ht + 1 : Nat))) lo gp gm K := ⟨by simp [World.setCell], fun g _ h1 _ _ => Below.heap_setCell _ _ _ _ h1, fun B w0 hB hb => hb.setCell (Nat.le_trans hB H.out.rg.low) _⟩
  have t2 : Turn (w.setCell ⟨gp, 8, none⟩ (.int .u64 (ht + 1 : Nat))) w2 lo gp gm K := Turn.of_stay H2.out.2.1
  have t3 : Turn w2 w3 lo gp gm (K.eraseIdx i ++ [f]) := Turn.of_stay st3
  exact (t1.trans t2 (fun j f' hj => .inl ⟨j, hj⟩)).trans t3 (fun j f' hj => .inl (hwi j f' hj))
 have hpg : ∀ (a b : Nat) (f1 f2 : Fr), (K.eraseIdx i ++ [f])[a]? = some f1 → (K.eraseIdx i ++ [f])[b]? = some f2 → f1.p = f2.p → a = b := by
  intro a b f1 f2 ha hb he
  obtain ⟨a', ha'⟩ := hwi a f1 ha
  obtain ⟨b', hb'⟩ := hwi b f2 hb
  have := H.out.pg _ _ _ _ ha' hb' he
  subst this
  rw [ha'] at hb'
  injection hb' with hb'
  exact rg3.inj a b f1 f2 ha hb (by rw [hb'])
 have lts := H.out.dk.lts
 have ps3 : PS w3 lo gp gd gb gt n ps T gm size (K.eraseIdx i ++ [f]) D rd (ht + 1) := by
  refine ⟨rg3, (H.out.mp.same hgm).turn HI.out, H.out.lom, fun j f' hj => ?_, hpg, ?_, H.out.s1, ?_⟩
  · obtain ⟨j', hj'⟩ := hwi j f' hj
    exact ⟨b12 (by decide) (by decide) (H.out.by_ j' f' hj').1, (H.out.by_ j' f' hj').2⟩
  · exact ⟨⟨b12 (by decide) (by decide) H.out.dk.dk.d, b12 (by decide) (by decide) H.out.dk.dk.b, b12 (by decide) (by decide) H.out.dk.dk.t, H.out.dk.dk.hb, H.out.dk.dk.ht⟩, H.out.dk.full, H.out.dk.hp⟩
  · rw [List.length_append, List.length_eraseIdx_of_lt hlt]
    have := H.out.sz
    simp; omega
 have HE := Lib.hid (And.intro ps3 tn)
 clear rg3 st3 b12 hbf hgm hwi tn hpg ps3 h1f H2 hlast
 go_wp2_with fail
 refine CL.out.mono ?_
 rintro e w4 ⟨A4, c4, rfl, own4, hc4, hb4⟩
 rw [H.out.len512 HI.out] at own4 hc4 ⊢
 have HF := Lib.hid (And.intro own4 (And.intro hc4 hb4))
 clear own4 hc4 hb4
 go_wp2
 go_ret2
 exact ⟨A4, c4, D, w3, rfl, HF.out.1, HF.out.2.1, HE.out.1, HE.out.2, HF.out.2.2⟩
end
end
end Go.Proofs.YtebobcbaloddaaaGreat
