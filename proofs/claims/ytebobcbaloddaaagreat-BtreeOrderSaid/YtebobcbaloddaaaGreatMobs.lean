/-
  B24 B25 B26 B27 B28 B40 B41 B42 B43 B73 B44 B45 B30 B31 B46.
-/
import Derived.Test.YtebobcbaloddaaaGreatMobr
import Derived.Test.YtebobcbaloddaaaGreatMoai
import Derived.Test.YtebobcbaloddaaaGreatMobi
import Derived.Test.YtebobcbaloddaaaGreatMoag
import Derived.IntWalk
import Derived.Deep.DeepCutAuto
import Derived.BigQuiet
import Derived.Deep.RegionHeld3
import Derived.Test.YtebobcbaloddaaaGreatMozz
namespace Go.Proofs.YtebobcbaloddaaaGreat
section
set_option linter.unusedSimpArgs false
set_option linter.unusedVariables false
open Go.RowKit Go.Maps
theorem cmpE_self (x : En) : cmpE x x = 0 := by have := cmpE_swap x x; omega
theorem sepOk_of {seps : List En} : ∀ (ds : List Nd) (i : Nat), (∀ (j : Nat) (d : Nd), ds[j]? = some d → 0 < i + j → d.L.head? = seps[i + j - 1]?) → riseP ((ds.map Nd.L).flatten) → i + ds.length = seps.length + 1 → SepOk seps i ds
 | [], _, _, _, _ => trivial
 | d :: r, i, hh, hr, hl => by
   rw [List.map_cons, List.flatten_cons] at hr
   have hr' := List.pairwise_append.1 hr
   refine ⟨fun x hx => ⟨fun s hi hs => ?_, fun s hs => ?_⟩, sepOk_of r (i + 1) (fun j e he hp => by have := hh (j + 1) e (by simpa using he) (by omega); rw [this]; congr 1; omega) hr'.2.1 (by rw [List.length_cons] at hl; omega)⟩
   · have h1 := hh 0 d rfl (by omega)
     rw [Nat.add_zero, hs] at h1
     cases hL : d.L with
     | nil => rw [hL] at hx; cases hx
     | cons y t =>
       rw [hL] at h1 hx hr'
       have e : y = s := by simpa using h1
       subst e
       rcases List.mem_cons.1 hx with rfl | hx
       · rw [cmpE_self]; exact Int.le_refl 0
       · have := (List.pairwise_cons.1 hr'.1).1 x hx
         have := cmpE_swap y x
         omega
   · cases r with
     | nil =>
       have := lt_of_at hs
       simp at hl; omega
     | cons e r =>
       have h1 := hh 1 e rfl (by omega)
       rw [show i + 1 - 1 = i from by omega, hs] at h1
       refine hr'.2.2 x hx s ?_
       rw [List.map_cons, List.flatten_cons]
       exact List.mem_append_left _ (List.mem_of_mem_head? h1)
theorem sub_flat {α : Type} {X Y : List (List α)} (h : X.Sublist Y) : X.flatten.Sublist Y.flatten := by
 induction h with
 | slnil => exact List.Sublist.slnil
 | cons a _ ih => rw [List.flatten_cons]; exact ih.trans (List.sublist_append_right _ _)
 | cons_cons a _ ih => rw [List.flatten_cons, List.flatten_cons]; exact ih.append_left _
theorem flat2 {α β : Type} (f : α → List β) : ∀ X : List (List α), (X.map fun s => (s.map f).flatten).flatten = ((X.flatten).map f).flatten
 | [] => rfl
 | s :: X => by simp [flat2 f X]
theorem perm_flat {α β : Type} (a : α → β) (B : α → List β) : ∀ l : List α, ((l.map fun i => a i :: B i).flatten).Perm (l.map a ++ (l.map B).flatten)
 | [] => List.Perm.refl _
 | x :: l => by
   rw [List.map_cons, List.map_cons, List.map_cons, List.flatten_cons, List.flatten_cons]
   show (a x :: (B x ++ _)).Perm (a x :: (l.map a ++ (B x ++ (l.map B).flatten)))
   refine List.Perm.cons _ ?_
   refine ((perm_flat a B l).append_left (B x)).trans ?_
   rw [← List.append_assoc, ← List.append_assoc]
   exact List.perm_append_comm.append_right _
theorem Chn.next : ∀ {a c : Nat} {gs : List (Nat × Nat)}, Chn a gs c → ∀ (i : Nat) (g : Nat × Nat), gs[i]? = some g → (∀ g', gs[i + 1]? = some g' → g'.1 = g.2) ∧ (gs[i + 1]? = none → g.2 = c)
 | _, _, [], _, i, g, h => by simp at h
 | a, c, g0 :: gs, ⟨h1, h2, h3⟩, 0, g, h => by
   simp only [List.getElem?_cons_zero, Option.some.injEq] at h
   subst h
   cases gs with
   | nil => exact ⟨fun g' h' => by simp at h', fun _ => h3⟩
   | cons g1 gs => exact ⟨fun g' h' => by simp at h'; subst h'; exact h3.1, fun h' => by simp at h'⟩
 | a, c, g0 :: gs, ⟨h1, h2, h3⟩, i + 1, g, h => by
   have := Chn.next h3 i g (by simpa using h)
   simpa using this
theorem seg_map {α β : Type} (f : α → β) (l : List α) (g : Nat × Nat) : (seg l g).map f = seg (l.map f) g := by unfold seg; rw [List.map_drop, List.map_take]
theorem chn_seg {S : Nd → Nat → Prop} {ds : List Nd} {nx : Nat} (h : ChnN S ds nx) (g : Nat × Nat) (hg : g.1 ≤ g.2) : ChnN S (seg ds g) (((ds.drop g.2).map Nd.f).headD nx) := by
 have e : ds = ds.take g.1 ++ (seg ds g ++ ds.drop g.2) := by
  unfold seg
  rw [← List.append_assoc]
  have : ds.take g.1 ++ (ds.take g.2).drop g.1 = ds.take g.2 := by
   conv => rhs; rw [← List.take_append_drop g.1 (ds.take g.2)]
   rw [List.take_take, Nat.min_eq_left hg]
  rw [this, List.take_append_drop]
 rw [e] at h
 exact (ChnN.app (ChnN.app h).2).1
theorem headD_drop {α : Type} (f : α → Nat) (l : List α) (a b d : Nat) (h : a < b) : ((l.drop a).map f).headD d = ((seg l (a, b)).map f).headD d := by
 unfold seg
 by_cases hl : a < l.length
 · have h1 : l.drop a = l[a] :: l.drop (a + 1) := List.drop_eq_getElem_cons hl
   have h2 : a < (l.take b).length := by rw [List.length_take]; omega
   have h3 : (l.take b).drop a = (l.take b)[a] :: (l.take b).drop (a + 1) := List.drop_eq_getElem_cons h2
   rw [h1, h3]
   simp [hl]
 · rw [List.drop_eq_nil_of_le (by omega), List.drop_eq_nil_of_le (by rw [List.length_take]; omega)]
theorem in_sub {n h : Nat} {l : List En} {lv : List Kd} {ds : List Nd} {ps : List (List UInt8)} {T : List Bool} {lv' : List Kd} (S : LvS ps (h + 1) l lv ds) (hr : riseP l) (hO : LvOk n lv) (h2 : 2 ≤ lv.length) (hn : n = ps.length) (hT : T.length = ps.length) (hb : ps.length ≤ 10000)
 (hmk : ∀ p ∈ (ds.map Nd.P).flatten, T[p]? = some true) (hi : (inP' lv ps T).2.2 = some lv') :
 ∃ ds', LvS (inP' lv ps T).1 (h + 2) l lv' ds' ∧ (∀ p ∈ (ds'.map Nd.P).flatten, (inP' lv ps T).2.1[p]? = some true ∧ (T[p]? = some false ∨ p ∈ (ds.map Nd.P).flatten)) ∧ ((ds'.map Nd.P).flatten).length = lv'.length + ((ds.map Nd.P).flatten).length := by
 unfold inP' at hi ⊢
 have I := tkI T (ptL fC lv).length
 have GR := grC_ok hO.may h2
 have hlne : lv ≠ [] := by rintro rfl; simp at h2
 have hsm : ∀ x ∈ lv, x.2.s.size ≤ 200 := fun x hx => may_small hO.may x.2 (List.mem_map_of_mem hx)
 obtain ⟨hch, _, _⟩ := ptL_ok (ptF_C hsm) szC_mono hlne
 split at hi
 · rename_i hbk
   injection hi with hi
   subst hi
   rw [if_pos hbk]
   have hpl := I.full hbk
   have hdl : ds.length = lv.length := by have := congrArg List.length S.fst; simpa using this
   have hcov : ((ptL fC lv).map (seg ds)).flatten = ds := by rw [hch.flat ds (by omega), ← hdl, seg_all]
   generalize ptL fC lv = gs at *
   generalize tkP gs.length T = st at *
   obtain ⟨pg, T1, bk⟩ := st
   simp only at *
   have hpp : ∀ p ∈ pg, p < ps.length := fun p hp => by
    obtain ⟨i, hi⟩ := List.getElem?_of_mem hp
    have := (I.at_ i p hi).2.2; omega
   have hfree : ∀ p ∈ pg, T[p]? = some false ∧ T1[p]? = some true := fun p hp => by
    obtain ⟨i, hi⟩ := List.getElem?_of_mem hp
    exact ⟨(I.at_ i p hi).1, (I.at_ i p hi).2.1⟩
   have hold : ∀ p ∈ (ds.map Nd.P).flatten, p ∉ pg := fun p hp hpg => by
    have h1 := hmk p hp
    rw [(hfree p hpg).1] at h1
    cases h1
   have hhd : ∀ (i : Nat) (d : Nd) (c : Kd), ds[i]? = some d → lv[i]? = some c → d.L.head? = some c.2 := by
    rcases S.hd with e | e
    · omega
    · exact e
   let nd : Nat → Nd := fun i => ⟨pg.getD i 0, ((seg ds (gs.getD i (0, 0))).map Nd.L).flatten, pg.getD i 0 :: ((seg ds (gs.getD i (0, 0))).map Nd.P).flatten, ((seg ds (gs.getD i (0, 0))).map Nd.f).headD 0, ((seg ds (gs.getD i (0, 0))).map Nd.k).sum⟩
   have hP : ((List.range gs.length).map nd).map Nd.P = (List.range gs.length).map fun i => pg.getD i 0 :: ((seg ds (gs.getD i (0, 0))).map Nd.P).flatten := by rw [List.map_map]; rfl
   have hpg : (List.range gs.length).map (fun i => pg.getD i 0) = pg := by
    have := range_getD pg 0 id
    rw [hpl] at this
    simpa using this
   have hBs : ((List.range gs.length).map fun i => ((seg ds (gs.getD i (0, 0))).map Nd.P).flatten).flatten = (ds.map Nd.P).flatten := by
    rw [range_getD gs (0, 0) fun g => ((seg ds g).map Nd.P).flatten]
    have := flat2 Nd.P (gs.map (seg ds))
    rw [List.map_map, hcov] at this
    exact this
   have hperm := perm_flat (fun i => pg.getD i 0) (fun i => ((seg ds (gs.getD i (0, 0))).map Nd.P).flatten) (List.range gs.length)
   rw [hpg, hBs] at hperm
   refine ⟨(List.range gs.length).map nd, ⟨?_, ?_, ?_, ?_, ?_⟩, ?_, ?_⟩
   · unfold inLv; rw [List.map_map, List.map_map]; rfl
   · refine ChnN.of fun i d hd => ?_
     rw [List.getElem?_map] at hd
     obtain ⟨j, hj, rfl⟩ := Option.map_eq_some_iff.1 hd
     have hig : i < gs.length := by have := lt_of_at hj; simpa using this
     rw [List.getElem?_range hig] at hj
     injection hj with hj
     subst hj
     obtain ⟨g, hg⟩ : ∃ g, gs[i]? = some g := ⟨_, List.getElem?_eq_getElem hig⟩
     have hgD := getD_of (d := (0, 0)) hg
     obtain ⟨c0, zr, G⟩ := GR g (List.mem_of_getElem? hg)
     have hgm := hch.mem g (List.mem_of_getElem? hg)
     have hnx : ((((List.range gs.length).map nd)[i + 1]?.map Nd.f).getD 0) = ((ds.drop g.2).map Nd.f).headD 0 := by
      rw [List.getElem?_map]
      by_cases h1 : i + 1 < gs.length
      · obtain ⟨g', hg'⟩ : ∃ g', gs[i + 1]? = some g' := ⟨_, List.getElem?_eq_getElem h1⟩
        have e1 := (hch.next i g hg).1 g' hg'
        have hgm' := hch.mem g' (List.mem_of_getElem? hg')
        rw [List.getElem?_range h1]
        show ((seg ds (gs.getD (i + 1) (0, 0))).map Nd.f).headD 0 = _
        rw [getD_of hg', ← e1, headD_drop Nd.f ds g'.1 g'.2 0 hgm'.2.1]
      · have e1 := (hch.next i g hg).2 (List.getElem?_eq_none (by omega))
        rw [List.getElem?_eq_none (by simp; omega), List.drop_eq_nil_of_le (by omega)]; rfl
     rw [hnx]
     have hseg : (seg ds g).map Nd.p = (c0 :: zr).map Prod.fst := by rw [seg_map, S.fst, ← seg_map, G.eq]
     have hlenS : (seg ds g).length = zr.length + 1 := by have := congrArg List.length hseg; simpa using this
     cases hsd : seg ds g with
     | nil => rw [hsd] at hlenS; simp at hlenS
     | cons c r =>
       rw [hsd] at hseg hlenS
       simp only [List.map_cons, List.cons.injEq] at hseg
       obtain ⟨hcp, hrp⟩ := hseg
       have hchs := chn_seg S.chn g G.le.1
       rw [hsd] at hchs
       have hmem : ∀ d' ∈ c :: r, d' ∈ ds := fun d' hd' => mem_seg (g := g) (by rw [hsd]; exact hd')
       have hat : ∀ (j : Nat) (d' : Nd) (k' : Kd), (c :: r)[j]? = some d' → (c0 :: zr)[j]? = some k' → d'.L.head? = some k'.2 := by
        intro j d' k' h1 h3
        have hj := lt_of_at h1
        have hsl := seg_len (l := ds) (g := g) (by omega)
        rw [hsd] at hsl
        rw [← hsd] at h1
        rw [← G.eq] at h3
        unfold seg at h1 h3
        rw [List.getElem?_drop] at h1 h3
        have hlt1 : g.1 + j < g.2 := by omega
        rw [List.getElem?_take_of_lt hlt1] at h1 h3
        exact hhd _ _ _ h1 h3
       refine ⟨c, r, zr.map Prod.snd, ?_, ?_, ?_, ?_, ?_, ?_, ?_, G.may, ?_, ?_, ?_, ?_, ?_, ?_⟩
       · refine hchs.mono fun d' hd' nx' hs' => sub_frame (h + 1) d' nx' hs' fun p hp => ?_
         have hpd : p ∈ (ds.map Nd.P).flatten := List.mem_flatten.2 ⟨d'.P, List.mem_map_of_mem (hmem d' hd'), hp⟩
         show (inK lv gs pg gs.length ps)[p]? = _
         rw [inK_wr]
         exact wrK_far pg _ gs.length ps p (by omega) (hold p hpd)
       · refine sepOk_of (c :: r) 0 (fun j d' hd' hp => ?_) ?_ (by rw [List.length_map, Nat.zero_add]; simpa using hlenS)
         · obtain ⟨k', hk'⟩ : ∃ k', (c0 :: zr)[j]? = some k' := ⟨_, List.getElem?_eq_getElem (by have := lt_of_at hd'; simp at this hlenS ⊢; omega)⟩
           rw [hat j d' k' hd' hk']
           obtain ⟨j', rfl⟩ : ∃ j', j = j' + 1 := ⟨j - 1, by omega⟩
           rw [show 0 + (j' + 1) - 1 = j' from by omega, List.getElem?_map]
           rw [List.getElem?_cons_succ] at hk'
           rw [hk']; rfl
         · have hsub : ((c :: r).map Nd.L).flatten.Sublist l := by
            rw [← S.L, ← hsd]
            exact sub_flat ((seg_sub ds g).map Nd.L)
           exact List.Pairwise.sublist hsub hr
       · rw [List.length_map]; simpa using hlenS
       · rw [List.length_map]; exact fun e => G.ne (List.eq_nil_of_length_eq_zero e)
       · show (inK lv gs pg gs.length ps)[pg.getD i 0]? = _
         rw [inK_wr, wrK_at pg _ I.nodup gs.length ps i (by omega) hig hpp, hgD, G.eq]
         show some (innL c0.1 (zr.map fun c => (c.2, c.1)) zr.length) = _
         rw [hcp, hrp, zip_kd, List.length_map]
       · intro x hx
         have : x ∈ lv.map Prod.fst := by
          rw [List.map_cons, hcp, hrp] at hx
          have : x ∈ (c0 :: zr).map Prod.fst := hx
          obtain ⟨y, hy, rfl⟩ := List.mem_map.1 this
          exact List.mem_map_of_mem (G.mem y hy)
         obtain ⟨y, hy, rfl⟩ := List.mem_map.1 this
         have := (hO.ok y hy).2
         omega
       · intro e he
         obtain ⟨y, hy, rfl⟩ := List.mem_map.1 he
         exact (hO.ok y (G.mem y (List.mem_cons_of_mem _ hy))).1
       · rw [List.length_map]; exact G.sum
       · show ((seg ds (gs.getD i (0, 0))).map Nd.L).flatten = _
         rw [hgD, hsd]
       · show pg.getD i 0 :: ((seg ds (gs.getD i (0, 0))).map Nd.P).flatten = pg.getD i 0 :: _
         rw [hgD, hsd]
       · show ((seg ds (gs.getD i (0, 0))).map Nd.f).headD 0 = _
         rw [hgD, hsd]; rfl
       · show ((seg ds (gs.getD i (0, 0))).map Nd.k).sum = _
         rw [hgD, hsd]
       · intro d' hd' e
         obtain ⟨j, hj⟩ := List.getElem?_of_mem hd'
         obtain ⟨k', hk'⟩ : ∃ k', (c0 :: zr)[j]? = some k' := ⟨_, List.getElem?_eq_getElem (by have := lt_of_at hj; simp at this hlenS ⊢; omega)⟩
         have := hat j d' k' hj hk'
         rw [e] at this
         cases this
   · right
     intro i d c hd hc
     rw [List.getElem?_map] at hd
     obtain ⟨j, hj, rfl⟩ := Option.map_eq_some_iff.1 hd
     have hig : i < gs.length := by have := lt_of_at hj; simpa using this
     rw [List.getElem?_range hig] at hj
     injection hj with hj
     subst hj
     unfold inLv at hc
     rw [List.getElem?_map, List.getElem?_range hig] at hc
     injection hc with hc
     subst hc
     obtain ⟨g, hg⟩ : ∃ g, gs[i]? = some g := ⟨_, List.getElem?_eq_getElem hig⟩
     have hgD := getD_of (d := (0, 0)) hg
     obtain ⟨c0, zr, G⟩ := GR g (List.mem_of_getElem? hg)
     have hgm := hch.mem g (List.mem_of_getElem? hg)
     show (((seg ds (gs.getD i (0, 0))).map Nd.L).flatten).head? = some ((((seg lv (gs.getD i (0, 0))).head?).map Prod.snd).getD enZ)
     rw [hgD, G.eq]
     obtain ⟨d0, hd0⟩ : ∃ d0, ds[g.1]? = some d0 := ⟨_, List.getElem?_eq_getElem (by omega)⟩
     obtain ⟨k0, hk0⟩ : ∃ k0, lv[g.1]? = some k0 := ⟨_, List.getElem?_eq_getElem (by omega)⟩
     have e1 : (seg ds g).head? = some d0 := by
      unfold seg
      rw [List.head?_drop, List.getElem?_take_of_lt hgm.2.1, hd0]
     have e2 : (seg lv g).head? = some k0 := by
      unfold seg
      rw [List.head?_drop, List.getElem?_take_of_lt hgm.2.1, hk0]
     rw [G.eq] at e2
     have e3 : c0 = k0 := by simpa using e2
     have e4 := hhd g.1 d0 k0 hd0 hk0
     cases hsd : seg ds g with
     | nil => rw [hsd] at e1; cases e1
     | cons c r =>
       rw [hsd] at e1
       have e5 : c = d0 := by simpa using e1
       subst e5; subst e3
       rw [List.map_cons, List.flatten_cons]
       cases hL : c.L with
       | nil => rw [hL] at e4; cases e4
       | cons y t => rw [hL] at e4; simpa using e4
   · rw [List.map_map]
     have e : (List.range gs.length).map (Nd.L ∘ nd) = gs.map fun g => ((seg ds g).map Nd.L).flatten := by
      rw [← range_getD gs (0, 0) fun g => ((seg ds g).map Nd.L).flatten]; rfl
     have := flat2 Nd.L (gs.map (seg ds))
     rw [List.map_map, hcov, S.L] at this
     rw [e]; exact this
   · rw [hP]
     refine hperm.nodup_iff.2 ?_
     rw [List.nodup_append]
     exact ⟨I.nodup, S.nodup, fun a ha b hb' e => hold b hb' (e ▸ ha)⟩
   · intro p hp
     rw [hP] at hp
     rcases List.mem_append.1 (hperm.mem_iff.1 hp) with h1 | h1
     · exact ⟨(hfree p h1).2, .inl (hfree p h1).1⟩
     · exact ⟨I.up p (hmk p h1), .inr h1⟩
   · rw [hP, hperm.length_eq, List.length_append, hpl]
     congr 1
     unfold inLv
     rw [List.length_map, List.length_range]
 · cases hi
end
end Go.Proofs.YtebobcbaloddaaaGreat
namespace Go.Proofs.YtebobcbaloddaaaGreat
section
set_option linter.unusedSimpArgs false
set_option linter.unusedVariables false
open Go.RowKit Go.Maps
theorem freeN_mark : ∀ (T : List Bool) (i : Nat), T[i]? = some false → freeN (T.set i true) + 1 = freeN T
 | [], i, h => by simp at h
 | b :: t, 0, h => by
   simp at h
   subst h
   simp [freeN]
 | b :: t, i + 1, h => by
   have h1 := freeN_mark t i (by simpa using h)
   unfold freeN at h1 ⊢
   cases b <;> simp [List.filter_cons] at h1 ⊢ <;> omega
theorem freeN_full {T : List Bool} (h : ∀ j : Nat, j < T.length → T[j]? = some true) : freeN T = 0 := by
 unfold freeN
 rw [List.length_eq_zero_iff, List.filter_eq_nil_iff]
 intro b hb
 obtain ⟨j, hj⟩ := List.getElem?_of_mem hb
 have := h j (lt_of_at hj)
 rw [hj] at this
 injection this with this
 rw [this]; simp
theorem tk_free (T : List Bool) : ∀ k, if (tkP k T).2.2 then freeN (tkP k T).2.1 + k = freeN T else freeN T < k
 | 0 => by simp [tkP]
 | k + 1 => by
   have ih := tk_free T k
   unfold tkP
   by_cases ho : (tkP k T).2.2 = true
   · rw [if_pos ho] at ih ⊢
     cases hf : freeI (tkP k T).2.1 with
     | some i =>
       obtain ⟨f1, _, _⟩ := freeI_some hf
       have := freeN_mark _ i f1
       show if true = true then freeN ((tkP k T).2.1.set i true) + (k + 1) = freeN T else _
       rw [if_pos rfl]; omega
     | none =>
       have := freeN_full (freeI_none hf)
       show if false = true then _ else freeN T < k + 1
       rw [if_neg (by decide)]; omega
   · rw [if_neg ho] at ih
     rw [if_neg ho, if_neg ho]; omega
theorem inP_keep (lv : List Kd) (ps : List (List UInt8)) (T : List Bool) : (inP' lv ps T).1.length = ps.length ∧ (inP' lv ps T).2.1.length = T.length ∧ ∀ p : Nat, T[p]? = some true → (inP' lv ps T).1[p]? = ps[p]? ∧ (inP' lv ps T).2.1[p]? = some true := by
 have I := tkI T (ptL fC lv).length
 unfold inP'
 split
 · rename_i hbk
   refine ⟨?_, I.len, fun p hp => ⟨?_, I.up p hp⟩⟩
   · show (inK _ _ _ _ _).length = _
     rw [inK_wr, wrK_len]
   · show (inK _ _ _ _ _)[p]? = _
     rw [inK_wr]
     refine wrK_far _ _ _ _ _ (by rw [I.full hbk]; exact Nat.le_refl _) fun hm => ?_
     obtain ⟨i, hi⟩ := List.getElem?_of_mem hm
     have := (I.at_ i p hi).1
     rw [hp] at this; cases this
 · exact ⟨rfl, I.len, fun p hp => ⟨rfl, I.up p hp⟩⟩
theorem lfP_keep (l : List En) (ps : List (List UInt8)) (T : List Bool) : (lfP l ps T).1.length = ps.length ∧ (lfP l ps T).2.1.length = T.length ∧ ∀ p : Nat, T[p]? = some true → (lfP l ps T).1[p]? = ps[p]? ∧ (lfP l ps T).2.1[p]? = some true := by
 have I := tkI T (ptL fE l).length
 unfold lfP
 split
 · rename_i hbk
   refine ⟨?_, I.len, fun p hp => ⟨?_, I.up p hp⟩⟩
   · show (lfK _ _ _ _ _).length = _
     rw [lfK_wr, wrK_len]
   · show (lfK _ _ _ _ _)[p]? = _
     rw [lfK_wr]
     refine wrK_far _ _ _ _ _ (by rw [I.full hbk]; exact Nat.le_refl _) fun hm => ?_
     obtain ⟨i, hi⟩ := List.getElem?_of_mem hm
     have := (I.at_ i p hi).1
     rw [hp] at this; cases this
 · exact ⟨rfl, I.len, fun p hp => ⟨rfl, I.up p hp⟩⟩
theorem inP_free (lv : List Kd) (ps : List (List UInt8)) (T : List Bool) : match (inP' lv ps T).2.2 with | some lv' => freeN (inP' lv ps T).2.1 + lv'.length = freeN T | none => freeN T < (ptL fC lv).length := by
 have := tk_free T (ptL fC lv).length
 unfold inP'
 by_cases hbk : (tkP (ptL fC lv).length T).2.2 = true
 · rw [if_pos hbk] at this ⊢
   simp only [inLv_len]; exact this
 · rw [if_neg hbk] at this ⊢
   exact this
theorem lfP_free (l : List En) (ps : List (List UInt8)) (T : List Bool) : match (lfP l ps T).2.2 with | some lv' => freeN (lfP l ps T).2.1 + lv'.length = freeN T | none => freeN T < (ptL fE l).length := by
 have := tk_free T (ptL fE l).length
 unfold lfP
 by_cases hbk : (tkP (ptL fE l).length T).2.2 = true
 · rw [if_pos hbk] at this ⊢
   simp only [lfLv_len]; exact this
 · rw [if_neg hbk] at this ⊢
   exact this
structure BdOk (ps : List (List UInt8)) (T : List Bool) (old : List Nat) (c : Nat) (l : List En) (R : Bd) : Prop where
 len : R.1.length = ps.length
 lent : R.2.1.length = T.length
 keep : ∀ p : Nat, p ∉ old → T[p]? = some true → R.1[p]? = ps[p]? ∧ R.2.1[p]? = some true
 ok : ∀ root, R.2.2 = some root → ∃ h d, 1 ≤ h ∧ h ≤ 12 ∧ Sub R.1 h d 0 ∧ d.p = root ∧ d.L = l ∧ d.P.Nodup ∧ ∀ p ∈ d.P, R.2.1[p]? = some true ∧ (T[p]? = some false ∨ p ∈ old)
 no : R.2.2 = none → freeN T < c
theorem up_ok {n : Nat} {l : List En} (hr : riseP l) : ∀ (f h : Nat) (lv : List Kd) (ds : List Nd) (ps : List (List UInt8)) (T : List Bool), LvS ps (h + 1) l lv ds → LvOk n lv → n = ps.length → T.length = ps.length → ps.length ≤ 10000 → (∀ p ∈ (ds.map Nd.P).flatten, T[p]? = some true) → lv.length ≤ f → lv.length * 2 ^ h ≤ 4095 →
 BdOk ps T ((ds.map Nd.P).flatten) lv.length l (upP f (ps, T, some lv))
 | 0, h, lv, ds, ps, T, S, O, hn, hT, hb, hm, hf, hh => by have := O.pos; omega
 | f + 1, h, lv, ds, ps, T, S, O, hn, hT, hb, hm, hf, hh => by
   have hp1 := O.pos
   have h12 : h < 12 := by
    by_cases hc : h < 12
    · exact hc
    · have h1 : 2 ^ 12 ≤ 2 ^ h := Nat.pow_le_pow_right (by omega) (by omega)
      have h2 : 1 * 2 ^ h ≤ lv.length * 2 ^ h := Nat.mul_le_mul_right _ hp1
      have h3 : (2 : Nat) ^ 12 = 4096 := by decide
      omega
   unfold upP
   by_cases h1 : lv.length ≤ 1
   · rw [if_pos h1]
     have hdl : ds.length = lv.length := by have := congrArg List.length S.fst; simpa using this
     obtain ⟨c, rfl⟩ : ∃ c, lv = [c] := by
      match lv, hp1, h1 with
      | [c], _, _ => exact ⟨c, rfl⟩
     obtain ⟨d, rfl⟩ : ∃ d, ds = [d] := by
      match ds, hdl with
      | [d], _ => exact ⟨d, rfl⟩
     have e1 := S.fst
     have e2 := S.L
     have e3 := S.nodup
     simp only [List.map_cons, List.map_nil, List.flatten_cons, List.flatten_nil, List.append_nil, List.cons.injEq, and_true] at e1 e2 e3 hm
     refine ⟨rfl, rfl, fun p _ hp => ⟨rfl, hp⟩, fun root hroot => ?_, fun hno => by cases hno⟩
     simp only [List.head?_cons, Option.map_some, Option.getD_some, Option.some.injEq] at hroot
     refine ⟨h + 1, d, by omega, by omega, S.chn.1, by rw [e1, hroot], e2, e3, fun p hp => ⟨hm p hp, .inr (by simpa using hp)⟩⟩
   · rw [if_neg h1]
     have hK := inP_keep lv ps T
     have hF := inP_free lv ps T
     have hgs := gs_half O.may (by omega)
     have hstep := fun lv' => in_sub (lv' := lv') (n := n) (lv := lv) (ds := ds) (ps := ps) (T := T) S hr O (by omega) hn hT hb hm
     have hok := fun lv' => inOk (n := n) (l := lv) O (by omega) (ps := ps) (T := T) (by omega) (lv := lv')
     generalize inP' lv ps T = R at *
     obtain ⟨ps', T', r⟩ := R
     simp only at *
     cases r with
     | none =>
       have e : upP f (ps', T', none) = (ps', T', none) := by cases f <;> rfl
       rw [e]
       exact ⟨hK.1, hK.2.1, fun p _ hp => hK.2.2 p hp, fun root hroot => (by cases hroot), fun _ => by simp only at hF; omega⟩
     | some lv' =>
       simp only at hF
       obtain ⟨ds', S', hP', _⟩ := hstep lv' rfl
       obtain ⟨O', hl'⟩ := hok lv' rfl
       have hpw : lv'.length * 2 ^ (h + 1) ≤ 4095 := by
        rw [Nat.pow_succ]
        have h3 : 2 * lv'.length * 2 ^ h ≤ lv.length * 2 ^ h := Nat.mul_le_mul_right _ (by omega)
        have h4 : lv'.length * (2 ^ h * 2) = 2 * lv'.length * 2 ^ h := by rw [← Nat.mul_assoc, Nat.mul_comm, ← Nat.mul_assoc]
        omega
       have ih := up_ok hr f (h + 1) lv' ds' ps' T' S' O' (by omega) (by omega) (by omega) (fun p hp => (hP' p hp).1) (by omega) hpw
       refine ⟨by rw [ih.len]; exact hK.1, by rw [ih.lent]; exact hK.2.1, fun p hp hT1 => ?_, fun root hroot => ?_, fun hno => ?_⟩
       · have hk := hK.2.2 p hT1
         have hp' : p ∉ (ds'.map Nd.P).flatten := fun hm' => by
          rcases (hP' p hm').2 with h2 | h2
          · rw [hT1] at h2; cases h2
          · exact hp h2
         have := ih.keep p hp' hk.2
         exact ⟨this.1.trans hk.1, this.2⟩
       · obtain ⟨h', d, a1, a2, a3, a4, a5, a6, a7⟩ := ih.ok root hroot
         refine ⟨h', d, a1, a2, a3, a4, a5, a6, fun p hp => ⟨(a7 p hp).1, ?_⟩⟩
         rcases (a7 p hp).2 with h2 | h2
         · left
           cases hTp : T[p]? with
           | none =>
             have := lt_of_at h2
             rw [List.getElem?_eq_none_iff] at hTp; omega
           | some b =>
             cases b with
             | false => rfl
             | true => rw [(hK.2.2 p hTp).2] at h2; cases h2
         · exact (hP' p h2).2
       · have := ih.no hno
         omega
theorem bd_ok {l : List En} {ps : List (List UInt8)} {T : List Bool} (hm : mayEn l = true) (hok : ∀ e ∈ l, e.ok) (hT : T.length = ps.length) (hb : ps.length ≤ 4095) : BdOk ps T [] (2 * l.length + 2) l (bdP l ps T) := by
 have hr : riseP l := (rise_iff l).1 (by rw [may_both, Bool.and_eq_true] at hm; exact hm.2)
 unfold bdP
 have hK := lfP_keep l ps T
 have hF := lfP_free l ps T
 have hgs := gs_le hm
 have hstep := fun lv => lf_sub (lv := lv) hm hok hT (by omega)
 have hok' := fun lv => lfOk (ps := ps) (T := T) (lv := lv) hm hok
 generalize lfP l ps T = R at *
 obtain ⟨ps', T', r⟩ := R
 simp only at *
 cases r with
 | none =>
   have e : upP (l.length + 2) (ps', T', none) = (ps', T', none) := rfl
   rw [e]
   exact ⟨hK.1, hK.2.1, fun p _ hp => hK.2.2 p hp, fun root hroot => (by cases hroot), fun _ => by simp only at hF; omega⟩
 | some lv =>
   simp only at hF
   obtain ⟨ds, S, hP⟩ := hstep lv rfl
   obtain ⟨O, hl⟩ := hok' lv rfl
   have hfr : freeN T ≤ T.length := by unfold freeN; exact List.length_filter_le _ _
   have ih := up_ok hr (l.length + 2) 0 lv ds ps' T' S O (by omega) (by omega) (by omega) (fun p hp => (hP p hp).2) (by omega) (by omega)
   refine ⟨by rw [ih.len]; exact hK.1, by rw [ih.lent]; exact hK.2.1, fun p hp hT1 => ?_, fun root hroot => ?_, fun hno => ?_⟩
   · have hk := hK.2.2 p hT1
     have hp' : p ∉ (ds.map Nd.P).flatten := fun hm' => by
      have := (hP p hm').1
      rw [hT1] at this; cases this
     have := ih.keep p hp' hk.2
     exact ⟨this.1.trans hk.1, this.2⟩
   · obtain ⟨h', d, a1, a2, a3, a4, a5, a6, a7⟩ := ih.ok root hroot
     refine ⟨h', d, a1, a2, a3, a4, a5, a6, fun p hp => ⟨(a7 p hp).1, ?_⟩⟩
     rcases (a7 p hp).2 with h2 | h2
     · left
       cases hTp : T[p]? with
       | none =>
         have := lt_of_at h2
         rw [List.getElem?_eq_none_iff] at hTp; omega
       | some b =>
         cases b with
         | false => rfl
         | true => rw [(hK.2.2 p hTp).2] at h2; cases h2
     · exact .inl (hP p h2).1
   · have := ih.no hno
     omega
end
end Go.Proofs.YtebobcbaloddaaaGreat
namespace Go.Proofs.YtebobcbaloddaaaGreat
section
set_option linter.unusedSimpArgs false
set_option linter.unusedVariables false
open Go.RowKit Go.Maps
structure S11 where
 A : Option Addr
 n : Nat
 c : Nat
@[reducible] def S11.v (s : S11) : Value := .slice s.A s.n s.c
end
end Go.Proofs.YtebobcbaloddaaaGreat
namespace Go.Proofs.YtebobcbaloddaaaGreat
section
set_option linter.unusedSimpArgs false
set_option linter.unusedVariables false
open Go.RowKit Go.Maps
theorem take_notin' {α : Type} {l : List α} {k : Nat} {x p : α} (hx : l[k]? = some x) (h1 : p ∉ l.take k) (h2 : x ≠ p) : p ∉ l.take (k + 1) := by
 have : l.take (k + 1) = l.take k ++ [x] := by rw [List.take_add_one, hx]; rfl
 rw [this]
 simp only [List.mem_append, List.mem_singleton, not_or]
 exact ⟨h1, fun e => h2 e.symm⟩
theorem bytes_same {a b : ByteArray} (h : (a.toList == b.toList) = true) : a = b := by
 have h1 : a.toList = b.toList := eq_of_beq h
 rw [ByteArray.toList_eq, ByteArray.toList_eq] at h1
 obtain ⟨⟨la⟩⟩ := a
 obtain ⟨⟨lb⟩⟩ := b
 simp only at h1
 rw [h1]
set_option maxRecDepth 100000 in
set_option maxHeartbeats 1000000 in
theorem hasE_any (A : Option Addr) (n c : Nat) (l : List En) (x : En) (w : World) (hr : Reads w w.heap.size 3 A n (vE l)) (hn : n ≤ 1000000) :
 Calls Tryz.prog 13 #[.slice A n c, x.agg] w fun e w' => (∃ b : Bool, e = .returned (.bool b) ∧ (b = true ↔ x ∈ l)) ∧ Below w.heap.size w w' := by
 have hnI : (n : Int) ≤ 1000000 := by omega
 have hl : l.length = n := by have := hr.1; rw [vE_len] at this; omega
 have Hl := Lib.hid hl; clear hl
 obtain ⟨s, p, q⟩ := x
 have hX : Blk (w.alloc (.cells #[.string s, .int .u32 p, .int .u16 q] 37)) w.heap.size 37 #[.string s, .int .u32 p, .int .u16 q] := Blk.new _ _ _
 have hb0 : Below w.heap.size w (w.alloc (.cells #[.string s, .int .u32 p, .int .u16 q] 37)) := ball (Below.refl _ _) _
 go_enter Tryz.func13, Tryz.ntmps13
 go_wp2
 generalize (w.alloc (.cells #[.string s, .int .u32 p, .int .u16 q] 37)) = w1 at *
 go_loopw [8] (fun v wr => ∃ k : Nat, v = .int .i64 k ∧ k ≤ n ∧ (⟨s, p, q⟩ : En) ∉ l.take k ∧ Below w1.heap.size w1 wr) (fun v _ => n - (intOf v).toNat)
 case atStart => exact ⟨0, rfl, by omega, by simp, Below.refl _ _⟩
 case round =>
  obtain ⟨k, rfl, hk, hz, hb⟩ := hrel
  have g1 : (0 : Int) ≤ (k : Int) := by omega
  have Hz := Lib.hid hz; clear hz
  have hbw := bto0 hb0 hb
  have HB := Lib.hid hbw
  have Hw := Lib.hid hb
  have X1 := hX.below hb hX.lt
  have x0 : wr.cell? ⟨w.heap.size, 0, none⟩ = some (.string s) := X1.cell 0
  have x1 : wr.cell? ⟨w.heap.size, 1, none⟩ = some (.int .u32 p) := X1.cell 1
  have x2 : wr.cell? ⟨w.heap.size, 2, none⟩ = some (.int .u16 q) := X1.cell 2
  by_cases hki : k < n
  · have g2 : (k : Int) < (n : Int) := by omega
    obtain ⟨ad, v, rfl, _, hx, d0, d1, d2⟩ := (hr.below hbw).ent hki
    have Hx := Lib.hid hx
    clear hx hbw hb X1 hr hX hb0
    obtain ⟨vk, vi, vs⟩ := v
    simp only at d0 d1 d2
    by_cases he : (⟨vk, vi, vs⟩ : En) = ⟨s, p, q⟩
    · have Hm := Lib.hid (show (⟨s, p, q⟩ : En) ∈ l by rw [← he]; exact List.mem_of_getElem? Hx.out)
      injection he with e1 e2 e3
      subst e1; subst e2; subst e3
      clear Hx
      go_wp2
      go_quiet (fail)
      go_wp2
      go_ret
      exact ⟨⟨true, rfl, by simp [Hm.out]⟩, bdr HB.out _⟩
    · have He := Lib.hid he
      obtain ⟨b1, e1, c1⟩ : ∃ b : Bool, (vk.toList == s.toList) = b ∧ (b = true → vk = s) := ⟨_, rfl, bytes_same⟩
      obtain ⟨b2, e2, c2⟩ : ∃ b : Bool, (vi == p) = b ∧ (b = true → vi = p) := ⟨_, rfl, fun h => by simpa using h⟩
      obtain ⟨b3, e3, c3⟩ : ∃ b : Bool, (vs == q) = b ∧ (b = true → vs = q) := ⟨_, rfl, fun h => by simpa using h⟩
      have hno : (b1 && b2 && b3) = false := by
       cases hq : (b1 && b2 && b3) with
       | false => rfl
       | true =>
         simp only [Bool.and_eq_true] at hq
         exact absurd (by rw [c1 hq.1.1, c2 hq.1.2, c3 hq.2]) he
      clear he c1 c2 c3
      cases b1 <;> cases b2 <;> cases b3
      all_goals first
       | (exfalso; revert hno; decide)
       | (clear hno
          go_wp2
          go_quiet (fail)
          go_wp2
          go_roundw
          case rel => exact ⟨k + 1, by go_num, by omega, take_notin' Hx.out Hz.out He.out, bdr Hw.out _⟩
          case measure => simp [intOf]; omega)
  · obtain rfl : n = k := by omega
    have e1 : l.take n = l := List.take_of_length_le (by rw [Hl.out]; exact Nat.le_refl _)
    have h2 := Hz.out
    rw [e1] at h2
    have H2 := Lib.hid h2; clear h2 e1
    go_wp2
    go_ret
    exact ⟨⟨false, rfl, by simp [H2.out]⟩, HB.out⟩
end
end Go.Proofs.YtebobcbaloddaaaGreat
namespace Go.Proofs.YtebobcbaloddaaaGreat
section
set_option linter.unusedSimpArgs false
set_option linter.unusedVariables false
open Go.RowKit Go.Maps
theorem cmpE_zero {a b : En} (h : cmpE a b = 0) : a = b := by
 unfold cmpE at h
 rw [orL3] at h
 split at h
 · rename_i h1
   split at h
   · rename_i h2
     have e1 := cb_zero h1
     have e2 := (cmpI_zero _ _).1 h2
     have e3 := (cmpI_zero _ _).1 h
     obtain ⟨⟨⟨sa⟩⟩, pa, qa⟩ := a
     obtain ⟨⟨⟨sb⟩⟩, pb, qb⟩ := b
     simp only at e1 e2 e3
     rw [e1, e2, e3]
   · rename_i h2; exact absurd h h2
 · rename_i h1; exact absurd h h1
def withP : List En → En → List En
 | [], x => [x]
 | y :: r, x => if lessE x y then x :: y :: r else y :: withP r x
theorem with_mem {x z : En} : ∀ {l : List En}, z ∈ withP l x ↔ z = x ∨ z ∈ l
 | [] => by simp [withP]
 | y :: r => by
   unfold withP
   split
   · simp
   · rw [List.mem_cons, with_mem, List.mem_cons]
     constructor
     · rintro (h | h | h)
       · exact .inr (.inl h)
       · exact .inl h
       · exact .inr (.inr h)
     · rintro (h | h | h)
       · exact .inr (.inl h)
       · exact .inl h
       · exact .inr (.inr h)
theorem with_len {x : En} : ∀ l : List En, (withP l x).length = l.length + 1
 | [] => rfl
 | y :: r => by
   unfold withP
   split
   · rfl
   · rw [List.length_cons, with_len, List.length_cons]
theorem with_rise {x : En} : ∀ {l : List En}, riseP l → x ∉ l → riseP (withP l x)
 | [], _, _ => List.pairwise_singleton _ _
 | y :: r, h, hx => by
   have h1 := List.pairwise_cons.1 h
   rw [List.mem_cons, not_or] at hx
   unfold withP
   split
   · rename_i hl
     rw [lessE_cmp, decide_eq_true_eq] at hl
     refine List.pairwise_cons.2 ⟨fun z hz => ?_, h⟩
     rcases List.mem_cons.1 hz with rfl | hz
     · exact hl
     · exact cmpE_lt_trans hl (h1.1 z hz)
   · rename_i hl
     rw [lessE_cmp, decide_eq_true_eq] at hl
     have h0 : cmpE x y ≠ 0 := fun e => hx.1 (cmpE_zero e)
     have h2 : cmpE y x < 0 := by have := cmpE_swap x y; omega
     refine List.pairwise_cons.2 ⟨fun z hz => ?_, with_rise h1.2 hx.2⟩
     rcases with_mem.1 hz with rfl | hz
     · exact h2
     · exact h1.1 z hz
instance : DecidableEq En := fun a b => if h : cmpE a b = 0 then .isTrue (cmpE_zero h) else .isFalse fun e => h (by rw [e]; exact cmpE_self b)
def stepP (out : List En) (x : En) : List En := if x.s.size ≤ 200 ∧ x ∉ out then withP out x else out
def sortP (l : List En) : List En := (l.take 400).foldl stepP []
structure SrtOk (n : Nat) (l out : List En) : Prop where
 rise : riseP out
 small : ∀ x ∈ out, x.s.size ≤ 200
 mem : ∀ x ∈ out, x ∈ l
 len : out.length ≤ n
theorem step_ok {n : Nat} {l out : List En} {x : En} (h : SrtOk n l out) (hx : x ∈ l) : SrtOk (n + 1) l (stepP out x) := by
 unfold stepP
 split
 · rename_i hc
   refine ⟨with_rise h.rise hc.2, fun z hz => ?_, fun z hz => ?_, by rw [with_len]; have := h.len; omega⟩
   · rcases with_mem.1 hz with rfl | hz
     · exact hc.1
     · exact h.small z hz
   · rcases with_mem.1 hz with rfl | hz
     · exact hx
     · exact h.mem z hz
 · exact ⟨h.rise, h.small, h.mem, by have := h.len; omega⟩
theorem fold_ok {l : List En} : ∀ (t : List En) (n : Nat) (out : List En), SrtOk n l out → (∀ x ∈ t, x ∈ l) → SrtOk (n + t.length) l (t.foldl stepP out)
 | [], _, _, h, _ => h
 | x :: t, n, out, h, ht => by
   have := fold_ok t (n + 1) (stepP out x) (step_ok h (ht x (by simp))) fun z hz => ht z (by simp [hz])
   rw [List.foldl_cons, List.length_cons, show n + (t.length + 1) = n + 1 + t.length from by omega]
   exact this
theorem sort_ok (l : List En) : SrtOk 400 l (sortP l) := by
 have := fold_ok (l := l) (l.take 400) 0 [] ⟨List.Pairwise.nil, fun x hx => (by cases hx), fun x hx => (by cases hx), Nat.le_refl _⟩ fun x hx => List.mem_of_mem_take hx
 exact ⟨this.rise, this.small, this.mem, Nat.le_trans this.len (by rw [List.length_take]; omega)⟩
theorem sort_may (l : List En) : mayEn (sortP l) = true := by
 have h := sort_ok l
 rw [may_both, Bool.and_eq_true]
 refine ⟨?_, (rise_iff _).2 h.rise⟩
 unfold smallB
 simp only [List.all_eq_true, decide_eq_true_eq]
 exact h.small
end
end Go.Proofs.YtebobcbaloddaaaGreat
namespace Go.Proofs.YtebobcbaloddaaaGreat
section
set_option linter.unusedSimpArgs false
set_option linter.unusedVariables false
open Go.RowKit Go.Maps
def cutV (w : Nat) (sz : List Nat) (i : Nat) : Nat := max (sz.take i).sum (sz.sum - (sz.take i).sum - ((sz.drop i).take w).sum)
def cutF (w : Nat) (sz : List Nat) : Nat → Nat × Nat
 | 0 => (0, sz.sum + 1)
 | i + 1 => if 0 < i ∧ cutV w sz i < (cutF w sz i).2 then (i, cutV w sz i) else cutF w sz i
def cutP (w : Nat) (sz : List Nat) : Nat := (cutF w sz (sz.length - w)).1
theorem cutF_ok (w : Nat) (sz : List Nat) : ∀ i : Nat, ((cutF w sz i).1 = 0 ∧ (cutF w sz i).2 = sz.sum + 1 ∨ 0 < (cutF w sz i).1 ∧ (cutF w sz i).1 < i ∧ (cutF w sz i).2 = cutV w sz (cutF w sz i).1) ∧ ∀ j : Nat, 0 < j → j < i → (cutF w sz i).2 ≤ cutV w sz j
 | 0 => ⟨.inl ⟨rfl, rfl⟩, fun j h1 h2 => by omega⟩
 | i + 1 => by
   obtain ⟨h1, h2⟩ := cutF_ok w sz i
   unfold cutF
   split
   · rename_i hc
     refine ⟨.inr ⟨hc.1, Nat.lt_succ_self _, rfl⟩, fun j hj hji => ?_⟩
     by_cases e : j = i
     · subst e; exact Nat.le_refl _
     · have := h2 j hj (by omega)
       simp only; omega
   · rename_i hc
     refine ⟨h1.imp id fun h => ⟨h.1, by omega, h.2.2⟩, fun j hj hji => ?_⟩
     by_cases e : j = i
     · subst e
       have : ¬ cutV w sz j < (cutF w sz j).2 := fun h => hc ⟨hj, h⟩
       omega
     · exact h2 j hj (by omega)
theorem take_le (sz : List Nat) (i : Nat) : (sz.take i).sum ≤ sz.sum := by
 have := congrArg List.sum (List.take_append_drop i sz)
 rw [List.sum_append] at this
 omega
theorem cutV_le (w : Nat) (sz : List Nat) (i : Nat) : cutV w sz i ≤ sz.sum := by
 have := take_le sz i
 unfold cutV
 omega
theorem cut_ok {w : Nat} {sz : List Nat} {j M : Nat} (hj : 0 < j) (hj2 : j < sz.length - w) (hv : cutV w sz j ≤ M) : 0 < cutP w sz ∧ cutP w sz < sz.length - w ∧ cutV w sz (cutP w sz) ≤ M := by
 obtain ⟨h1, h2⟩ := cutF_ok w sz (sz.length - w)
 have h3 := h2 j hj hj2
 have h4 := cutV_le w sz j
 unfold cutP
 rcases h1 with ⟨_, h⟩ | ⟨a, b, c⟩
 · omega
 · exact ⟨a, b, by omega⟩
theorem first_of (p : Nat → Prop) [DecidablePred p] : ∀ n : Nat, p n → ∃ j, j ≤ n ∧ p j ∧ ∀ i, i < j → ¬ p i
 | 0, h => ⟨0, Nat.le_refl _, h, fun i hi => by omega⟩
 | n + 1, h => by
   by_cases hn : ∃ i, i ≤ n ∧ p i
   · obtain ⟨i, hi, hp⟩ := hn
     obtain ⟨j, h1, h2, h3⟩ := first_of p i hp
     exact ⟨j, by omega, h2, h3⟩
   · exact ⟨n + 1, Nat.le_refl _, h, fun i hi hp => hn ⟨i, by omega, hp⟩⟩
theorem take_succ_le {sz : List Nat} {B : Nat} (hB : ∀ x ∈ sz, x ≤ B) (i : Nat) : (sz.take (i + 1)).sum ≤ (sz.take i).sum + B := by
 rw [List.take_add_one, List.sum_append]
 cases h : sz[i]? with
 | none => simp
 | some x =>
   have := hB x (List.mem_of_getElem? h)
   simp; omega
theorem sum_len {sz : List Nat} {B : Nat} (hB : ∀ x ∈ sz, x ≤ B) : sz.sum ≤ sz.length * B := by
 induction sz with
 | nil => simp
 | cons a t ih =>
   have h1 := hB a (by simp)
   have h2 := ih fun x hx => hB x (by simp [hx])
   rw [List.sum_cons, List.length_cons, Nat.add_mul]
   omega
theorem cut0 {sz : List Nat} (hB : ∀ x ∈ sz, x ≤ 212) (h1 : 500 < sz.sum) (h2 : sz.sum ≤ 712) : 0 < cutP 0 sz ∧ cutP 0 sz < sz.length ∧ (sz.take (cutP 0 sz)).sum ≤ 500 ∧ (sz.drop (cutP 0 sz)).sum ≤ 500 := by
 obtain ⟨t, ht, hp, hm⟩ := first_of (fun j => sz.sum ≤ (sz.take j).sum + 500) sz.length (by rw [List.take_length]; omega)
 have t0 : 0 < t := by
  rcases Nat.eq_zero_or_pos t with e | e
  · subst e; simp at hp; omega
  · exact e
 have h3 := hm (t - 1) (by omega)
 have h4 := take_succ_le hB (t - 1)
 rw [show t - 1 + 1 = t from by omega] at h4
 have tl : t < sz.length := by
  rcases Nat.lt_or_ge t sz.length with e | e
  · exact e
  · rw [List.take_of_length_le e] at h4; omega
 obtain ⟨a, b, c⟩ := cut_ok (w := 0) (sz := sz) (j := t) (M := 500) t0 (by simpa using tl) (by unfold cutV; simp; omega)
 refine ⟨a, by simpa using b, ?_, ?_⟩
 · unfold cutV at c; omega
 · have e := congrArg List.sum (List.take_append_drop (cutP 0 sz) sz)
   rw [List.sum_append] at e
   unfold cutV at c
   simp at c; omega
theorem cut1 {sz : List Nat} (hB : ∀ x ∈ sz, x ≤ 212) (h1 : 500 < sz.sum) (h2 : sz.sum ≤ 712) : 0 < cutP 1 sz ∧ cutP 1 sz + 1 < sz.length ∧ (sz.take (cutP 1 sz)).sum ≤ 500 ∧ (sz.drop (cutP 1 sz + 1)).sum ≤ 500 := by
 have hl := sum_len hB
 have hstep : ∀ j, j < sz.length → sz.sum - (sz.take j).sum - ((sz.drop j).take 1).sum = sz.sum - (sz.take (j + 1)).sum := fun j hj => by
  have e : (sz.drop j).take 1 = [sz[j]] := by rw [List.drop_eq_getElem_cons hj]; rfl
  rw [e, List.take_add_one, List.getElem?_eq_getElem hj, List.sum_append]
  simp; omega
 obtain ⟨t, ht, hp, hm⟩ := first_of (fun j => sz.sum ≤ (sz.take j).sum + 500) sz.length (by rw [List.take_length]; omega)
 have t0 : 0 < t := by
  rcases Nat.eq_zero_or_pos t with e | e
  · subst e; simp at hp; omega
  · exact e
 have h3 := hm (t - 1) (by omega)
 have h4 := take_succ_le hB (t - 1)
 rw [show t - 1 + 1 = t from by omega] at h4
 have tl : t < sz.length := by
  rcases Nat.lt_or_ge t sz.length with e | e
  · exact e
  · rw [List.take_of_length_le e] at h4; omega
 have key : ∃ j, 0 < j ∧ j < sz.length - 1 ∧ cutV 1 sz j ≤ 500 := by
  by_cases e : t = 1
  · subst e
    refine ⟨1, by omega, by omega, ?_⟩
    have h5 : (sz.take 1).sum ≤ (sz.take 0).sum + 212 := take_succ_le hB 0
    rw [List.take_zero, List.sum_nil] at h5
    have h6 : (sz.take 1).sum ≤ (sz.take 2).sum := by
     rw [List.take_add_one (i := 1), List.sum_append]; omega
    unfold cutV
    rw [hstep 1 (by omega), show 1 + 1 = 2 from rfl]
    omega
  · refine ⟨t - 1, by omega, by omega, ?_⟩
    unfold cutV
    rw [hstep (t - 1) (by omega), show t - 1 + 1 = t from by omega]
    omega
 obtain ⟨j, j1, j2, j3⟩ := key
 obtain ⟨a, b, c⟩ := cut_ok (w := 1) j1 j2 j3
 refine ⟨a, by omega, ?_, ?_⟩
 · unfold cutV at c; omega
 · have e := congrArg List.sum (List.take_append_drop (cutP 1 sz + 1) sz)
   rw [List.sum_append] at e
   unfold cutV at c
   rw [hstep _ (by omega)] at c
   omega
end
end Go.Proofs.YtebobcbaloddaaaGreat
namespace Go.Proofs.YtebobcbaloddaaaGreat
section
set_option linter.unusedSimpArgs false
set_option linter.unusedVariables false
open Go.RowKit Go.Maps
def ndOf (p : Nat) (ds : List Nd) : Nd := ⟨p, (ds.map Nd.L).flatten, p :: (ds.map Nd.P).flatten, (ds.map Nd.f).headD 0, (ds.map Nd.k).sum⟩
def kidL (kids : List Nat) (seps : List En) : List UInt8 := innL (kids.headD 0) (seps.zip kids.tail) seps.length
structure InOk (ps : List (List UInt8)) (h : Nat) (ds : List Nd) (seps : List En) (nx : Nat) : Prop where
 chn : ChnN (Sub ps (h + 1)) ds nx
 sep : SepOk seps 0 ds
 len : ds.length = seps.length + 1
 kid : ∀ d ∈ ds, d.p < 4294967296
 ok : ∀ e ∈ seps, e.ok
 may : mayEn seps = true
 ne : ∀ d ∈ ds, d.L ≠ []
theorem sub_of {ps : List (List UInt8)} {h p nx : Nat} {ds : List Nd} {seps : List En} (H : InOk ps h ds seps nx) (hs : seps ≠ []) (hp : ps[p]? = some (kidL (ds.map Nd.p) seps)) (hf : sumE seps + 4 * seps.length ≤ 500) : Sub ps (h + 2) (ndOf p ds) nx := by
 cases ds with
 | nil => have := H.len; simp at this
 | cons c r =>
   refine ⟨c, r, seps, H.chn, H.sep, ?_, ?_, hp, ?_, H.ok, H.may, hf, rfl, rfl, rfl, rfl, H.ne⟩
   · have := H.len; simpa using this
   · exact fun e => hs (List.eq_nil_of_length_eq_zero e)
   · intro x hx
     obtain ⟨d, hd, rfl⟩ := List.mem_map.1 hx
     exact H.kid d hd
theorem sub_to {ps : List (List UInt8)} {h nx : Nat} {d : Nd} (H : Sub ps (h + 2) d nx) : ∃ ds seps, InOk ps h ds seps nx ∧ seps ≠ [] ∧ ps[d.p]? = some (kidL (ds.map Nd.p) seps) ∧ sumE seps + 4 * seps.length ≤ 500 ∧ d = ndOf d.p ds := by
 obtain ⟨c, ds, seps, hc, hs, hlen, hne, hp, hx, hok, hm, hf, hL, hP, hdf, hk, hnn⟩ := H
 refine ⟨c :: ds, seps, ⟨hc, hs, by simpa using hlen, fun d hd => hx d.p (List.mem_map_of_mem hd), hok, hm, hnn⟩, fun e => hne (by rw [e]; rfl), hp, hf, ?_⟩
 obtain ⟨p, L, P, f, k⟩ := d
 simp only at hL hP hdf hk
 subst hL; subst hP; subst hdf; subst hk
 rfl
theorem kidL_page {ps : List (List UInt8)} {h nx : Nat} {ds : List Nd} {seps : List En} (H : InOk ps h ds seps nx) (hs : seps ≠ []) (hf : sumE seps + 4 * seps.length ≤ 500) :
 rdPg (kidL (ds.map Nd.p) seps) = some (.inner ((ds.map Nd.p).headD 0) (seps.zip (ds.map Nd.p).tail)) ∧ (seps.zip (ds.map Nd.p).tail).map Prod.fst = seps ∧ (ds.map Nd.p).headD 0 :: (seps.zip (ds.map Nd.p).tail).map Prod.snd = ds.map Nd.p := by
 cases ds with
 | nil => have := H.len; simp at this
 | cons c r =>
   have hl := H.len
   simp only [List.length_cons] at hl
   refine ⟨?_, ?_, ?_⟩
   · refine rdPg_inner c.p (r.map Nd.p) seps (by simp; omega) (fun e => hs (List.eq_nil_of_length_eq_zero e)) ?_ H.ok H.may hf
     intro x hx
     rcases List.mem_cons.1 hx with rfl | hx
     · exact H.kid c (by simp)
     · obtain ⟨d, hd, rfl⟩ := List.mem_map.1 hx
       exact H.kid d (by simp [hd])
   · exact zip_fst (by simp; omega)
   · show c.p :: (seps.zip (r.map Nd.p)).map Prod.snd = _
     rw [zip_snd (by simp; omega)]; rfl
theorem sepOk_at {seps : List En} : ∀ {ds : List Nd} {i : Nat}, SepOk seps i ds ↔ ∀ (j : Nat) (d : Nd), ds[j]? = some d → ∀ x ∈ d.L, (∀ s, 0 < i + j → seps[i + j - 1]? = some s → 0 ≤ cmpE x s) ∧ (∀ s, seps[i + j]? = some s → cmpE x s < 0)
 | [], i => ⟨fun _ j d hd => by simp at hd, fun _ => trivial⟩
 | c :: r, i => by
   constructor
   · rintro ⟨h1, h2⟩ j d hd
     cases j with
     | zero =>
       simp only [List.getElem?_cons_zero, Option.some.injEq] at hd
       subst hd
       simpa using h1
     | succ j =>
       rw [List.getElem?_cons_succ] at hd
       have := sepOk_at.1 h2 j d hd
       rw [show i + (j + 1) = i + 1 + j from by omega]
       exact this
   · intro h
     refine ⟨by have := h 0 c rfl; simpa using this, sepOk_at.2 fun j d hd => ?_⟩
     have := h (j + 1) d (by simpa using hd)
     rw [show i + (j + 1) = i + 1 + j from by omega] at this
     exact this
theorem ChnN.iff_at {S : Nd → Nat → Prop} : ∀ {ds : List Nd} {nx : Nat}, ChnN S ds nx → ∀ (i : Nat) (d : Nd), ds[i]? = some d → S d ((ds[i + 1]?.map Nd.f).getD nx)
 | [], _, _, i, d, hd => by simp at hd
 | c :: r, nx, h, 0, d, hd => by
   simp only [List.getElem?_cons_zero, Option.some.injEq] at hd
   subst hd
   have := h.1
   cases r with
   | nil => simpa using this
   | cons e r => simpa using this
 | c :: r, nx, h, i + 1, d, hd => by
   have := ChnN.iff_at h.2 i d (by simpa using hd)
   simpa using this
theorem chN_at {seps : List En} (hr : riseP seps) (x : En) : chN seps x ≤ seps.length ∧ (∀ (j : Nat) (s : En), seps[j]? = some s → j < chN seps x → cmpE s x ≤ 0) ∧ (∀ (j : Nat) (s : En), seps[j]? = some s → chN seps x ≤ j → 0 < cmpE s x) := by
 induction seps with
 | nil => exact ⟨Nat.le_refl _, fun j s h => by simp at h, fun j s h => by simp at h⟩
 | cons a t ih =>
   have hr' := List.pairwise_cons.1 hr
   obtain ⟨h1, h2, h3⟩ := ih hr'.2
   have e : chN (a :: t) x = chN t x + if cmpE a x ≤ 0 then 1 else 0 := by
    unfold chN
    rw [List.countP_cons]
    simp
   by_cases ha : cmpE a x ≤ 0
   · rw [if_pos ha] at e
     rw [e]
     refine ⟨by rw [List.length_cons]; omega, fun j s hs hj => ?_, fun j s hs hj => ?_⟩
     · cases j with
       | zero => simp at hs; rw [← hs]; exact ha
       | succ j => exact h2 j s (by simpa using hs) (by omega)
     · cases j with
       | zero => omega
       | succ j => exact h3 j s (by simpa using hs) (by omega)
   · rw [if_neg ha] at e
     have hz : chN t x = 0 := by
      unfold chN
      rw [List.countP_eq_zero]
      intro s hs
      have h4 := hr'.1 s hs
      simp only [decide_eq_true_eq]
      intro h5
      have h6 : cmpE a x < 0 := by
       by_cases h0 : cmpE s x = 0
       · rw [cmpE_zero h0] at h4; exact h4
       · exact cmpE_lt_trans h4 (by omega)
      omega
     rw [e, hz]
     refine ⟨by omega, fun j s hs hj => by omega, fun j s hs hj => ?_⟩
     cases j with
     | zero => simp at hs; rw [← hs]; omega
     | succ j => exact h3 j s (by simpa using hs) (by omega)
theorem with_app1 {x : En} : ∀ (a b : List En), (∀ y ∈ a, lessE x y = false) → withP (a ++ b) x = a ++ withP b x
 | [], _, _ => rfl
 | y :: a, b, h => by
   show withP (y :: (a ++ b)) x = y :: (a ++ withP b x)
   rw [withP, if_neg (by rw [h y (by simp)]; simp), with_app1 a b fun z hz => h z (by simp [hz])]
theorem with_app2 {x : En} : ∀ (b c : List En), (∀ y ∈ c, lessE x y = true) → withP (b ++ c) x = withP b x ++ c
 | [], [], _ => rfl
 | [], y :: c, h => by
   show withP (y :: c) x = [x] ++ y :: c
   rw [withP, if_pos (h y (by simp))]; rfl
 | y :: b, c, h => by
   show withP (y :: (b ++ c)) x = withP (y :: b) x ++ c
   unfold withP
   split
   · rfl
   · rw [with_app2 b c h]; rfl
end
end Go.Proofs.YtebobcbaloddaaaGreat
namespace Go.Proofs.YtebobcbaloddaaaGreat
section
set_option linter.unusedSimpArgs false
set_option linter.unusedVariables false
open Go.RowKit Go.Maps
inductive Stt
 | done (wr : List (Nat × List UInt8)) (T : List Bool)
 | up (wr : List (Nat × List UInt8)) (T : List Bool) (sep : En) (q : Nat)
 | no (T : List Bool)
structure Fr11 where
 p : Nat
 kids : List Nat
 seps : List En
 i : Nat
def insI {α : Type} (l : List α) (i : Nat) (x : α) : List α := l.take i ++ x :: l.drop i
def lfSz (l : List En) : List Nat := l.map fun e => 8 + e.s.size
def inSz (l : List En) : List Nat := l.map fun e => 12 + e.s.size
def leafSt (p N : Nat) (es : List En) (T : List Bool) : Stt :=
 if sumE es ≤ 504 then .done [(p, leafL N es)] T
 else match freeI T with
  | none => .no T
  | some q => .up [(p, leafL q (es.take (cutP 0 (lfSz es)))), (q, leafL N (es.drop (cutP 0 (lfSz es))))] (T.set q true) ((es.drop (cutP 0 (lfSz es))).headD enZ) q
def frSt (f : Fr11) : Stt → Stt
 | .done wr T => .done wr T
 | .no T => .no T
 | .up wr T sep q =>
   if sumE (insI f.seps f.i sep) + 4 * (insI f.seps f.i sep).length ≤ 500 then .done (wr ++ [(f.p, kidL (insI f.kids (f.i + 1) q) (insI f.seps f.i sep))]) T
   else match freeI T with
    | none => .no T
    | some q' => .up (wr ++ [(f.p, kidL ((insI f.kids (f.i + 1) q).take (cutP 1 (inSz (insI f.seps f.i sep)) + 1)) ((insI f.seps f.i sep).take (cutP 1 (inSz (insI f.seps f.i sep))))), (q', kidL ((insI f.kids (f.i + 1) q).drop (cutP 1 (inSz (insI f.seps f.i sep)) + 1)) ((insI f.seps f.i sep).drop (cutP 1 (inSz (insI f.seps f.i sep)) + 1)))]) (T.set q' true) ((insI f.seps f.i sep).getD (cutP 1 (inSz (insI f.seps f.i sep))) enZ) q'
def wayP (ps : List (List UInt8)) : Nat → Nat → En → Option (List Fr11 × Nat × Nat × List En)
 | 0, _, _ => none
 | f + 1, p, x => match ps[p]? with
   | none => none
   | some q => match rdPg q with
     | none => none
     | some (.leaf N es) => some ([], p, N, es)
     | some (.inner c0 prs) => (wayP ps f ((c0 :: prs.map Prod.snd).getD (chN (prs.map Prod.fst) x) 0) x).map fun r => (r.1 ++ [⟨p, c0 :: prs.map Prod.snd, prs.map Prod.fst, chN (prs.map Prod.fst) x⟩], r.2)
def wrA (ps : List (List UInt8)) (wr : List (Nat × List UInt8)) : List (List UInt8) := wr.foldl (fun ps w => ps.set w.1 w.2) ps
theorem wrA_app (ps : List (List UInt8)) (a b : List (Nat × List UInt8)) : wrA ps (a ++ b) = wrA (wrA ps a) b := by unfold wrA; rw [List.foldl_append]
theorem wrA_len : ∀ (wr : List (Nat × List UInt8)) (ps : List (List UInt8)), (wrA ps wr).length = ps.length
 | [], _ => rfl
 | w :: r, ps => by
   show (wrA (ps.set w.1 w.2) r).length = _
   rw [wrA_len r, List.length_set]
theorem wrA_far : ∀ (wr : List (Nat × List UInt8)) (ps : List (List UInt8)) (p : Nat), (∀ w ∈ wr, w.1 ≠ p) → (wrA ps wr)[p]? = ps[p]?
 | [], _, _, _ => rfl
 | w :: r, ps, p, h => by
   show (wrA (ps.set w.1 w.2) r)[p]? = _
   rw [wrA_far r _ p fun v hv => h v (by simp [hv]), List.getElem?_set_ne (h w (by simp))]
structure PgOk (T T' : List Bool) (P P' : List Nat) : Prop where
 len : T'.length = T.length
 nodup : P'.Nodup
 old : ∀ p ∈ P', p ∈ P ∨ T[p]? = some false
 tru : ∀ p ∈ P', T'[p]? = some true
 up : ∀ p : Nat, T[p]? = some true → T'[p]? = some true
 only : ∀ p : Nat, T'[p]? = some true → T[p]? = some true ∨ p ∈ P'
 cnt : freeN T' + P'.length = freeN T + P.length
theorem PgOk.perm {T T' : List Bool} {P P' P'' : List Nat} (h : PgOk T T' P P') (hp : P'.Perm P'') : PgOk T T' P P'' :=
 ⟨h.len, hp.nodup_iff.1 h.nodup, fun p hp' => h.old p (hp.mem_iff.2 hp'), fun p hp' => h.tru p (hp.mem_iff.2 hp'), h.up, fun p hp' => (h.only p hp').imp id hp.mem_iff.1, by rw [← hp.length_eq]; exact h.cnt⟩
theorem PgOk.refl {T : List Bool} {P : List Nat} (hn : P.Nodup) (ht : ∀ p ∈ P, T[p]? = some true) : PgOk T T P P := ⟨rfl, hn, fun p h => .inl h, ht, fun _ h => h, fun _ h => .inl h, rfl⟩
theorem PgOk.take {T T' : List Bool} {P P' : List Nat} {q : Nat} (h : PgOk T T' P P') (hq : freeI T' = some q) : PgOk T (T'.set q true) P (q :: P') ∧ q ∉ P' ∧ q < T.length ∧ T[q]? = some false := by
 obtain ⟨f1, f2, f3⟩ := freeI_some hq
 have hqP : q ∉ P' := fun hm => by have := h.tru q hm; rw [f1] at this; cases this
 have hTq : T[q]? = some false := by
  cases hT : T[q]? with
  | none => have := List.getElem?_eq_none_iff.1 hT; rw [h.len] at f2; omega
  | some b =>
    cases b
    · rfl
    · have := h.up q hT; rw [f1] at this; cases this
 refine ⟨⟨by rw [List.length_set, h.len], List.nodup_cons.2 ⟨hqP, h.nodup⟩, fun p hp => ?_, fun p hp => ?_, fun p hp => ?_, fun p hp => ?_, ?_⟩, hqP, by rw [← h.len]; exact f2, hTq⟩
 · rcases List.mem_cons.1 hp with rfl | hp
   · exact .inr hTq
   · exact h.old p hp
 · rcases List.mem_cons.1 hp with rfl | hp
   · rw [List.getElem?_set_self f2]
   · rw [List.getElem?_set_ne (fun e => hqP (by rw [e]; exact hp))]; exact h.tru p hp
 · by_cases e : q = p
   · subst e; rw [List.getElem?_set_self f2]
   · rw [List.getElem?_set_ne e]; exact h.up p hp
 · by_cases e : q = p
   · subst e; exact .inr (by simp)
   · rw [List.getElem?_set_ne e] at hp
     exact (h.only p hp).imp id fun h => List.mem_cons_of_mem _ h
 · have h1 := freeN_mark T' q f1
   have h2 := h.cnt
   rw [List.length_cons]; omega
def InsOk (ps : List (List UInt8)) (T : List Bool) (h : Nat) (d : Nd) (nx : Nat) (x : En) : Stt → Prop
 | .done wr T' => ∃ d', Sub (wrA ps wr) h d' nx ∧ d'.p = d.p ∧ d'.f = d.f ∧ d'.L = withP d.L x ∧ PgOk T T' d.P d'.P ∧ ∀ w ∈ wr, w.1 ∈ d'.P
 | .up wr T' sep q => ∃ d1 d2, Sub (wrA ps wr) h d1 d2.f ∧ Sub (wrA ps wr) h d2 nx ∧ d1.p = d.p ∧ d1.f = d.f ∧ d2.p = q ∧ q < ps.length ∧ d1.L ++ d2.L = withP d.L x ∧ d1.L ≠ [] ∧ d2.L ≠ [] ∧ (∀ y ∈ d1.L, cmpE y sep < 0) ∧ (∀ y ∈ d2.L, 0 ≤ cmpE y sep) ∧ sep.ok ∧ sep.s.size ≤ 200 ∧ PgOk T T' d.P (d1.P ++ d2.P) ∧ (∀ w ∈ wr, w.1 ∈ d1.P ++ d2.P) ∧ freeN T ≤ freeN T' + h
 | .no T' => freeN T < h ∧ T'.length = T.length ∧ ∀ p : Nat, T[p]? = some true → T'[p]? = some true
theorem sumE_with (l : List En) (x : En) : sumE (withP l x) = sumE l + (8 + x.s.size) := by
 induction l with
 | nil => simp [withP, sumE]
 | cons y r ih =>
   unfold withP
   split
   · simp [sumE]; omega
   · have : sumE (y :: withP r x) = (8 + y.s.size) + sumE (withP r x) := by simp [sumE]
     rw [this, ih]
     simp [sumE]; omega
theorem may_parts {l : List En} : mayEn l = true ↔ (∀ e ∈ l, e.s.size ≤ 200) ∧ riseP l := by
 rw [may_both, Bool.and_eq_true]
 unfold smallB
 simp only [List.all_eq_true, decide_eq_true_eq]
 rw [rise_iff]
theorem leaf_ins {ps : List (List UInt8)} {T : List Bool} {d : Nd} {nx : Nat} {x : En} (hx : x.ok) (hxs : x.s.size ≤ 200) (hs : Sub ps 1 d nx) (hT : T.length = ps.length) (hb : ps.length ≤ 4095) (hm : ∀ p ∈ d.P, T[p]? = some true) (hn : x ∉ d.L) :
 InsOk ps T 1 d nx x (leafSt d.p nx (withP d.L x) T) := by
 obtain ⟨hp, hnx, hok, hmay, hf, hP, hdf, hk⟩ := hs
 have hdp := lt_of_at hp
 obtain ⟨m1, m2⟩ := may_parts.1 hmay
 have hes : riseP (withP d.L x) := with_rise m2 hn
 have hsm : ∀ e ∈ withP d.L x, e.s.size ≤ 200 := fun e he => by
  rcases with_mem.1 he with rfl | he
  · exact hxs
  · exact m1 e he
 have hokk : ∀ e ∈ withP d.L x, e.ok := fun e he => by
  rcases with_mem.1 he with rfl | he
  · exact hx
  · exact hok e he
 have hsum := sumE_with d.L x
 obtain ⟨es, hE⟩ : ∃ es, withP d.L x = es := ⟨_, rfl⟩
 rw [hE] at hes hsm hokk hsum ⊢
 have P0 : PgOk T T d.P d.P := PgOk.refl (by rw [hP]; simp) hm
 unfold leafSt
 split
 · rename_i hfit
   refine ⟨{ d with L := es }, ⟨?_, hnx, hokk, may_parts.2 ⟨hsm, hes⟩, hfit, hP, hdf, hk⟩, rfl, rfl, hE.symm, P0, fun w hw => ?_⟩
   · show (ps.set d.p (leafL nx es))[d.p]? = _
     rw [List.getElem?_set_self hdp]
   · rw [List.mem_singleton] at hw
     subst hw
     show d.p ∈ d.P
     rw [hP]; simp
 · rename_i hfit
   cases hq : freeI T with
   | none =>
     refine ⟨?_, rfl, fun _ h => h⟩
     have := freeN_full (freeI_none hq)
     omega
   | some q =>
     obtain ⟨P1, hqP, hql, hqT⟩ := P0.take hq
     have hqd : q ≠ d.p := fun e => hqP (by rw [hP, e]; simp)
     have hsz : (lfSz es).sum = sumE es := rfl
     obtain ⟨c1, c2, c3, c4⟩ := cut0 (sz := lfSz es) (fun y hy => by
      obtain ⟨e, he, rfl⟩ := List.mem_map.1 hy
      have := hsm e he; omega) (by rw [hsz]; omega) (by rw [hsz]; omega)
     have hlen : (lfSz es).length = es.length := by simp [lfSz]
     rw [hlen] at c2
     have e3 : ((lfSz es).take (cutP 0 (lfSz es))).sum = sumE (es.take (cutP 0 (lfSz es))) := by unfold sumE; rw [List.map_take]; rfl
     have e4 : ((lfSz es).drop (cutP 0 (lfSz es))).sum = sumE (es.drop (cutP 0 (lfSz es))) := by unfold sumE; rw [List.map_drop]; rfl
     rw [e3] at c3
     rw [e4] at c4
     generalize cutP 0 (lfSz es) = k at *
     clear e3 e4
     have hsp := List.take_append_drop k es
     have hes' := hes
     rw [← hsp] at hes'
     have hpw := List.pairwise_append.1 hes'
     cases hd : es.drop k with
     | nil => have := congrArg List.length hd; rw [List.length_drop, List.length_nil] at this; omega
     | cons s r =>
       rw [hd] at hpw c4 hsp
       have hmt : ∀ e ∈ es.take k, e ∈ es := fun e he => List.mem_of_mem_take he
       have hmd : ∀ e ∈ s :: r, e ∈ es := fun e he => List.mem_of_mem_drop (by rw [hd]; exact he)
       have hsw := List.pairwise_cons.1 hpw.2.1
       refine ⟨⟨d.p, es.take k, [d.p], d.f, 1⟩, ⟨q, s :: r, [q], q, 1⟩, ⟨?_, ?_, fun e he => hokk e (hmt e he), may_parts.2 ⟨fun e he => hsm e (hmt e he), hpw.1⟩, by show sumE (es.take k) ≤ 504; omega, rfl, hdf, rfl⟩, ⟨?_, hnx, fun e he => hokk e (hmd e he), may_parts.2 ⟨fun e he => hsm e (hmd e he), hpw.2.1⟩, by show sumE (s :: r) ≤ 504; omega, rfl, rfl, rfl⟩, rfl, rfl, rfl, by omega, by rw [← hE] at hsp; rw [hE] at hsp ⊢; exact hsp, ?_, by simp, fun y hy => hpw.2.2 y hy s (by simp), fun y hy => ?_, hokk s (hmd s (by simp)), hsm s (hmd s (by simp)), ?_, fun w hw => ?_, by have := freeN_mark T q (freeI_some hq).1; omega⟩
       · show ((ps.set d.p (leafL q (es.take k))).set q (leafL nx (s :: r)))[d.p]? = _
         rw [List.getElem?_set_ne hqd, List.getElem?_set_self hdp]
       · show q < 4294967296; omega
       · show ((ps.set d.p (leafL q (es.take k))).set q (leafL nx (s :: r)))[q]? = _
         rw [List.getElem?_set_self (by rw [List.length_set]; omega)]
       · intro e
         have := congrArg List.length e
         rw [List.length_take, List.length_nil] at this
         omega
       · show 0 ≤ cmpE y s
         rcases List.mem_cons.1 hy with e | hy
         · rw [e, cmpE_self]; exact Int.le_refl 0
         · have h1 := hsw.1 y hy
           have h2 := cmpE_swap s y
           omega
       · show PgOk T (T.set q true) d.P ([d.p] ++ [q])
         refine P1.perm ?_
         rw [hP]
         exact List.Perm.swap d.p q []
       · show w.1 ∈ [d.p] ++ [q]
         simp only [List.mem_cons, List.not_mem_nil, or_false] at hw
         rcases hw with rfl | rfl <;> simp
end
end Go.Proofs.YtebobcbaloddaaaGreat
namespace Go.Proofs.YtebobcbaloddaaaGreat
section
set_option linter.unusedSimpArgs false
set_option linter.unusedVariables false
open Go.RowKit Go.Maps
theorem ChnN.join {S : Nd → Nat → Prop} : ∀ {a b : List Nd} {nx : Nat}, ChnN S a ((b.map Nd.f).headD nx) → ChnN S b nx → ChnN S (a ++ b) nx
 | [], _, _, _, h => h
 | c :: r, b, nx, h, k => by
   refine ⟨?_, ChnN.join h.2 k⟩
   have := h.1
   cases r with
   | nil => exact this
   | cons e r => exact this
theorem le_lt {a b c : En} (h : cmpE a b ≤ 0) (k : cmpE b c < 0) : cmpE a c < 0 := by
 by_cases e : cmpE a b = 0
 · rw [cmpE_zero e]; exact k
 · exact cmpE_lt_trans (by omega) k
theorem lt_le {a b c : En} (h : cmpE a b < 0) (k : cmpE b c ≤ 0) : cmpE a c < 0 := by
 by_cases e : cmpE b c = 0
 · rw [← cmpE_zero e]; exact h
 · exact cmpE_lt_trans h (by omega)
theorem rise_at {l : List En} (h : riseP l) {i j : Nat} {a b : En} (hij : i < j) (ha : l[i]? = some a) (hb : l[j]? = some b) : cmpE a b < 0 := by
 have hi := lt_of_at ha
 have hj := lt_of_at hb
 have := (List.pairwise_iff_getElem.1 h) i j hi hj hij
 rw [List.getElem?_eq_getElem hi] at ha
 rw [List.getElem?_eq_getElem hj] at hb
 injection ha with ha
 injection hb with hb
 rw [← ha, ← hb]; exact this
theorem sep_strong {seps : List En} {ds : List Nd} (hr : riseP seps) (H : SepOk seps 0 ds) (hle : ds.length ≤ seps.length + 1) {i : Nat} {d : Nd} (hd : ds[i]? = some d) {y : En} (hy : y ∈ d.L) : (∀ (j : Nat) (s : En), seps[j]? = some s → j < i → cmpE s y ≤ 0) ∧ (∀ (j : Nat) (s : En), seps[j]? = some s → i ≤ j → 0 < cmpE s y) := by
 obtain ⟨h1, h2⟩ := sepOk_at.1 H i d hd y hy
 rw [Nat.zero_add] at h1 h2
 constructor
 · intro j s hs hj
   by_cases e : j = i - 1
   · subst e
     have := h1 s (by omega) hs
     have := cmpE_swap s y
     omega
   · have hdi := lt_of_at hd
     by_cases hl : i - 1 < seps.length
     · have h3 := h1 _ (by omega) (List.getElem?_eq_getElem hl)
       have h4 := rise_at hr (show j < i - 1 by omega) hs (List.getElem?_eq_getElem hl)
       have h5 := cmpE_swap (seps[i - 1]) y
       have := lt_le h4 (show cmpE (seps[i - 1]) y ≤ 0 by omega)
       omega
     · have := lt_of_at hs
       omega
 · intro j s hs hj
   by_cases e : j = i
   · subst e
     have := h2 s hs
     have := cmpE_swap s y
     omega
   · have hl : i < seps.length := by have := lt_of_at hs; omega
     have h3 := h2 _ (List.getElem?_eq_getElem hl)
     have h4 := rise_at hr (show i < j by omega) (List.getElem?_eq_getElem hl) hs
     have h5 := cmpE_lt_trans h3 h4
     have h6 := cmpE_swap s y
     omega
theorem mid_at {α : Type} (a b : List α) (x : α) (j : Nat) : (a ++ x :: b)[j]? = if j < a.length then a[j]? else if j = a.length then some x else b[j - a.length - 1]? := by
 rw [List.getElem?_append]
 split
 · rfl
 · rename_i h
   by_cases e : j = a.length
   · rw [if_pos e, e]; simp
   · rw [if_neg e]
     obtain ⟨k, hk⟩ : ∃ k, j - a.length = k + 1 := ⟨j - a.length - 1, by omega⟩
     rw [hk, List.getElem?_cons_succ]; rfl
theorem insI_at {α : Type} (l : List α) (i : Nat) (x : α) (hi : i ≤ l.length) (j : Nat) : (insI l i x)[j]? = if j < i then l[j]? else if j = i then some x else l[j - 1]? := by
 unfold insI
 have hl : (l.take i).length = i := by rw [List.length_take]; omega
 rw [mid_at, hl]
 split
 · rename_i h; rw [List.getElem?_take, if_pos h]
 · rename_i h
   split
   · rfl
   · rename_i h2
     rw [List.getElem?_drop]
     congr 1; omega
theorem insI_len {α : Type} (l : List α) (i : Nat) (x : α) (hi : i ≤ l.length) : (insI l i x).length = l.length + 1 := by
 unfold insI; rw [List.length_append, List.length_cons, List.length_take, List.length_drop]; omega
theorem insI_mem {α : Type} {l : List α} {i : Nat} {x y : α} : y ∈ insI l i x ↔ y = x ∨ y ∈ l := by
 unfold insI
 rw [List.mem_append, List.mem_cons]
 constructor
 · rintro (h | h | h)
   · exact .inr (List.mem_of_mem_take h)
   · exact .inl h
   · exact .inr (List.mem_of_mem_drop h)
 · rintro (h | h)
   · exact .inr (.inl h)
   · have := List.take_append_drop i l
     rw [← this] at h
     rcases List.mem_append.1 h with h | h
     · exact .inl h
     · exact .inr (.inr h)
theorem sumE_ins (l : List En) (i : Nat) (x : En) : sumE (insI l i x) = sumE l + (8 + x.s.size) := by
 have e := congrArg sumE (List.take_append_drop i l)
 have ha : ∀ a b : List En, sumE (a ++ b) = sumE a + sumE b := fun a b => by simp [sumE]
 have hc : ∀ (a : En) (b : List En), sumE (a :: b) = (8 + a.s.size) + sumE b := fun a b => by simp [sumE]
 unfold insI
 rw [ha] at e
 rw [ha, hc]; omega
theorem insI_mid {α β : Type} (f : α → β) (pre post : List α) (d d2 : α) : insI ((pre ++ d :: post).map f) (pre.length + 1) (f d2) = (pre ++ d :: d2 :: post).map f := by
 unfold insI
 have e : (pre ++ d :: post).map f = (pre.map f ++ [f d]) ++ post.map f := by simp
 have hl : (pre.map f ++ [f d]).length = pre.length + 1 := by simp
 rw [e, ← hl, List.take_left, List.drop_left]
 simp
theorem may_ins {seps : List En} {i : Nat} {s : En} (hm : mayEn seps = true) (hi : i ≤ seps.length) (hs : s.s.size ≤ 200) (h1 : ∀ (j : Nat) (a : En), seps[j]? = some a → j < i → cmpE a s < 0) (h2 : ∀ (j : Nat) (a : En), seps[j]? = some a → i ≤ j → cmpE s a < 0) : mayEn (insI seps i s) = true := by
 obtain ⟨m1, m2⟩ := may_parts.1 hm
 refine may_parts.2 ⟨fun e he => ?_, ?_⟩
 · rcases insI_mem.1 he with rfl | he
   · exact hs
   · exact m1 e he
 · unfold insI
   have m3 := m2
   rw [← List.take_append_drop i seps] at m3
   obtain ⟨p1, p2, p3⟩ := List.pairwise_append.1 m3
   have ht : ∀ a ∈ seps.take i, cmpE a s < 0 := fun a ha => by
    obtain ⟨j, hj⟩ := List.getElem?_of_mem ha
    have hl := lt_of_at hj
    rw [List.length_take] at hl
    rw [List.getElem?_take, if_pos (by omega)] at hj
    exact h1 j a hj (by omega)
   have hd : ∀ a ∈ seps.drop i, cmpE s a < 0 := fun a ha => by
    obtain ⟨j, hj⟩ := List.getElem?_of_mem ha
    rw [List.getElem?_drop] at hj
    exact h2 (i + j) a hj (by omega)
   refine List.pairwise_append.2 ⟨p1, List.pairwise_cons.2 ⟨hd, p2⟩, fun a ha b hb => ?_⟩
   rcases List.mem_cons.1 hb with rfl | hb
   · exact ht a ha
   · exact p3 a ha b hb
theorem inOk_mid {ps ps' : List (List UInt8)} {h nx : Nat} {pre post mid : List Nd} {di c : Nd} {r : List Nd} {seps seps' : List En} (H : InOk ps h (pre ++ di :: post) seps nx) (hfar : ∀ d ∈ pre ++ post, ∀ p ∈ d.P, ps'[p]? = ps[p]?)
 (hmid : ChnN (Sub ps' (h + 1)) mid ((post.map Nd.f).headD nx)) (hc : mid = c :: r) (hcf : c.f = di.f) (hsep : SepOk seps' 0 (pre ++ mid ++ post)) (hlen : (pre ++ mid ++ post).length = seps'.length + 1) (hkid : ∀ d ∈ mid, d.p < 4294967296) (hok : ∀ e ∈ seps', e.ok) (hmay : mayEn seps' = true) (hne : ∀ d ∈ mid, d.L ≠ []) :
 InOk ps' h (pre ++ mid ++ post) seps' nx := by
 have H1 := H.chn.app
 refine ⟨?_, hsep, hlen, fun d hd => ?_, hok, hmay, fun d hd => ?_⟩
 · rw [List.append_assoc]
   refine ChnN.join ?_ (ChnN.join hmid (H1.2.2.mono fun d hd nx' hs => sub_frame (h + 1) d nx' hs fun p hp => hfar d (List.mem_append_right _ hd) p hp))
   subst hc
   have e : ((((c :: r) ++ post).map Nd.f).headD nx) = (((di :: post).map Nd.f).headD nx) := by simp [hcf]
   rw [e]
   exact H1.1.mono fun d hd nx' hs => sub_frame (h + 1) d nx' hs fun p hp => hfar d (List.mem_append_left _ hd) p hp
 · rcases List.mem_append.1 hd with hd | hd
   · rcases List.mem_append.1 hd with hd | hd
     · exact H.kid d (by simp [hd])
     · exact hkid d hd
   · exact H.kid d (by simp [hd])
 · rcases List.mem_append.1 hd with hd | hd
   · rcases List.mem_append.1 hd with hd | hd
     · exact H.ne d (by simp [hd])
     · exact hne d hd
   · exact H.ne d (by simp [hd])
theorem PgOk.ctx {T T' : List Bool} {A P P' B : List Nat} (h : PgOk T T' P P') (hn : (A ++ P ++ B).Nodup) (hm : ∀ p ∈ A ++ P ++ B, T[p]? = some true) : PgOk T T' (A ++ P ++ B) (A ++ P' ++ B) := by
 have hA : ∀ p ∈ A, T[p]? = some true := fun p hp => hm p (by simp [hp])
 have hB : ∀ p ∈ B, T[p]? = some true := fun p hp => hm p (by simp [hp])
 rw [List.nodup_append, List.nodup_append] at hn
 obtain ⟨⟨n1, n2, n3⟩, n4, n5⟩ := hn
 have hA' : ∀ a ∈ A, ∀ b ∈ P', a ≠ b := fun a ha b hb e => by
  subst e
  rcases h.old a hb with k | k
  · exact n3 a ha a k rfl
  · rw [hA a ha] at k; cases k
 have hB' : ∀ a ∈ P', ∀ b ∈ B, a ≠ b := fun a ha b hb e => by
  subst e
  rcases h.old a ha with k | k
  · exact n5 a (List.mem_append_right _ k) a hb rfl
  · rw [hB a hb] at k; cases k
 refine ⟨h.len, ?_, fun p hp => ?_, fun p hp => ?_, h.up, fun p hp => ?_, ?_⟩
 · rw [List.nodup_append, List.nodup_append]
   refine ⟨⟨n1, h.nodup, hA'⟩, n4, fun a ha b hb => ?_⟩
   rcases List.mem_append.1 ha with ha | ha
   · exact n5 a (List.mem_append_left _ ha) b hb
   · exact hB' a ha b hb
 · simp only [List.mem_append] at hp ⊢
   rcases hp with (hp | hp) | hp
   · exact .inl (.inl (.inl hp))
   · exact (h.old p hp).imp (fun k => .inl (.inr k)) id
   · exact .inl (.inr hp)
 · simp only [List.mem_append] at hp
   rcases hp with (hp | hp) | hp
   · exact h.up p (hA p hp)
   · exact h.tru p hp
   · exact h.up p (hB p hp)
 · exact (h.only p hp).imp id fun k => by simp [k]
 · have := h.cnt
   simp only [List.length_append]
   omega
theorem inOk_cut {ps : List (List UInt8)} {h nx k : Nat} {ds : List Nd} {seps : List En} {s : En} (H : InOk ps h ds seps nx) (hk : 0 < k) (hk2 : k + 1 < seps.length) (hs : seps[k]? = some s) :
 InOk ps h (ds.take (k + 1)) (seps.take k) (((ds.drop (k + 1)).map Nd.f).headD nx) ∧ InOk ps h (ds.drop (k + 1)) (seps.drop (k + 1)) nx ∧ (∀ d ∈ ds.take (k + 1), ∀ y ∈ d.L, cmpE y s < 0) ∧ (∀ d ∈ ds.drop (k + 1), ∀ y ∈ d.L, 0 ≤ cmpE y s) := by
 obtain ⟨m1, m2⟩ := may_parts.1 H.may
 have hl := H.len
 have hc := H.chn
 rw [← List.take_append_drop (k + 1) ds] at hc
 have hc' := hc.app
 have hS := sepOk_at.1 H.sep
 refine ⟨⟨hc'.1, sepOk_at.2 fun j d hd y hy => ?_, ?_, fun d hd => H.kid d (List.mem_of_mem_take hd), fun e he => H.ok e (List.mem_of_mem_take he), may_parts.2 ⟨fun e he => m1 e (List.mem_of_mem_take he), List.Pairwise.sublist (List.take_sublist _ _) m2⟩, fun d hd => H.ne d (List.mem_of_mem_take hd)⟩,
  ⟨hc'.2, sepOk_at.2 fun j d hd y hy => ?_, ?_, fun d hd => H.kid d (List.mem_of_mem_drop hd), fun e he => H.ok e (List.mem_of_mem_drop he), may_parts.2 ⟨fun e he => m1 e (List.mem_of_mem_drop he), List.Pairwise.sublist (List.drop_sublist _ _) m2⟩, fun d hd => H.ne d (List.mem_of_mem_drop hd)⟩, fun d hd y hy => ?_, fun d hd y hy => ?_⟩
 · have hj := lt_of_at hd
   rw [List.length_take] at hj
   rw [List.getElem?_take, if_pos (by omega)] at hd
   obtain ⟨a, b⟩ := hS j d hd y hy
   rw [Nat.zero_add] at a b ⊢
   refine ⟨fun t h1 h2 => ?_, fun t h2 => ?_⟩
   · have hlt := lt_of_at h2
     rw [List.length_take] at hlt
     rw [List.getElem?_take, if_pos (by omega)] at h2
     exact a t h1 h2
   · have hlt := lt_of_at h2
     rw [List.length_take] at hlt
     rw [List.getElem?_take, if_pos (by omega)] at h2
     exact b t h2
 · rw [List.length_take, List.length_take]; omega
 · rw [List.getElem?_drop] at hd
   obtain ⟨a, b⟩ := hS _ d hd y hy
   rw [Nat.zero_add] at a b ⊢
   refine ⟨fun t h1 h2 => ?_, fun t h2 => ?_⟩
   · rw [List.getElem?_drop] at h2
     exact a t (by omega) (by rw [show k + 1 + j - 1 = k + 1 + (j - 1) from by omega]; exact h2)
   · rw [List.getElem?_drop] at h2
     exact b t h2
 · rw [List.length_drop, List.length_drop]; omega
 · obtain ⟨j, hj⟩ := List.getElem?_of_mem hd
   have hlt := lt_of_at hj
   rw [List.length_take] at hlt
   rw [List.getElem?_take, if_pos (by omega)] at hj
   have := (sep_strong m2 H.sep (by omega) hj hy).2 k s hs (by omega)
   have := cmpE_swap s y
   omega
 · obtain ⟨j, hj⟩ := List.getElem?_of_mem hd
   rw [List.getElem?_drop] at hj
   have := (sep_strong m2 H.sep (by omega) hj hy).1 k s hs (by omega)
   have := cmpE_swap s y
   omega
end
end Go.Proofs.YtebobcbaloddaaaGreat
namespace Go.Proofs.YtebobcbaloddaaaGreat
section
set_option linter.unusedSimpArgs false
set_option linter.unusedVariables false
open Go.RowKit Go.Maps
def inW (down bound : Bool) (fr k : ByteArray) : Bool := if down = true then (!bound || Op.bytesLess k.toList fr.toList) else !(Op.bytesLess k.toList fr.toList)
def ordW (down : Bool) (l : List En) : List En := if down = true then l.reverse else l
def vis (down bound : Bool) (fr : ByteArray) (l : List En) : List En := (ordW down l).filter fun x => inW down bound fr x.s
def runY (Y : En → Bool) : List En → List En → List En × Bool
 | [], acc => (acc, true)
 | x :: r, acc => if Y x = true then runY Y r (acc ++ [x]) else (acc, false)
theorem runY_app (Y : En → Bool) : ∀ (a b acc : List En), runY Y (a ++ b) acc = if (runY Y a acc).2 = true then runY Y b (runY Y a acc).1 else ((runY Y a acc).1, false)
 | [], b, acc => rfl
 | x :: r, b, acc => by
   rw [List.cons_append, runY, runY]
   by_cases h : Y x = true
   · rw [if_pos h, if_pos h, runY_app Y r b]
   · rw [if_neg h, if_neg h]; rfl
theorem runY_len (Y : En → Bool) : ∀ (a acc : List En), (runY Y a acc).1.length ≤ acc.length + a.length
 | [], acc => by simp [runY]
 | x :: r, acc => by
   rw [runY]
   split
   · have := runY_len Y r (acc ++ [x])
     rw [List.length_append, List.length_singleton] at this
     rw [List.length_cons]; omega
   · simp
theorem vis_len (down bound : Bool) (fr : ByteArray) (l : List En) : (vis down bound fr l).length ≤ l.length := by
 unfold vis
 refine Nat.le_trans (List.length_filter_le _ _) ?_
 unfold ordW
 split <;> simp
theorem vis_flat (down bound : Bool) (fr : ByteArray) (ls : List (List En)) : vis down bound fr ls.flatten = ((if down = true then ls.reverse else ls).map (vis down bound fr)).flatten := by
 cases down with
 | false =>
   simp only [Bool.false_eq_true, if_false]
   unfold vis ordW
   simp only [Bool.false_eq_true, if_false]
   rw [List.filter_flatten]
 | true =>
   simp only [if_true]
   unfold vis ordW
   simp only [if_true]
   rw [List.reverse_flatten, List.filter_flatten, ← List.map_reverse, List.map_map]
   rfl
theorem key_lt {y : En} {fr : ByteArray} (hy : y.ok) (h : cmpE y ⟨fr, 0, 0⟩ < 0) : Op.bytesLess y.s.toList fr.toList = true := by
 obtain ⟨h1, h2, h3⟩ := hy
 have h4 := lessE_cmp y ⟨fr, 0, 0⟩
 rw [decide_eq_true h] at h4
 unfold lessE at h4
 simp only at h4
 split at h4
 · split at h4
   · simp at h4; omega
   · simp at h4; omega
 · exact h4
end
end Go.Proofs.YtebobcbaloddaaaGreat
namespace Go.Proofs.YtebobcbaloddaaaGreat
section
set_option linter.unusedSimpArgs false
set_option linter.unusedVariables false
open Go.RowKit Go.Maps
theorem ndOf_L (p : Nat) (a : List Nd) (d : Nd) (b : List Nd) : (ndOf p (a ++ d :: b)).L = (a.map Nd.L).flatten ++ d.L ++ (b.map Nd.L).flatten := by simp [ndOf]
theorem ndOf_P (p : Nat) (a : List Nd) (d : Nd) (b : List Nd) : (ndOf p (a ++ d :: b)).P = (p :: (a.map Nd.P).flatten) ++ d.P ++ (b.map Nd.P).flatten := by simp [ndOf]
theorem with_mid {seps : List En} {pre post : List Nd} {di : Nd} {x : En} (hr : riseP seps) (H : SepOk seps 0 (pre ++ di :: post)) (hle : (pre ++ di :: post).length = seps.length + 1) (hi : pre.length = chN seps x) :
 withP ((pre.map Nd.L).flatten ++ di.L ++ (post.map Nd.L).flatten) x = (pre.map Nd.L).flatten ++ withP di.L x ++ (post.map Nd.L).flatten := by
 obtain ⟨c1, c2, c3⟩ := chN_at hr x
 have hll : pre.length ≤ seps.length := by omega
 rw [List.append_assoc, with_app1, with_app2, List.append_assoc]
 · intro y hy
   obtain ⟨L, hL, hy⟩ := List.mem_flatten.1 hy
   obtain ⟨d, hd, rfl⟩ := List.mem_map.1 hL
   obtain ⟨j, hj⟩ := List.getElem?_of_mem hd
   have hjl : (pre ++ di :: post)[pre.length + 1 + j]? = some d := by
    rw [mid_at, if_neg (by omega), if_neg (by omega), show pre.length + 1 + j - pre.length - 1 = j from by omega]
    exact hj
   have hb : pre.length < seps.length := by have := lt_of_at hjl; omega
   have h1 := (sep_strong hr H (by omega) hjl hy).1 pre.length _ (List.getElem?_eq_getElem hb) (by omega)
   have h2 := c3 pre.length _ (List.getElem?_eq_getElem hb) (by omega)
   have h3 := cmpE_swap seps[pre.length] x
   rw [lessE_cmp, decide_eq_true_eq]
   exact lt_le (b := seps[pre.length]) (by omega) h1
 · intro y hy
   obtain ⟨L, hL, hy⟩ := List.mem_flatten.1 hy
   obtain ⟨d, hd, rfl⟩ := List.mem_map.1 hL
   obtain ⟨j, hj⟩ := List.getElem?_of_mem hd
   have hjp := lt_of_at hj
   have hjl : (pre ++ di :: post)[j]? = some d := by rw [mid_at, if_pos hjp]; exact hj
   have hb : j < seps.length := by omega
   have h1 := (sep_strong hr H (by omega) hjl hy).2 j _ (List.getElem?_eq_getElem hb) (Nat.le_refl _)
   have h2 := c2 j _ (List.getElem?_eq_getElem hb) (by omega)
   rw [lessE_cmp, decide_eq_false_iff_not]
   have h3 := cmpE_swap seps[j] y
   have h4 := lt_le (a := y) (b := seps[j]) (c := x) (by omega) h2
   have h5 := cmpE_swap x y
   omega
theorem sep_mid {seps : List En} {pre post : List Nd} {di : Nd} {x : En} (hr : riseP seps) (H : SepOk seps 0 (pre ++ di :: post)) (hle : (pre ++ di :: post).length = seps.length + 1) (hi : pre.length = chN seps x) {y : En} (hy : y = x ∨ y ∈ di.L) :
 (∀ (j : Nat) (s : En), seps[j]? = some s → j < pre.length → cmpE s y ≤ 0) ∧ (∀ (j : Nat) (s : En), seps[j]? = some s → pre.length ≤ j → 0 < cmpE s y) := by
 rcases hy with rfl | hy
 · obtain ⟨c1, c2, c3⟩ := chN_at hr y
   rw [hi]; exact ⟨c2, c3⟩
 · have hdi : (pre ++ di :: post)[pre.length]? = some di := by rw [mid_at, if_neg (by omega), if_pos rfl]
   exact sep_strong hr H (by omega) hdi hy
theorem in_sum (l : List En) : (inSz l).sum = sumE l + 4 * l.length := by
 induction l with
 | nil => rfl
 | cons a t ih =>
   have h1 : (inSz (a :: t)).sum = (12 + a.s.size) + (inSz t).sum := by simp [inSz]
   have h2 : sumE (a :: t) = (8 + a.s.size) + sumE t := by simp [sumE]
   rw [h1, ih, h2, List.length_cons]; omega
theorem fr_ins {ps : List (List UInt8)} {T : List Bool} {h p nx : Nat} {pre post : List Nd} {di : Nd} {seps : List En} {x : En} {st : Stt} (hxo : x.ok)
 (H : InOk ps h (pre ++ di :: post) seps nx) (hsn : seps ≠ []) (hp : ps[p]? = some (kidL ((pre ++ di :: post).map Nd.p) seps)) (hf : sumE seps + 4 * seps.length ≤ 500)
 (hT : T.length = ps.length) (hb : ps.length ≤ 4095) (hn : (ndOf p (pre ++ di :: post)).P.Nodup) (hm : ∀ q ∈ (ndOf p (pre ++ di :: post)).P, T[q]? = some true) (hi : pre.length = chN seps x)
 (HI : InsOk ps T (h + 1) di ((post.map Nd.f).headD nx) x st) :
 InsOk ps T (h + 2) (ndOf p (pre ++ di :: post)) nx x (frSt ⟨p, (pre ++ di :: post).map Nd.p, seps, chN seps x⟩ st) := by
 obtain ⟨m1, m2⟩ := may_parts.1 H.may
 have hlen := H.len
 have hpl := lt_of_at hp
 have hile : pre.length ≤ seps.length := by rw [List.length_append, List.length_cons] at hlen; omega
 rw [ndOf_P] at hn hm
 have hwith := with_mid (x := x) m2 H.sep hlen hi
 have hnx : p ∉ (pre.map Nd.P).flatten ++ di.P ++ (post.map Nd.P).flatten := by
  have : ((p :: (pre.map Nd.P).flatten) ++ di.P ++ (post.map Nd.P).flatten) = p :: ((pre.map Nd.P).flatten ++ di.P ++ (post.map Nd.P).flatten) := by simp
  rw [this, List.nodup_cons] at hn
  exact hn.1
 cases st with
 | no T' => obtain ⟨a, b, c⟩ := HI; exact ⟨by omega, b, c⟩
 | done wr T' =>
   obtain ⟨d', h1, h2, h3, h4, h5, h6⟩ := HI
   have hctx := h5.ctx hn hm
   have hfar : ∀ d ∈ pre ++ post, ∀ q ∈ d.P, (wrA ps wr)[q]? = ps[q]? := fun d hd q hq => wrA_far wr ps q fun w hw e => by
    have hq' : q ∈ d'.P := by rw [← e]; exact h6 w hw
    have hnd := hctx.nodup
    rw [List.nodup_append, List.nodup_append] at hnd
    rcases List.mem_append.1 hd with hd | hd
    · exact hnd.1.2.2 q (List.mem_cons_of_mem _ (List.mem_flatten.2 ⟨d.P, List.mem_map_of_mem hd, hq⟩)) q hq' rfl
    · exact hnd.2.2 q (List.mem_append_right _ hq') q (List.mem_flatten.2 ⟨d.P, List.mem_map_of_mem hd, hq⟩) rfl
   have hpp : (wrA ps wr)[p]? = ps[p]? := wrA_far wr ps p fun w hw e => by
    have hnd := hctx.nodup
    rw [List.nodup_append, List.nodup_append] at hnd
    exact hnd.1.2.2 p (by simp) p (by rw [← e]; exact h6 w hw) rfl
   have hmap : (pre ++ d' :: post).map Nd.p = (pre ++ di :: post).map Nd.p := by simp [h2]
   have hsep : SepOk seps 0 (pre ++ [d'] ++ post) := sepOk_at.2 fun j d hd y hy => by
    rw [Nat.zero_add]
    rw [List.append_assoc] at hd
    have hd : (pre ++ d' :: post)[j]? = some d := hd
    rw [mid_at] at hd
    have key : (∀ s, seps[j]? = some s → cmpE y s < 0) ∧ ∀ s, 0 < j → seps[j - 1]? = some s → 0 ≤ cmpE y s := by
     split at hd
     · rename_i hj
       have hd2 : (pre ++ di :: post)[j]? = some d := by rw [mid_at, if_pos hj]; exact hd
       have := sepOk_at.1 H.sep j d hd2 y hy
       rw [Nat.zero_add] at this
       exact ⟨this.2, this.1⟩
     · rename_i hj
       split at hd
       · rename_i hj2
         injection hd with hd
         subst hd
         rw [h4] at hy
         obtain ⟨a, b⟩ := sep_mid m2 H.sep hlen hi (with_mem.1 hy)
         refine ⟨fun s hs => ?_, fun s h0 hs => ?_⟩
         · have := b j s hs (by omega)
           have := cmpE_swap s y
           omega
         · have := a (j - 1) s hs (by omega)
           have := cmpE_swap s y
           omega
       · rename_i hj2
         have hd2 : (pre ++ di :: post)[j]? = some d := by rw [mid_at, if_neg hj, if_neg hj2]; exact hd
         have := sepOk_at.1 H.sep j d hd2 y hy
         rw [Nat.zero_add] at this
         exact ⟨this.2, this.1⟩
    exact ⟨key.2, key.1⟩
   have hdp : d'.p < 4294967296 := by rw [h2]; exact H.kid di (by simp)
   have hnn : d'.L ≠ [] := by rw [h4]; intro e; have := congrArg List.length e; rw [with_len] at this; simp at this
   have K := inOk_mid (ps' := wrA ps wr) (mid := [d']) (c := d') (r := []) (seps' := seps) H hfar ⟨h1, trivial⟩ rfl h3 hsep (by rw [← hlen]; simp) (fun d hd => by rw [List.mem_singleton] at hd; subst hd; exact hdp) H.ok H.may (fun d hd => by rw [List.mem_singleton] at hd; subst hd; exact hnn)
   have e : pre ++ [d'] ++ post = pre ++ d' :: post := by simp
   rw [e] at K
   refine ⟨ndOf p (pre ++ d' :: post), sub_of K hsn (by rw [hpp, hmap]; exact hp) hf, rfl, ?_, ?_, ?_, fun w hw => ?_⟩
   · show ((pre ++ d' :: post).map Nd.f).headD 0 = ((pre ++ di :: post).map Nd.f).headD 0
     cases pre <;> simp [h3]
   · rw [ndOf_L, ndOf_L, hwith, h4]
   · rw [ndOf_P, ndOf_P]; exact hctx
   · rw [ndOf_P]; simp [h6 w hw]
 | up wr T' sep q =>
   obtain ⟨d1, d2, g1, g2, g3, g4, g5, gq, g6, g7, g8, g9, g10, g11, g12, g13, g14, g15⟩ := HI
   have hctx := g13.ctx hn hm
   have hmem : ∀ y, y ∈ d1.L ∨ y ∈ d2.L → y = x ∨ y ∈ di.L := fun y hy => by
    have : y ∈ d1.L ++ d2.L := List.mem_append.2 hy
    rw [g6] at this
    exact with_mem.1 this
   have hfar : ∀ d ∈ pre ++ post, ∀ r ∈ d.P, (wrA ps wr)[r]? = ps[r]? := fun d hd r hr => wrA_far wr ps r fun w hw e => by
    have hq' : r ∈ d1.P ++ d2.P := by rw [← e]; exact g14 w hw
    have hnd := hctx.nodup
    rw [List.nodup_append, List.nodup_append] at hnd
    rcases List.mem_append.1 hd with hd | hd
    · exact hnd.1.2.2 r (List.mem_cons_of_mem _ (List.mem_flatten.2 ⟨d.P, List.mem_map_of_mem hd, hr⟩)) r hq' rfl
    · exact hnd.2.2 r (List.mem_append_right _ hq') r (List.mem_flatten.2 ⟨d.P, List.mem_map_of_mem hd, hr⟩) rfl
   -- the separators
   obtain ⟨y1, hy1⟩ : ∃ y, y ∈ d1.L := List.exists_mem_of_ne_nil _ g7
   obtain ⟨y2, hy2⟩ : ∃ y, y ∈ d2.L := List.exists_mem_of_ne_nil _ g8
   have hlow : ∀ (j : Nat) (a : En), seps[j]? = some a → j < pre.length → cmpE a sep < 0 := fun j a ha hj => le_lt ((sep_mid m2 H.sep hlen hi (hmem y1 (.inl hy1))).1 j a ha hj) (g9 y1 hy1)
   have hhigh : ∀ (j : Nat) (a : En), seps[j]? = some a → pre.length ≤ j → cmpE sep a < 0 := fun j a ha hj => by
    have h1 := (sep_mid m2 H.sep hlen hi (hmem y2 (.inr hy2))).2 j a ha hj
    have h2 := g10 y2 hy2
    have h3 := cmpE_swap y2 sep
    have h4 := cmpE_swap a y2
    exact le_lt (b := y2) (by omega) (by omega)
   have hmay := may_ins H.may hile g12 hlow hhigh
   have hsep : SepOk (insI seps pre.length sep) 0 (pre ++ [d1, d2] ++ post) := sepOk_at.2 fun j d hd y hy => by
    rw [Nat.zero_add]
    rw [List.append_assoc] at hd
    have hd : (pre ++ d1 :: (d2 :: post))[j]? = some d := hd
    rw [mid_at] at hd
    rw [insI_at _ _ _ hile, insI_at _ _ _ hile]
    split at hd
    · rename_i hj
      have hd2 : (pre ++ di :: post)[j]? = some d := by rw [mid_at, if_pos hj]; exact hd
      have := sepOk_at.1 H.sep j d hd2 y hy
      rw [Nat.zero_add] at this
      rw [if_pos hj, if_pos (by omega)]
      exact this
    · rename_i hj
      rw [if_neg hj]
      split at hd
      · rename_i hj2
        injection hd with hd
        subst hd
        rw [if_pos hj2]
        refine ⟨fun s h0 hs => ?_, fun s hs => ?_⟩
        · rw [if_pos (by omega)] at hs
          have := (sep_mid m2 H.sep hlen hi (hmem y (.inl hy))).1 (j - 1) s hs (by omega)
          have := cmpE_swap s y
          omega
        · injection hs with hs
          rw [← hs]; exact g9 y hy
      · rename_i hj2
        rw [if_neg hj2]
        obtain ⟨k, hk⟩ : ∃ k, j = pre.length + 1 + k := ⟨j - pre.length - 1, by omega⟩
        subst hk
        rw [show pre.length + 1 + k - pre.length - 1 = k from by omega] at hd
        cases k with
        | zero =>
          rw [List.getElem?_cons_zero] at hd
          injection hd with hd
          subst hd
          refine ⟨fun s h0 hs => ?_, fun s hs => ?_⟩
          · rw [if_neg (by omega), if_pos (by omega)] at hs
            injection hs with hs
            rw [← hs]; exact g10 y hy
          · rw [show pre.length + 1 + 0 - 1 = pre.length from by omega] at hs
            have := (sep_mid m2 H.sep hlen hi (hmem y (.inr hy))).2 pre.length s hs (Nat.le_refl _)
            have := cmpE_swap s y
            omega
        | succ k =>
          rw [List.getElem?_cons_succ] at hd
          have hd2 : (pre ++ di :: post)[pre.length + 1 + k]? = some d := by
           rw [mid_at, if_neg (by omega), if_neg (by omega), show pre.length + 1 + k - pre.length - 1 = k from by omega]
           exact hd
          have := sepOk_at.1 H.sep _ d hd2 y hy
          rw [Nat.zero_add] at this
          refine ⟨fun s h0 hs => ?_, fun s hs => ?_⟩
          · rw [if_neg (by omega), if_neg (by omega)] at hs
            exact this.1 s (by omega) (by rw [show pre.length + 1 + k - 1 = pre.length + 1 + (k + 1) - 1 - 1 from by omega]; exact hs)
          · exact this.2 s (by rw [show pre.length + 1 + k = pre.length + 1 + (k + 1) - 1 from by omega]; exact hs)
   have hmap : insI ((pre ++ di :: post).map Nd.p) (pre.length + 1) q = (pre ++ d1 :: d2 :: post).map Nd.p := by
    have := insI_mid Nd.p pre post di d2
    rw [g5] at this
    rw [this]
    simp [g3]
   have hq32 : q < 4294967296 := by omega
   have hok' : ∀ e ∈ insI seps pre.length sep, e.ok := fun e he => by
    rcases insI_mem.1 he with rfl | he
    · exact g11
    · exact H.ok e he
   have hll : (insI seps pre.length sep).length = seps.length + 1 := insI_len _ _ _ hile
   have K0 := fun ps' (hfar : ∀ d ∈ pre ++ post, ∀ r ∈ d.P, ps'[r]? = ps[r]?) (k1 : Sub ps' (h + 1) d1 d2.f) (k2 : Sub ps' (h + 1) d2 ((post.map Nd.f).headD nx)) => inOk_mid (ps' := ps') (mid := [d1, d2]) (c := d1) (r := [d2]) (seps' := insI seps pre.length sep) H hfar ⟨k1, k2, trivial⟩ rfl g4 hsep (by rw [hll, ← hlen]; simp; omega) (fun d hd => by
    simp only [List.mem_cons, List.not_mem_nil, or_false] at hd
    rcases hd with rfl | rfl
    · rw [g3]; exact H.kid di (by simp)
    · rw [g5]; exact hq32) hok' hmay (fun d hd => by
    simp only [List.mem_cons, List.not_mem_nil, or_false] at hd
    rcases hd with rfl | rfl
    · exact g7
    · exact g8)
   have eL : pre ++ [d1, d2] ++ post = pre ++ d1 :: d2 :: post := by simp
   have hpn : p ∉ (pre.map Nd.P).flatten ++ (d1.P ++ d2.P) ++ (post.map Nd.P).flatten := by
    have hnd := hctx.nodup
    have : ((p :: (pre.map Nd.P).flatten) ++ (d1.P ++ d2.P) ++ (post.map Nd.P).flatten) = p :: ((pre.map Nd.P).flatten ++ (d1.P ++ d2.P) ++ (post.map Nd.P).flatten) := by simp
    rw [this, List.nodup_cons] at hnd
    exact hnd.1
   have hPn : (ndOf p (pre ++ d1 :: d2 :: post)).P = (p :: (pre.map Nd.P).flatten) ++ (d1.P ++ d2.P) ++ (post.map Nd.P).flatten := by simp [ndOf]
   have hLn : (ndOf p (pre ++ d1 :: d2 :: post)).L = (pre.map Nd.L).flatten ++ (d1.L ++ d2.L) ++ (post.map Nd.L).flatten := by simp [ndOf]
   have hsE := sumE_ins seps pre.length sep
   have hkids : ∀ d ∈ pre ++ d1 :: d2 :: post, ∀ r ∈ d.P, r ∈ (pre.map Nd.P).flatten ++ (d1.P ++ d2.P) ++ (post.map Nd.P).flatten := fun d hd r hr => by
    have : r ∈ (((pre ++ d1 :: d2 :: post)).map Nd.P).flatten := List.mem_flatten.2 ⟨d.P, List.mem_map_of_mem hd, hr⟩
    simpa using this
   unfold frSt
   simp only
   rw [← hi, hmap]
   have hfL : ((pre ++ d1 :: d2 :: post).map Nd.f).headD 0 = ((pre ++ di :: post).map Nd.f).headD 0 := by cases pre <;> simp [g4]
   split
   · rename_i hfit
     have hset : ∀ r, r ≠ p → ((wrA ps wr).set p (kidL ((pre ++ d1 :: d2 :: post).map Nd.p) (insI seps pre.length sep)))[r]? = (wrA ps wr)[r]? := fun r hr => List.getElem?_set_ne (fun e => hr e.symm)
     have hne' : ∀ r, r ∈ (pre.map Nd.P).flatten ++ (d1.P ++ d2.P) ++ (post.map Nd.P).flatten → r ≠ p := fun r hr e => hpn (by rw [← e]; exact hr)
     have K := K0 ((wrA ps wr).set p (kidL ((pre ++ d1 :: d2 :: post).map Nd.p) (insI seps pre.length sep))) (fun d hd r hr => by
      rw [hset r (hne' r (by
       rcases List.mem_append.1 hd with hd | hd
       · exact hkids d (by simp [hd]) r hr
       · exact hkids d (by simp [hd]) r hr))]
      exact hfar d hd r hr) (sub_frame _ _ _ g1 fun r hr => hset r (hne' r (by simp [hr]))) (sub_frame _ _ _ g2 fun r hr => hset r (hne' r (by simp [hr])))
     rw [eL] at K
     refine ⟨ndOf p (pre ++ d1 :: d2 :: post), ?_, rfl, hfL, ?_, by rw [hPn, ndOf_P]; exact hctx, fun w hw => ?_⟩
     · rw [wrA_app]
       refine sub_of K (fun e => by rw [e] at hll; simp at hll) ?_ hfit
       show ((wrA ps wr).set p _)[p]? = _
       rw [List.getElem?_set_self (by rw [wrA_len]; exact hpl)]
     · rw [hLn, g6, ndOf_L, hwith]
     · rw [hPn]
       rcases List.mem_append.1 hw with hw | hw
       · have := g14 w hw
         simp only [List.mem_append] at this
         rcases this with h | h <;> simp [h]
       · rw [List.mem_singleton] at hw
         subst hw
         simp
   · rename_i hfit
     cases hq' : freeI T' with
     | none =>
       refine ⟨?_, hctx.len, hctx.up⟩
       have h1 := freeN_full (freeI_none hq')
       omega
     | some q' =>
       obtain ⟨P1, hqP, hql, hqT⟩ := hctx.take hq'
       have hqp : q' ≠ p := fun e => hqP (by rw [e]; simp)
       have hsz : (inSz (insI seps pre.length sep)).sum = sumE (insI seps pre.length sep) + 4 * (insI seps pre.length sep).length := in_sum _
       have hm' := (may_parts.1 hmay).1
       obtain ⟨c1, c2, c3, c4⟩ := cut1 (sz := inSz (insI seps pre.length sep)) (fun y hy => by
        obtain ⟨e, he, rfl⟩ := List.mem_map.1 hy
        have := hm' e he; omega) (by rw [hsz]; omega) (by rw [hsz, hsE, hll]; omega)
       have e3 : ((inSz (insI seps pre.length sep)).take (cutP 1 (inSz (insI seps pre.length sep)))).sum = sumE ((insI seps pre.length sep).take (cutP 1 (inSz (insI seps pre.length sep)))) + 4 * ((insI seps pre.length sep).take (cutP 1 (inSz (insI seps pre.length sep)))).length := by
        rw [← in_sum]; unfold inSz; rw [List.map_take]
       have e4 : ((inSz (insI seps pre.length sep)).drop (cutP 1 (inSz (insI seps pre.length sep)) + 1)).sum = sumE ((insI seps pre.length sep).drop (cutP 1 (inSz (insI seps pre.length sep)) + 1)) + 4 * ((insI seps pre.length sep).drop (cutP 1 (inSz (insI seps pre.length sep)) + 1)).length := by
        rw [← in_sum]; unfold inSz; rw [List.map_drop]
       rw [e3] at c3
       rw [e4] at c4
       have hlz : (inSz (insI seps pre.length sep)).length = (insI seps pre.length sep).length := by simp [inSz]
       rw [hlz] at c2
       generalize cutP 1 (inSz (insI seps pre.length sep)) = k at *
       clear e3 e4 hlz hsz
       have hne' : ∀ r, r ∈ (pre.map Nd.P).flatten ++ (d1.P ++ d2.P) ++ (post.map Nd.P).flatten → r ≠ p ∧ r ≠ q' := fun r hr => ⟨fun e => hpn (by rw [← e]; exact hr), fun e => hqP (by
        rw [← e]
        have : ((p :: (pre.map Nd.P).flatten) ++ (d1.P ++ d2.P) ++ (post.map Nd.P).flatten) = p :: ((pre.map Nd.P).flatten ++ (d1.P ++ d2.P) ++ (post.map Nd.P).flatten) := by simp
        rw [this]
        exact List.mem_cons_of_mem _ hr)⟩
       obtain ⟨s, hs⟩ : ∃ s, (insI seps pre.length sep)[k]? = some s := ⟨_, List.getElem?_eq_getElem (by omega)⟩
       have hgs : (insI seps pre.length sep).getD k enZ = s := by rw [List.getD_eq_getElem?_getD, hs]; rfl
       have hsm : s ∈ insI seps pre.length sep := List.mem_of_getElem? hs
       rw [hgs]
       generalize hA : kidL (((pre ++ d1 :: d2 :: post).map Nd.p).take (k + 1)) ((insI seps pre.length sep).take k) = bA
       generalize hB : kidL (((pre ++ d1 :: d2 :: post).map Nd.p).drop (k + 1)) ((insI seps pre.length sep).drop (k + 1)) = bB
       have hset : ∀ r, r ≠ p ∧ r ≠ q' → (((wrA ps wr).set p bA).set q' bB)[r]? = (wrA ps wr)[r]? := fun r hr => by
        rw [List.getElem?_set_ne (fun e => hr.2 e.symm), List.getElem?_set_ne (fun e => hr.1 e.symm)]
       have K := K0 (((wrA ps wr).set p bA).set q' bB) (fun d hd r hr => by
        rw [hset r (hne' r (by
         rcases List.mem_append.1 hd with hd | hd
         · exact hkids d (by simp [hd]) r hr
         · exact hkids d (by simp [hd]) r hr))]
        exact hfar d hd r hr) (sub_frame _ _ _ g1 fun r hr => hset r (hne' r (by simp [hr]))) (sub_frame _ _ _ g2 fun r hr => hset r (hne' r (by simp [hr])))
       rw [eL] at K
       obtain ⟨KA, KB, KL, KR⟩ := inOk_cut K c1 c2 hs
       have hpA : (((wrA ps wr).set p bA).set q' bB)[p]? = some (kidL (((pre ++ d1 :: d2 :: post).take (k + 1)).map Nd.p) ((insI seps pre.length sep).take k)) := by
        rw [List.getElem?_set_ne hqp, List.getElem?_set_self (by rw [wrA_len]; exact hpl), ← hA, List.map_take]
       have hpB : (((wrA ps wr).set p bA).set q' bB)[q']? = some (kidL (((pre ++ d1 :: d2 :: post).drop (k + 1)).map Nd.p) ((insI seps pre.length sep).drop (k + 1))) := by
        rw [List.getElem?_set_self (by rw [List.length_set, wrA_len]; omega), ← hB, List.map_drop]
       have hKl := K.len
       have hall : (ndOf p (pre ++ d1 :: d2 :: post)).L = (((pre ++ d1 :: d2 :: post).take (k + 1)).map Nd.L).flatten ++ (((pre ++ d1 :: d2 :: post).drop (k + 1)).map Nd.L).flatten := by
        show ((pre ++ d1 :: d2 :: post).map Nd.L).flatten = _
        rw [← List.flatten_append, ← List.map_append, List.take_append_drop]
       have hallP : ((p :: (pre.map Nd.P).flatten) ++ (d1.P ++ d2.P) ++ (post.map Nd.P).flatten) = (p :: (((pre ++ d1 :: d2 :: post).take (k + 1)).map Nd.P).flatten) ++ (((pre ++ d1 :: d2 :: post).drop (k + 1)).map Nd.P).flatten := by
        rw [← hPn]
        show p :: ((pre ++ d1 :: d2 :: post).map Nd.P).flatten = _
        rw [List.cons_append, ← List.flatten_append, ← List.map_append, List.take_append_drop]
       have hfA : (((pre ++ d1 :: d2 :: post).take (k + 1)).map Nd.f).headD 0 = ((pre ++ d1 :: d2 :: post).map Nd.f).headD 0 := by
        generalize pre ++ d1 :: d2 :: post = X
        cases X <;> rfl
       have hfB : ((((pre ++ d1 :: d2 :: post).drop (k + 1)).map Nd.f).headD nx) = (((pre ++ d1 :: d2 :: post).drop (k + 1)).map Nd.f).headD 0 := by
        cases hX : (pre ++ d1 :: d2 :: post).drop (k + 1) with
        | nil => have := congrArg List.length hX; rw [List.length_drop, List.length_nil] at this; omega
        | cons c r => rfl
       rw [hfB] at KA
       have hneL : ∀ X : List Nd, X ≠ [] → (∀ d ∈ X, d.L ≠ []) → (X.map Nd.L).flatten ≠ [] := fun X hX hd e => by
        cases X with
        | nil => exact hX rfl
        | cons c r =>
          rw [List.map_cons, List.flatten_cons, List.append_eq_nil_iff] at e
          exact hd c (by simp) e.1
       refine ⟨ndOf p ((pre ++ d1 :: d2 :: post).take (k + 1)), ndOf q' ((pre ++ d1 :: d2 :: post).drop (k + 1)), ?_, ?_, rfl, ?_, rfl, by omega, ?_, hneL _ ?_ KA.ne, hneL _ ?_ KB.ne, fun y hy => ?_, fun y hy => ?_, K.ok s hsm, hm' s hsm, ?_, fun w hw => ?_, ?_⟩
       · rw [wrA_app]
         refine sub_of KA (fun e => ?_) hpA c3
         have := congrArg List.length e
         rw [List.length_take, List.length_nil] at this
         omega
       · rw [wrA_app]
         refine sub_of KB (fun e => ?_) hpB c4
         have := congrArg List.length e
         rw [List.length_drop, List.length_nil] at this
         omega
       · show (((pre ++ d1 :: d2 :: post).take (k + 1)).map Nd.f).headD 0 = ((pre ++ di :: post).map Nd.f).headD 0
         rw [hfA, hfL]
       · show (((pre ++ d1 :: d2 :: post).take (k + 1)).map Nd.L).flatten ++ (((pre ++ d1 :: d2 :: post).drop (k + 1)).map Nd.L).flatten = _
         rw [← hall, hLn, g6, ndOf_L, hwith]
       · intro e
         have := congrArg List.length e
         rw [List.length_take, List.length_nil] at this
         omega
       · intro e
         have := congrArg List.length e
         rw [List.length_drop, List.length_nil] at this
         omega
       · obtain ⟨L, hL, hy⟩ := List.mem_flatten.1 hy
         obtain ⟨d, hd, rfl⟩ := List.mem_map.1 hL
         exact KL d hd y hy
       · obtain ⟨L, hL, hy⟩ := List.mem_flatten.1 hy
         obtain ⟨d, hd, rfl⟩ := List.mem_map.1 hL
         exact KR d hd y hy
       · rw [ndOf_P]
         refine P1.perm ?_
         rw [hallP]
         exact List.perm_middle.symm
       · have hin : ∀ r, r ∈ (pre.map Nd.P).flatten ++ (d1.P ++ d2.P) ++ (post.map Nd.P).flatten → r ∈ (p :: (((pre ++ d1 :: d2 :: post).take (k + 1)).map Nd.P).flatten) ++ (q' :: (((pre ++ d1 :: d2 :: post).drop (k + 1)).map Nd.P).flatten) := fun r hr => by
          have h1 : r ∈ ((p :: (pre.map Nd.P).flatten) ++ (d1.P ++ d2.P) ++ (post.map Nd.P).flatten) := by
           simp only [List.mem_append, List.mem_cons] at hr ⊢
           rcases hr with (h | h) | h
           · exact .inl (.inl (.inr h))
           · exact .inl (.inr h)
           · exact .inr h
          rw [hallP] at h1
          rcases List.mem_append.1 h1 with h | h
          · exact List.mem_append_left _ h
          · exact List.mem_append_right _ (List.mem_cons_of_mem _ h)
         show w.1 ∈ (p :: (((pre ++ d1 :: d2 :: post).take (k + 1)).map Nd.P).flatten) ++ (q' :: (((pre ++ d1 :: d2 :: post).drop (k + 1)).map Nd.P).flatten)
         rcases List.mem_append.1 hw with hw | hw
         · refine hin _ ?_
           have := g14 w hw
           simp only [List.mem_append] at this ⊢
           exact .inl (.inr this)
         · simp only [List.mem_cons, List.not_mem_nil, or_false] at hw
           rcases hw with rfl | rfl <;> simp
       · have := freeN_mark T' q' (freeI_some hq').1
         omega
end
end Go.Proofs.YtebobcbaloddaaaGreat
namespace Go.Proofs.YtebobcbaloddaaaGreat
section
set_option linter.unusedSimpArgs false
set_option linter.unusedVariables false
open Go.RowKit Go.Maps
def setSt (frs : List Fr11) (lp N : Nat) (es : List En) (T : List Bool) : Stt := frs.foldl (fun s fr => frSt fr s) (leafSt lp N es T)
theorem way_sub {ps : List (List UInt8)} {T : List Bool} {x : En} (hxo : x.ok) (hxs : x.s.size ≤ 200) (hT : T.length = ps.length) (hb : ps.length ≤ 4095) : ∀ (h : Nat) (d : Nd) (nx : Nat), Sub ps h d nx → d.P.Nodup → (∀ p ∈ d.P, T[p]? = some true) → riseP d.L → ∀ f, h ≤ f →
 ∃ frs lp N es, wayP ps f d.p x = some (frs, lp, N, es) ∧ frs.length + 1 = h ∧ (x ∈ es ↔ x ∈ d.L) ∧ riseP es ∧ (x ∉ d.L → InsOk ps T h d nx x (setSt frs lp N (withP es x) T))
 | 0, _, _, hs, _, _, _, _, _ => hs.elim
 | 1, d, nx, hs, hn, hm, hr, f, hf => by
   obtain ⟨f', rfl⟩ : ∃ f', f = f' + 1 := ⟨f - 1, by omega⟩
   obtain ⟨hp, hnx, hok, hmay, hfit, hP, hdf, hk⟩ := hs
   refine ⟨[], d.p, nx, d.L, ?_, rfl, Iff.rfl, hr, fun hx => leaf_ins hxo hxs ⟨hp, hnx, hok, hmay, hfit, hP, hdf, hk⟩ hT hb hm hx⟩
   rw [wayP, hp]
   simp only
   rw [rdPg_leaf nx d.L hnx hok hmay hfit]
 | h + 2, d, nx, hs, hn, hm, hr, f, hf => by
   obtain ⟨f', rfl⟩ : ∃ f', f = f' + 1 := ⟨f - 1, by omega⟩
   obtain ⟨ds, seps, H, hsn, hp, hfit, hd⟩ := sub_to hs
   obtain ⟨m1, m2⟩ := may_parts.1 H.may
   obtain ⟨c1, c2, c3⟩ := chN_at m2 x
   obtain ⟨k1, k2, k3⟩ := kidL_page H hsn hfit
   have hlen := H.len
   have hil : chN seps x < ds.length := by omega
   obtain ⟨pre, di, post, hds, hpre⟩ : ∃ pre di post, ds = pre ++ di :: post ∧ pre.length = chN seps x := ⟨ds.take (chN seps x), ds[chN seps x], ds.drop (chN seps x + 1), by rw [← List.drop_eq_getElem_cons hil, List.take_append_drop], by rw [List.length_take]; omega⟩
   subst hds
   obtain ⟨p, hpp⟩ : ∃ p, d.p = p := ⟨_, rfl⟩
   rw [hpp] at hp hd ⊢
   subst hd
   have hL := ndOf_L p pre di post
   have hP := ndOf_P p pre di post
   have hc := H.chn.app.2.1
   have hdn : di.P.Nodup := by
    rw [hP, List.nodup_append, List.nodup_append] at hn
    exact hn.1.2.1
   have hdm : ∀ q ∈ di.P, T[q]? = some true := fun q hq => hm q (by rw [hP]; simp [hq])
   have hdr : riseP di.L := by
    rw [hL] at hr
    exact (List.pairwise_append.1 (List.pairwise_append.1 hr).1).2.1
   obtain ⟨frs, lp, N, es, w1, w2, w3, w4, w5⟩ := way_sub hxo hxs hT hb (h + 1) di ((post.map Nd.f).headD nx) hc hdn hdm hdr f' (by omega)
   have hget : (((pre ++ di :: post).map Nd.p).headD 0 :: (seps.zip ((pre ++ di :: post).map Nd.p).tail).map Prod.snd).getD (chN seps x) 0 = di.p := by
    rw [k3, List.getD_eq_getElem?_getD, List.getElem?_map, mid_at, if_neg (by omega), if_pos hpre.symm]; rfl
   have hxd : x ∈ di.L ↔ x ∈ (ndOf p (pre ++ di :: post)).L := by
    rw [hL]
    constructor
    · intro hx; simp [hx]
    · intro hx
      simp only [List.mem_append] at hx
      rcases hx with (hx | hx) | hx
      · obtain ⟨L, hLL, hx⟩ := List.mem_flatten.1 hx
        obtain ⟨e, he, rfl⟩ := List.mem_map.1 hLL
        obtain ⟨j, hj⟩ := List.getElem?_of_mem he
        have hjp := lt_of_at hj
        have hjl : (pre ++ di :: post)[j]? = some e := by rw [mid_at, if_pos hjp]; exact hj
        have hbj : j < seps.length := by omega
        have h1 := (sep_strong m2 H.sep (by omega) hjl hx).2 j _ (List.getElem?_eq_getElem hbj) (Nat.le_refl _)
        have h2 := c2 j _ (List.getElem?_eq_getElem hbj) (by omega)
        omega
      · exact hx
      · obtain ⟨L, hLL, hx⟩ := List.mem_flatten.1 hx
        obtain ⟨e, he, rfl⟩ := List.mem_map.1 hLL
        obtain ⟨j, hj⟩ := List.getElem?_of_mem he
        have hjl : (pre ++ di :: post)[pre.length + 1 + j]? = some e := by
         rw [mid_at, if_neg (by omega), if_neg (by omega), show pre.length + 1 + j - pre.length - 1 = j from by omega]
         exact hj
        have hbj : pre.length < seps.length := by have := lt_of_at hjl; omega
        have h1 := (sep_strong m2 H.sep (by omega) hjl hx).1 pre.length _ (List.getElem?_eq_getElem hbj) (by omega)
        have h2 := c3 pre.length _ (List.getElem?_eq_getElem hbj) (by omega)
        omega
   refine ⟨frs ++ [⟨p, (pre ++ di :: post).map Nd.p, seps, chN seps x⟩], lp, N, es, ?_, by rw [List.length_append, List.length_singleton]; omega, w3.trans hxd, w4, fun hx => ?_⟩
   · rw [wayP, hp]
     simp only
     rw [k1]
     simp only
     rw [k2, hget, w1]
     simp only [Option.map_some]
     rw [k3]
   · unfold setSt
     rw [List.foldl_append]
     exact fr_ins hxo H hsn hp hfit hT hb hn hm hpre (w5 fun h => hx (hxd.1 h))
theorem sub_many {ps : List (List UInt8)} : ∀ (h : Nat) (d : Nd) (nx : Nat), Sub ps h d nx → 2 ^ (h - 1) ≤ d.k ∧ (d.L ≠ [] → d.k ≤ d.L.length) ∧ d.P.length + 1 ≤ 2 * d.k
 | 0, _, _, hs => hs.elim
 | 1, d, nx, ⟨hp, hnx, hok, hmay, hfit, hP, hdf, hk⟩ => by
   refine ⟨by rw [hk]; decide, fun h => ?_, by rw [hk, hP]; simp⟩
   rw [hk]
   cases hL : d.L with
   | nil => exact absurd hL h
   | cons a t => simp
 | h + 2, d, nx, hs => by
   obtain ⟨ds, seps, H, hsn, hp, hfit, hd⟩ := sub_to hs
   have hall : ∀ e ∈ ds, 2 ^ h ≤ e.k ∧ e.k ≤ e.L.length ∧ e.P.length + 1 ≤ 2 * e.k := fun e he => by
    obtain ⟨i, hi⟩ := List.getElem?_of_mem he
    have := sub_many (h + 1) e _ (H.chn.iff_at i e hi)
    exact ⟨this.1, this.2.1 (H.ne e he), this.2.2⟩
   have hsl : 1 ≤ seps.length := by
    cases seps with
    | nil => exact absurd rfl hsn
    | cons a t => simp
   have hl := H.len
   have key : ∀ X : List Nd, (∀ e ∈ X, 2 ^ h ≤ e.k ∧ e.k ≤ e.L.length ∧ e.P.length + 1 ≤ 2 * e.k) → X.length * 2 ^ h ≤ (X.map Nd.k).sum ∧ (X.map Nd.k).sum ≤ ((X.map Nd.L).flatten).length ∧ ((X.map Nd.P).flatten).length + X.length ≤ 2 * (X.map Nd.k).sum := by
    intro X
    induction X with
    | nil => intro _; simp
    | cons a t ih =>
      intro hX
      obtain ⟨i1, i2, i3⟩ := ih fun e he => hX e (by simp [he])
      obtain ⟨j1, j2, j3⟩ := hX a (by simp)
      simp only [List.map_cons, List.sum_cons, List.flatten_cons, List.length_append, List.length_cons]
      rw [Nat.add_mul]
      omega
   obtain ⟨a1, a2, a3⟩ := key ds hall
   rw [hd]
   refine ⟨?_, fun _ => a2, ?_⟩
   · show 2 ^ (h + 2 - 1) ≤ (ds.map Nd.k).sum
     refine Nat.le_trans ?_ a1
     rw [show h + 2 - 1 = h + 1 from by omega, Nat.pow_succ, Nat.mul_comm]
     exact Nat.mul_le_mul_right _ (by omega)
   · show (d.p :: (ds.map Nd.P).flatten).length + 1 ≤ 2 * (ds.map Nd.k).sum
     rw [List.length_cons]
     omega
def insP (ps : List (List UInt8)) (T : List Bool) (root : Nat) (way : Nat) (st : Stt) : List (List UInt8) × List Bool × Option Nat :=
 match st with
 | .no T' => (ps, T', none)
 | .done wr T' => (wrA ps wr, T', some root)
 | .up wr T' sep q => if way = 12 then (ps, T', none) else match freeI T' with
   | none => (ps, T', none)
   | some r => (wrA ps (wr ++ [(r, kidL [root, q] [sep])]), T'.set r true, some r)
structure TreeK (ps : List (List UInt8)) (T : List Bool) (root : Nat) (l : List En) (h : Nat) (d : Nd) : Prop where
 h1 : 1 ≤ h
 h2 : h ≤ 12
 sub : Sub ps h d 0
 p : d.p = root
 L : d.L = l
 nd : d.P.Nodup
 tk : ∀ p ∈ d.P, T[p]? = some true
end
end Go.Proofs.YtebobcbaloddaaaGreat
namespace Go.Proofs.YtebobcbaloddaaaGreat
section
set_option linter.unusedSimpArgs false
set_option linter.unusedVariables false
open Go.RowKit Go.Maps
end
end Go.Proofs.YtebobcbaloddaaaGreat
namespace Go.Proofs.YtebobcbaloddaaaGreat
section
set_option linter.unusedSimpArgs false
set_option linter.unusedVariables false
open Go.RowKit Go.Maps
structure EvT (O : Nat → Prop) (w w' : World) : Prop where
 os : w'.os = w.os
 tape : w'.tape = w.tape
 output : w'.output = w.output
 size : w.heap.size ≤ w'.heap.size
 block : ∀ k, k < w.heap.size → ¬ O k → w'.heap[k]? = w.heap[k]?
section
variable {w w' w'' : World} {O O' : Nat → Prop}
theorem EvT.refl (O : Nat → Prop) (w : World) : EvT O w w := ⟨rfl, rfl, rfl, Nat.le_refl _, fun _ _ _ => rfl⟩
theorem EvT.trans (h : EvT O w w') (k : EvT O' w' w'') (hn : ∀ g, O' g → O g ∨ w.heap.size ≤ g) : EvT O w w'' :=
 ⟨k.os.trans h.os, k.tape.trans h.tape, k.output.trans h.output, Nat.le_trans h.size k.size, fun g hg ho => (k.block g (Nat.lt_of_lt_of_le hg h.size) fun e => (hn g e).elim ho (by omega)).trans (h.block g hg ho)⟩
theorem EvT.of_below (h : Below w.heap.size w w') : EvT O w w' := ⟨h.os, h.tape, h.output, h.size, fun k hk _ => h.block k hk⟩
theorem EvT.of_grown {row : Option Nat} (h : w.grownBy w' row) (hr : ∀ g, row = some g → O g ∨ w.heap.size ≤ g) : EvT O w w' :=
 ⟨h.os, h.tape, h.output, h.size, fun k hk ho => h.block k hk fun e => (hr k e.symm).elim ho (by omega)⟩
theorem EvT.mono (h : EvT O w w') (hn : ∀ g, O g → O' g ∨ w.heap.size ≤ g) : EvT O' w w' :=
 ⟨h.os, h.tape, h.output, h.size, fun k hk ho => h.block k hk fun e => (hn k e).elim ho (by omega)⟩
theorem EvT.of_set {p : Addr} (hp : w.heap.size ≤ p.block ∨ O p.block) (u : Value) : EvT O w (w.setCell p u) :=
 ⟨rfl, rfl, rfl, by simp [World.setCell], fun k hk ho => Below.heap_setCell _ _ _ _ fun e => hp.elim (by omega) fun h => ho (by rw [e]; exact h)⟩
theorem EvT.below {B : Nat} {a : World} (h : EvT O w w') (hb : Below B a w) (hB : B ≤ w.heap.size) (hn : ∀ g, O g → B ≤ g) : Below B a w' :=
 hb.trans ⟨h.os, h.tape, h.output, h.size, fun k hk => h.block k (by omega) fun e => by have := hn k e; omega⟩
theorem EvT.blk (h : EvT O w w') {g : Nat} {t : TypeId} {cs : Array Value} (hb : Blk w g t cs) (hn : ¬ O g) : Blk w' g t cs := (h.block g hb.lt hn).trans hb
theorem EvT.own (h : EvT O w w') {base size n : Nat} {e : TypeId} {v : Value} {xs : List Value} (ho : w.ownsRow base e size v n xs) (hn : ∀ g, v.ownBlock = some g → ¬ O g) : w'.ownsRow base e size v n xs :=
 ownR_stays ho fun g cs hu hb => h.block g hb.lt (hn g hu)
theorem EvT.reads (h : EvT O w w') {B size n : Nat} {A : Option Addr} {xs : List Value} (hr : Reads w B size A n xs) (hB : B ≤ w.heap.size) (hn : ∀ ad, A = some ad → ¬ O ad.block) : Reads w' B size A n xs :=
 hr.same_ fun ad e hb => h.block _ (by omega) (hn ad e)
end
def S11.own (s : S11) (g : Nat) : Prop := s.v.ownBlock = some g
def S110 : S11 := ⟨none, 0, 0⟩
theorem S110.own_ (g : Nat) : ¬ S110.own g := fun h => by cases h
section
variable {w w' w1 : World} {base : Nat} {O : Nat → Prop}
section
variable {w0 : World} {A : Option Addr} {n c : Nat}
end
end
theorem set6 {W : World} {R : Nat} {t : TypeId} {a b c d e f a' b' c' d' e' f' : Value} (h : Blk W R t #[a, b, c, d, e, f]) : Blk ((((((W.setCell ⟨R, 0, none⟩ a').setCell ⟨R, 1, none⟩ b').setCell ⟨R, 2, none⟩ c').setCell ⟨R, 3, none⟩ d').setCell ⟨R, 4, none⟩ e').setCell ⟨R, 5, none⟩ f') R t #[a', b', c', d', e', f'] := by
 have := (((((h.set_ 0 a').set_ 1 b').set_ 2 c').set_ 3 d').set_ 4 e').set_ 5 f'
 simpa using this
end
end Go.Proofs.YtebobcbaloddaaaGreat
namespace Go.Proofs.YtebobcbaloddaaaGreat
section
set_option linter.unusedSimpArgs false
set_option linter.unusedVariables false
open Go.RowKit Go.Maps
structure BsOk (l : List En) (x : En) (i : Nat) : Prop where
 le : i ≤ l.length
 lo : ∀ (j : Nat) (y : En), l[j]? = some y → j < i → cmpE y x < 0
 hi : ∀ (j : Nat) (y : En), l[j]? = some y → i ≤ j → 0 ≤ cmpE y x
def RetBs (w : World) (l : List En) (x : En) (e : Ending) (w' : World) : Prop := ∃ i, BsOk l x i ∧ e = .returned (.tuple #[.int .i64 (i : Int), .bool (decide (x ∈ l))]) ∧ Below w.heap.size w w'
theorem bs_mem {l : List En} {x : En} {i : Nat} (hr : riseP l) (h : BsOk l x i) : x ∈ l ↔ ∃ y, l[i]? = some y ∧ cmpE y x = 0 := by
 constructor
 · intro hx
   obtain ⟨j, hj⟩ := List.getElem?_of_mem hx
   rcases Nat.lt_trichotomy j i with k | k | k
   · have := h.lo j x hj k; rw [cmpE_self] at this; omega
   · subst k; exact ⟨x, hj, cmpE_self x⟩
   · have hil : i < l.length := by have := lt_of_at hj; omega
     have h1 := h.hi i _ (List.getElem?_eq_getElem hil) (Nat.le_refl _)
     have h2 := rise_at hr k (List.getElem?_eq_getElem hil) hj
     omega
 · rintro ⟨y, hy, h0⟩
   rw [← cmpE_zero h0]; exact List.mem_of_getElem? hy
set_option maxRecDepth 100000 in
set_option maxHeartbeats 4000000 in
theorem bsearch_any (A : Option Addr) (n c : Nat) (l : List En) (x : En) (w : World) (hr : Reads w w.heap.size 3 A n (vE l)) (hn : n ≤ 1000000) (hri : riseP l) :
 Calls Tryz.prog 29 #[.slice A n c, x.agg, .func (.func 30) #[] #[]] w (RetBs w l x) := by
 have hl : l.length = n := by have := hr.1; rw [vE_len] at this; omega
 have hx' : ∃ x', x' = x := ⟨_, rfl⟩
 obtain ⟨xx, hxx⟩ := hx'
 rw [← hxx]
 have Hxx := Lib.hid hxx
 clear hxx
 obtain ⟨xs, xp, xq⟩ := x
 have hbX := ball (Below.refl w.heap.size w) (.cells #[.string xs, .int .u32 xp, .int .u16 xq] 37)
 have X0 := Blk.new w 37 #[.string xs, .int .u32 xp, .int .u16 xq]
 have H0 := Lib.hid (And.intro hbX X0)
 have HR0 := Lib.hid hr
 have HL := Lib.hid (And.intro hl hri)
 clear hbX X0 hr hl hri
 show Calls _ _ #[.slice A n c, xx.agg, _] w _
 rw [Hxx.out]
 go_enter Tryz.func29, Tryz.ntmps29
 go_wp2_with fail
 go_loopw [9, 10] (fun v9 v10 wr => ∃ (i j : Nat), v9 = .int .i64 (i : Int) ∧ v10 = .int .i64 (j : Int) ∧ i ≤ j ∧ j ≤ n ∧ (∀ (k : Nat) (y : En), l[k]? = some y → k < i → cmpE y xx < 0) ∧ (∀ (k : Nat) (y : En), l[k]? = some y → j ≤ k → 0 ≤ cmpE y xx) ∧ Below w.heap.size w wr ∧ Blk wr w.heap.size 37 #[.string xs, .int .u32 xp, .int .u16 xq]) (fun v9 v10 _ => (intOf v10).toNat - (intOf v9).toNat)
 case atStart => exact ⟨0, n, rfl, rfl, Nat.zero_le _, Nat.le_refl _, fun k y _ h => by omega, fun k y hk h => by have := lt_of_at hk; have := HL.out.1; omega, H0.out.1, H0.out.2⟩
 case round =>
  obtain ⟨i, j, rfl, rfl, hij, hjn, hlo, hhi, hb, hX⟩ := hrel
  have i0 : (0 : Int) ≤ (i : Int) := by omega
  have j0 : (0 : Int) ≤ (j : Int) := by omega
  have HLH := Lib.hid (And.intro hlo (And.intro hhi (And.intro hb hX)))
  clear hlo hhi hb hX
  by_cases hlt : i < j
  · have i1 : (i : Int) < (j : Int) := by omega
    have j1 : (j : Int) ≤ 1000000 := by omega
    obtain ⟨h, hh⟩ : ∃ h : Nat, (i + j) / 2 = h := ⟨_, rfl⟩
    have eh : ((i : Int) + (j : Int)) / 2 = (h : Int) := by omega
    have hih : i ≤ h := by omega
    have hhj : h < j := by omega
    have h0 : (0 : Int) ≤ (h : Int) := by omega
    have h1 : (h : Int) < (n : Int) := by omega
    obtain ⟨y, hy⟩ : ∃ y, l[h]? = some y := ⟨_, List.getElem?_eq_getElem (by rw [HL.out.1]; omega)⟩
    obtain ⟨ad, rfl, hab, hhn, HYY⟩ := ent_of (w := w) HR0.out hy
    have C1 := Lib.hid fun W => compareE_any y xx W
    have Hy := Lib.hid hy
    obtain ⟨z, hz⟩ : ∃ z, cmpE y xx = z := ⟨_, rfl⟩
    rw [hz, Hxx.out] at C1
    have Hz := Lib.hid hz
    have hyy' : ∃ y', y' = y := ⟨_, rfl⟩
    obtain ⟨yy, hyy⟩ := hyy'
    have Hyy := Lib.hid hyy
    rw [← hyy] at Hy Hz
    clear hy hz hyy
    obtain ⟨ys, yp, yq⟩ := y
    have HY := Lib.hid HYY
    simp only at HY
    unfold En.agg at C1
    simp only at C1
    clear HYY hh
    have hS : Hid (∀ W, Below wr.heap.size wr W → W.cell? ⟨w.heap.size, 0, none⟩ = some (.string xs) ∧ W.cell? ⟨w.heap.size, 1, none⟩ = some (.int .u32 xp) ∧ W.cell? ⟨w.heap.size, 2, none⟩ = some (.int .u16 xq) ∧ W.cell? (ad.add (h * 3)) = some (.string ys) ∧ W.cell? ⟨(ad.add (h * 3)).block, (ad.add (h * 3)).off + 1, none⟩ = some (.int .u32 yp) ∧ W.cell? ⟨(ad.add (h * 3)).block, (ad.add (h * 3)).off + 2, none⟩ = some (.int .u16 yq) ∧ Below wr.heap.size wr W) := Lib.hid fun W hW => ⟨(HLH.out.2.2.2.below hW HLH.out.2.2.2.lt).cell 0, (HLH.out.2.2.2.below hW HLH.out.2.2.2.lt).cell 1, (HLH.out.2.2.2.below hW HLH.out.2.2.2.lt).cell 2, (HY.out W (HLH.out.2.2.1.trans (hW.mono HLH.out.2.2.1.size))).1, (HY.out W (HLH.out.2.2.1.trans (hW.mono HLH.out.2.2.1.size))).2.1, (HY.out W (HLH.out.2.2.1.trans (hW.mono HLH.out.2.2.1.size))).2.2, hW⟩
    go_upto_region 5 with fail
    clear eh i1 j1
    by_cases hz0 : z < 0
    · have d1 : decide (z < 0) = true := decide_eq_true hz0
      go_region_held3 (fun W => W.cell? ⟨w.heap.size, 0, none⟩ = some (.string xs) ∧ W.cell? ⟨w.heap.size, 1, none⟩ = some (.int .u32 xp) ∧ W.cell? ⟨w.heap.size, 2, none⟩ = some (.int .u16 xq) ∧ W.cell? (ad.add (h * 3)) = some (.string ys) ∧ W.cell? ⟨(ad.add (h * 3)).block, (ad.add (h * 3)).off + 1, none⟩ = some (.int .u32 yp) ∧ W.cell? ⟨(ad.add (h * 3)).block, (ad.add (h * 3)).off + 2, none⟩ = some (.int .u16 yq) ∧ Below wr.heap.size wr W)
       (exact hS.out _ (by first | exact Below.drew (Below.refl _ _) | exact (Below.drew (Below.refl _ _)).trans (hb1.mono (Nat.le_refl _))))
       ((go_at_call 30; refine (C1.out _).mono ?_; rintro e w1 ⟨rfl, hb1⟩))
      go_wp2_with fail
      have hb2 : Below wr.heap.size wr w1 := (Below.drew (Below.refl wr.heap.size wr)).trans hb1
      go_roundw
      case rel => exact ⟨h + 1, j, by go_num, rfl, by omega, by omega, fun k y hk hlt => by
       rcases Nat.lt_or_ge k h with e | e
       · exact lt_le (rise_at HL.out.2 e hk Hy.out) (by have := Hz.out; omega)
       · have ek : k = h := by omega
         subst ek
         have : y = yy := by have h2 := Hy.out; rw [hk] at h2; injection h2
         rw [this, Hz.out]; exact hz0, HLH.out.2.1, HLH.out.2.2.1.trans (hb2.mono HLH.out.2.2.1.size), HLH.out.2.2.2.below hb2 HLH.out.2.2.2.lt⟩
      case measure => simp [intOf]; omega
    · have d1 : decide (z < 0) = false := decide_eq_false hz0
      go_region_held3 (fun W => W.cell? ⟨w.heap.size, 0, none⟩ = some (.string xs) ∧ W.cell? ⟨w.heap.size, 1, none⟩ = some (.int .u32 xp) ∧ W.cell? ⟨w.heap.size, 2, none⟩ = some (.int .u16 xq) ∧ W.cell? (ad.add (h * 3)) = some (.string ys) ∧ W.cell? ⟨(ad.add (h * 3)).block, (ad.add (h * 3)).off + 1, none⟩ = some (.int .u32 yp) ∧ W.cell? ⟨(ad.add (h * 3)).block, (ad.add (h * 3)).off + 2, none⟩ = some (.int .u16 yq) ∧ Below wr.heap.size wr W)
       (exact hS.out _ (by first | exact Below.drew (Below.refl _ _) | exact (Below.drew (Below.refl _ _)).trans (hb1.mono (Nat.le_refl _))))
       ((go_at_call 30; refine (C1.out _).mono ?_; rintro e w1 ⟨rfl, hb1⟩))
      go_wp2_with fail
      have hb2 : Below wr.heap.size wr w1 := (Below.drew (Below.refl wr.heap.size wr)).trans hb1
      go_roundw
      case rel => exact ⟨i, h, rfl, rfl, by omega, by omega, HLH.out.1, fun k y hk hge => by
       rcases Nat.lt_or_ge h k with e | e
       · have h2 := rise_at HL.out.2 e Hy.out hk
         have h3 := cmpE_swap y yy
         have h4 := cmpE_swap y xx
         have h5 := cmpE_swap yy xx
         have h6 := Hz.out
         by_cases h7 : cmpE y xx < 0
         · have := cmpE_lt_trans h2 h7
           omega
         · omega
       · have ek : k = h := by omega
         subst ek
         have : y = yy := by have h2 := Hy.out; rw [hk] at h2; injection h2
         rw [this, Hz.out]; omega, HLH.out.2.2.1.trans (hb2.mono HLH.out.2.2.1.size), HLH.out.2.2.2.below hb2 HLH.out.2.2.2.lt⟩
      case measure => simp [intOf]; omega
  · have hij' : i = j := by omega
    subst hij'
    have hBS : BsOk l xx i := ⟨by have := HL.out.1; omega, HLH.out.1, HLH.out.2.1⟩
    have hBM := bs_mem HL.out.2 hBS
    have HBS := Lib.hid hBS
    have i1 : (i : Int) ≤ (i : Int) := Int.le_refl _
    by_cases hin : i < n
    · have h1 : (i : Int) < (n : Int) := by omega
      obtain ⟨y, hy⟩ : ∃ y, l[i]? = some y := ⟨_, List.getElem?_eq_getElem (by rw [HL.out.1]; omega)⟩
      obtain ⟨ad, rfl, hab, hhn, HYY⟩ := ent_of (w := w) HR0.out hy
      have C1 := Lib.hid fun W => compareE_any y xx W
      obtain ⟨z, hz⟩ : ∃ z, cmpE y xx = z := ⟨_, rfl⟩
      rw [hz, Hxx.out] at C1
      have hmz : decide (xx ∈ l) = decide (z = 0) := by
       rw [decide_eq_decide, hBM]
       constructor
       · rintro ⟨y', h2, h3⟩
         rw [hy] at h2
         injection h2 with h2
         rw [← hz, h2]; exact h3
       · intro h2; exact ⟨y, hy, by rw [hz]; exact h2⟩
      have Hmz := Lib.hid hmz
      clear hy hz hBM hBS hmz
      obtain ⟨ys, yp, yq⟩ := y
      have HY := Lib.hid HYY
      simp only at HY
      unfold En.agg at C1
      simp only at C1
      clear HYY
      have g0 : decide ((i : Int) < (n : Int)) = true := decide_eq_true h1
      have g0n : decide (i < n) = true := decide_eq_true hin
      have hS : Hid (∀ W, Below wr.heap.size wr W → W.cell? ⟨w.heap.size, 0, none⟩ = some (.string xs) ∧ W.cell? ⟨w.heap.size, 1, none⟩ = some (.int .u32 xp) ∧ W.cell? ⟨w.heap.size, 2, none⟩ = some (.int .u16 xq) ∧ W.cell? (ad.add (i * 3)) = some (.string ys) ∧ W.cell? ⟨(ad.add (i * 3)).block, (ad.add (i * 3)).off + 1, none⟩ = some (.int .u32 yp) ∧ W.cell? ⟨(ad.add (i * 3)).block, (ad.add (i * 3)).off + 2, none⟩ = some (.int .u16 yq) ∧ Below wr.heap.size wr W) := Lib.hid fun W hW => ⟨(HLH.out.2.2.2.below hW HLH.out.2.2.2.lt).cell 0, (HLH.out.2.2.2.below hW HLH.out.2.2.2.lt).cell 1, (HLH.out.2.2.2.below hW HLH.out.2.2.2.lt).cell 2, (HY.out W (HLH.out.2.2.1.trans (hW.mono HLH.out.2.2.1.size))).1, (HY.out W (HLH.out.2.2.1.trans (hW.mono HLH.out.2.2.1.size))).2.1, (HY.out W (HLH.out.2.2.1.trans (hW.mono HLH.out.2.2.1.size))).2.2, hW⟩
      go_upto_region 8 with fail
      go_region_held3 (fun W => W.cell? ⟨w.heap.size, 0, none⟩ = some (.string xs) ∧ W.cell? ⟨w.heap.size, 1, none⟩ = some (.int .u32 xp) ∧ W.cell? ⟨w.heap.size, 2, none⟩ = some (.int .u16 xq) ∧ W.cell? (ad.add (i * 3)) = some (.string ys) ∧ W.cell? ⟨(ad.add (i * 3)).block, (ad.add (i * 3)).off + 1, none⟩ = some (.int .u32 yp) ∧ W.cell? ⟨(ad.add (i * 3)).block, (ad.add (i * 3)).off + 2, none⟩ = some (.int .u16 yq) ∧ Below wr.heap.size wr W)
       (exact hS.out _ (by first | exact Below.drew (Below.refl _ _) | exact (Below.drew (Below.refl _ _)).trans hb1))
       ((go_at_call 30; refine (C1.out _).mono ?_; rintro e w1 ⟨rfl, hb1⟩))
      go_wp2_with fail
      have hb2 : Below w.heap.size w w1 := HLH.out.2.2.1.trans (((Below.drew (Below.refl wr.heap.size wr)).trans hb1).mono HLH.out.2.2.1.size)
      refine bodyPost_ret (v := .tuple #[.int .i64 (i : Int), .bool (z == 0)]) (by simp [results, Tryz.results29, go_sem]) rfl ?_
      rw [← Hxx.out]
      exact ⟨i, HBS.out, by rw [Hmz.out]; rfl, hb2⟩
    · have hno : decide (xx ∈ l) = false := by
       rw [decide_eq_false_iff_not, hBM]
       rintro ⟨y, hy, _⟩
       have := lt_of_at hy
       have := HL.out.1
       omega
      have Hno := Lib.hid hno
      have g0 : decide ((i : Int) < (n : Int)) = false := decide_eq_false (by omega)
      have g0n : decide (i < n) = false := decide_eq_false hin
      have hS : Hid (∀ W, Below wr.heap.size wr W → True ∧ Below wr.heap.size wr W) := Lib.hid fun W hW => ⟨trivial, hW⟩
      clear hBM hBS hno hin
      go_upto_region 8 with fail
      refine wp_region_held_drew (S := (fun W => True ∧ Below wr.heap.size wr W)) (by kernel_rfl) (by exact hS.out _ (Below.drew (Below.refl _ _))) (fun hHeld => ?_)
      try dsimp only at hHeld
      refine zt 0 ?_ rfl (by kernel_rfl) (fun _ _ _ h => h) ⟨rfl, ?_⟩ hHeld ?_
      rotate_left
      focus (intro wx hSw; (try dsimp only at hSw); (try go_split_ands); go_simp; (try with_reducible rfl))
      try simp only [Act.put, za1, za2, za3, za4, za5, za6]
      refine zt 1 ?_ rfl (by kernel_rfl) (fun _ _ _ h => h) ⟨rfl, ?_⟩ hHeld ?_
      rotate_left
      focus (intro wx hSw; (try dsimp only at hSw); (try go_split_ands); go_simp; (try with_reducible rfl))
      try simp only [Act.put, za1, za2, za3, za4, za5, za6]
      refine zt 2 ?_ rfl (by kernel_rfl) (fun _ _ _ h => h) ⟨rfl, ?_⟩ hHeld ?_
      rotate_left
      focus (intro wx hSw; (try dsimp only at hSw); (try go_split_ands); go_simp; (try with_reducible rfl))
      try simp only [Act.put, za1, za2, za3, za4, za5, za6]
      refine zt 3 ?_ rfl (by kernel_rfl) (fun _ _ _ h => h) ⟨rfl, ?_⟩ hHeld ?_
      rotate_left
      focus (intro wx hSw; (try dsimp only at hSw); (try go_split_ands); go_simp; (try with_reducible rfl))
      try simp only [Act.put, za1, za2, za3, za4, za5, za6]
      refine zt 4 ?_ rfl (by kernel_rfl) (fun _ _ _ h => h) ⟨rfl, ?_⟩ hHeld ?_
      rotate_left
      focus (intro wx hSw; (try dsimp only at hSw); (try go_split_ands); go_simp; (try with_reducible rfl))
      try simp only [Act.put, za1, za2, za3, za4, za5, za6]
      refine wpAnyH_take (i := 5) (v := undef) rfl (by kernel_rfl) (by kernel_rfl) (by kernel_rfl) (fun _ _ _ h => h) (Or.inr ⟨rfl, rfl⟩) hHeld ?_
      try simp only [Act.put, za1, za2, za3, za4, za5, za6]
      refine wpAnyH_take (i := 6) (v := undef) rfl (by kernel_rfl) (by kernel_rfl) (by kernel_rfl) (fun _ _ _ h => h) (Or.inr ⟨rfl, rfl⟩) hHeld ?_
      try simp only [Act.put, za1, za2, za3, za4, za5, za6]
      refine wpAnyH_take (i := 7) (v := undef) rfl (by kernel_rfl) (by kernel_rfl) (by kernel_rfl) (fun _ _ _ h => h) (Or.inr ⟨rfl, rfl⟩) hHeld ?_
      try simp only [Act.put, za1, za2, za3, za4, za5, za6]
      refine wpAnyH_take (i := 8) (v := undef) rfl (by kernel_rfl) (by kernel_rfl) (by kernel_rfl) (fun _ _ _ h => h) (Or.inr ⟨rfl, rfl⟩) hHeld ?_
      try simp only [Act.put, za1, za2, za3, za4, za5, za6]
      refine wpAnyH_take (i := 9) (v := undef) rfl (by kernel_rfl) (by kernel_rfl) (by kernel_rfl) (fun _ _ _ h => h) (Or.inr ⟨rfl, rfl⟩) hHeld ?_
      try simp only [Act.put, za1, za2, za3, za4, za5, za6]
      refine wpAnyH_take (i := 10) (v := undef) rfl (by kernel_rfl) (by kernel_rfl) (by kernel_rfl) (fun _ _ _ h => h) (Or.inr ⟨rfl, rfl⟩) hHeld ?_
      try simp only [Act.put, za1, za2, za3, za4, za5, za6]
      refine wpAnyH_take (i := 11) (v := undef) rfl (by kernel_rfl) (by kernel_rfl) (by kernel_rfl) (fun _ _ _ h => h) (Or.inr ⟨rfl, rfl⟩) hHeld ?_
      try simp only [Act.put, za1, za2, za3, za4, za5, za6]
      refine wpAnyH_take (i := 12) (v := undef) rfl (by kernel_rfl) (by kernel_rfl) (by kernel_rfl) (fun _ _ _ h => h) (Or.inr ⟨rfl, rfl⟩) hHeld ?_
      try simp only [Act.put, za1, za2, za3, za4, za5, za6]
      refine zt 13 ?_ rfl (by kernel_rfl) (fun _ _ _ h => h) ⟨rfl, ?_⟩ hHeld ?_
      rotate_left
      focus (intro wx hSw; (try dsimp only at hSw); (try go_split_ands); go_simp; (try with_reducible rfl))
      try simp only [Act.put, za1, za2, za3, za4, za5, za6]
      refine zt 14 ?_ rfl (by kernel_rfl) (fun _ _ _ h => h) ⟨rfl, ?_⟩ hHeld ?_
      rotate_left
      focus (intro wx hSw; (try dsimp only at hSw); (try go_split_ands); go_simp; (try with_reducible rfl))
      try simp only [Act.put, za1, za2, za3, za4, za5, za6]
      refine zt 15 ?_ rfl (by kernel_rfl) (fun _ _ _ h => h) ⟨rfl, ?_⟩ hHeld ?_
      rotate_left
      focus (intro wx hSw; (try dsimp only at hSw); (try go_split_ands); go_simp; (try with_reducible rfl))
      try simp only [Act.put, za1, za2, za3, za4, za5, za6]
      refine wpAnyH_done (by kernel_rfl) ?_ _
      go_wp2_with fail
      have hb2 : Below w.heap.size w wr.drew := HLH.out.2.2.1.trans ((Below.drew (Below.refl wr.heap.size wr)).mono HLH.out.2.2.1.size)
      refine bodyPost_ret (v := .tuple #[.int .i64 (i : Int), .bool false]) (by simp [results, Tryz.results29, go_sem]) rfl ?_
      rw [← Hxx.out]
      exact ⟨i, HBS.out, by rw [Hno.out], hb2⟩
end
end Go.Proofs.YtebobcbaloddaaaGreat
