/-
  B63 B58 B59 B60 B61 B64 B62 B65.
-/
import Derived.Test.YtebobcbaloddaaaGreatMobv
import Derived.Test.YtebobcbaloddaaaGreatMobe
import Derived.Test.YtebobcbaloddaaaGreatMobg
import Derived.Test.YtebobcbaloddaaaGreatMobf
import Derived.BigRegion
import Derived.Deep.DeepCutAuto
import Derived.Test.YtebobcbaloddaaaGreatMozz
namespace Go.Proofs.YtebobcbaloddaaaGreat
section
set_option linter.unusedSimpArgs false
set_option linter.unusedVariables false
open Go.RowKit Go.Maps
def pgB (lf : Bool) (N : Nat) (kids : List Nat) (l : List En) : List UInt8 := if lf = true then leafL N l else kidL kids l
def cutW (lf : Bool) (l : List En) : Nat := if lf = true then cutP 0 (lfSz l) else cutP 1 (inSz l)
def gap (lf : Bool) : Nat := if lf = true then 0 else 1
def curSt (lf : Bool) (wr : List (Nat × List UInt8)) (p N : Nat) (kids : List Nat) (l : List En) (T : List Bool) : Stt :=
 if fitP lf l = true then .done (wr ++ [(p, pgB lf N kids l)]) T
 else match freeI T with
  | none => .no T
  | some q => .up (wr ++ [(p, pgB lf q (kids.take (cutW lf l + 1)) (l.take (cutW lf l))), (q, pgB lf N (kids.drop (cutW lf l + 1)) (l.drop (cutW lf l + gap lf)))]) (T.set q true) (l.getD (cutW lf l) enZ) q
theorem headD_drop63 {α : Type} (l : List α) (k : Nat) (d : α) : (l.drop k).headD d = l.getD k d := by
 rw [List.headD_eq_head?_getD, List.head?_drop, List.getD_eq_getElem?_getD]
theorem leafSt_cur (p N : Nat) (es : List En) (T : List Bool) : leafSt p N es T = curSt true [] p N [] es T := by
 unfold leafSt curSt fitP pgB cutW gap
 by_cases h : sumE es ≤ 504
 · simp [h]
 · simp only [h, if_true, decide_false, if_false, Bool.false_eq_true, List.nil_append, Nat.add_zero]
   cases freeI T with
   | none => rfl
   | some q => simp only [headD_drop63]
theorem frSt_cur (f : Fr11) (wr : List (Nat × List UInt8)) (T : List Bool) (sep : En) (q : Nat) : frSt f (.up wr T sep q) = curSt false wr f.p 0 (insI f.kids (f.i + 1) q) (insI f.seps f.i sep) T := by
 unfold frSt curSt fitP pgB cutW gap
 simp only [Bool.false_eq_true, if_false, decide_eq_true_eq]
 split
 · rfl
 · cases freeI T <;> rfl
structure CurOk (lf : Bool) (N : Nat) (kids : List Nat) (l : List En) : Prop where
 ok : ∀ e ∈ l, e.ok
 may : mayEn l = true
 N : N < 4294967296
 sz : (if lf = true then sumE l else sumE l + 4 * l.length) ≤ 712
 kid : lf = false → kids.length = l.length + 1 ∧ (∀ k ∈ kids, k < 4294967296) ∧ l ≠ []
 lfk : lf = true → kids = []
theorem may_take {l : List En} (h : mayEn l = true) (k : Nat) : mayEn (l.take k) = true := by
 obtain ⟨a, b⟩ := may_parts.1 h
 exact may_parts.2 ⟨fun e he => a e (List.mem_of_mem_take he), List.Pairwise.sublist (List.take_sublist _ _) b⟩
theorem may_drop {l : List En} (h : mayEn l = true) (k : Nat) : mayEn (l.drop k) = true := by
 obtain ⟨a, b⟩ := may_parts.1 h
 exact may_parts.2 ⟨fun e he => a e (List.mem_of_mem_drop he), List.Pairwise.sublist (List.drop_sublist _ _) b⟩
theorem inSz_take (l : List En) (k : Nat) : (inSz l).take k = inSz (l.take k) := by unfold inSz; rw [List.map_take]
theorem inSz_drop (l : List En) (k : Nat) : (inSz l).drop k = inSz (l.drop k) := by unfold inSz; rw [List.map_drop]
theorem lfSz_take (l : List En) (k : Nat) : (lfSz l).take k = lfSz (l.take k) := by unfold lfSz; rw [List.map_take]
theorem lfSz_drop (l : List En) (k : Nat) : (lfSz l).drop k = lfSz (l.drop k) := by unfold lfSz; rw [List.map_drop]
theorem CurOk.cut {lf : Bool} {N : Nat} {kids : List Nat} {l : List En} (h : CurOk lf N kids l) (hf : fitP lf l ≠ true) :
 0 < cutW lf l ∧ cutW lf l + gap lf < l.length ∧ fitP lf (l.take (cutW lf l)) = true ∧ fitP lf (l.drop (cutW lf l + gap lf)) = true := by
 have hm := (may_parts.1 h.may).1
 cases lf with
 | true =>
   have hs : sumE l ≤ 712 := h.sz
   have hf : ¬ sumE l ≤ 504 := fun e => hf (by unfold fitP; simp [e])
   obtain ⟨c1, c2, c3, c4⟩ := cut0 (sz := lfSz l) (fun y hy => by
    obtain ⟨e, he, rfl⟩ := List.mem_map.1 hy
    have := hm e he; omega) (by show 500 < sumE l; omega) (by show sumE l ≤ 712; omega)
   rw [lfSz_take] at c3
   rw [lfSz_drop] at c4
   have c3 : sumE (l.take (cutP 0 (lfSz l))) ≤ 500 := c3
   have c4 : sumE (l.drop (cutP 0 (lfSz l))) ≤ 500 := c4
   have hl : (lfSz l).length = l.length := by unfold lfSz; simp
   unfold cutW gap fitP
   simp only [if_true, Nat.add_zero, decide_eq_true_eq]
   omega
 | false =>
   have hs : sumE l + 4 * l.length ≤ 712 := h.sz
   have hf : ¬ sumE l + 4 * l.length ≤ 500 := fun e => hf (by unfold fitP; simp [e])
   obtain ⟨c1, c2, c3, c4⟩ := cut1 (sz := inSz l) (fun y hy => by
    obtain ⟨e, he, rfl⟩ := List.mem_map.1 hy
    have := hm e he; omega) (by rw [in_sum]; omega) (by rw [in_sum]; omega)
   rw [inSz_take, in_sum] at c3
   rw [inSz_drop, in_sum] at c4
   have hl : (inSz l).length = l.length := by unfold inSz; simp
   unfold cutW gap fitP
   simp only [Bool.false_eq_true, if_false, decide_eq_true_eq]
   omega
def StepsOk : List Fr11 → Stt → Prop
 | [], _ => True
 | f :: fs, st => f.p < 4294967296 ∧ (∀ wr T sep q, st = .up wr T sep q → f.i ≤ f.seps.length ∧ f.kids.length = f.seps.length + 1 ∧ CurOk false 0 (insI f.kids (f.i + 1) q) (insI f.seps f.i sep)) ∧ StepsOk fs (frSt f st)
theorem stepsOk_snoc : ∀ {fs : List Fr11} {f : Fr11} {st : Stt}, StepsOk fs st → f.p < 4294967296 → (∀ wr T sep q, fs.foldl (fun s fr => frSt fr s) st = .up wr T sep q → f.i ≤ f.seps.length ∧ f.kids.length = f.seps.length + 1 ∧ CurOk false 0 (insI f.kids (f.i + 1) q) (insI f.seps f.i sep)) → StepsOk (fs ++ [f]) st
 | [], f, st, _, hp, h2 => ⟨hp, h2, trivial⟩
 | a :: r, f, st, h1, hp, h2 => ⟨h1.1, h1.2.1, stepsOk_snoc h1.2.2 hp h2⟩
theorem st_done : ∀ (fs : List Fr11) (wr : List (Nat × List UInt8)) (T : List Bool), fs.foldl (fun s fr => frSt fr s) (.done wr T) = .done wr T
 | [], _, _ => rfl
 | _ :: r, wr, T => st_done r wr T
theorem st_no : ∀ (fs : List Fr11) (T : List Bool), fs.foldl (fun s fr => frSt fr s) (.no T) = .no T
 | [], _ => rfl
 | _ :: r, T => st_no r T
theorem fr_cur {ps : List (List UInt8)} {T : List Bool} {h nx : Nat} {pre post : List Nd} {di : Nd} {seps : List En} {x : En} {wr : List (Nat × List UInt8)} {T' : List Bool} {sep : En} {q : Nat}
 (H : InOk ps h (pre ++ di :: post) seps nx) (hf : sumE seps + 4 * seps.length ≤ 500) (hb : ps.length ≤ 4095) (hi : pre.length = chN seps x) (HI : InsOk ps T (h + 1) di ((post.map Nd.f).headD nx) x (.up wr T' sep q)) :
 chN seps x ≤ seps.length ∧ ((pre ++ di :: post).map Nd.p).length = seps.length + 1 ∧ CurOk false 0 (insI ((pre ++ di :: post).map Nd.p) (chN seps x + 1) q) (insI seps (chN seps x) sep) := by
 obtain ⟨m1, m2⟩ := may_parts.1 H.may
 have hlen := H.len
 have hile : pre.length ≤ seps.length := by rw [List.length_append, List.length_cons] at hlen; omega
 obtain ⟨d1, d2, g1, g2, g3, g4, g5, gq, g6, g7, g8, g9, g10, g11, g12, g13, g14, g15⟩ := HI
 have hmem : ∀ y, y ∈ d1.L ∨ y ∈ d2.L → y = x ∨ y ∈ di.L := fun y hy => by
  have : y ∈ d1.L ++ d2.L := List.mem_append.2 hy
  rw [g6] at this
  exact with_mem.1 this
 obtain ⟨y1, hy1⟩ : ∃ y, y ∈ d1.L := List.exists_mem_of_ne_nil _ g7
 obtain ⟨y2, hy2⟩ : ∃ y, y ∈ d2.L := List.exists_mem_of_ne_nil _ g8
 have hlow : ∀ (j : Nat) (a : En), seps[j]? = some a → j < pre.length → cmpE a sep < 0 := fun j a ha hj => le_lt ((sep_mid m2 H.sep hlen hi (hmem y1 (.inl hy1))).1 j a ha hj) (g9 y1 hy1)
 have hhigh : ∀ (j : Nat) (a : En), seps[j]? = some a → pre.length ≤ j → cmpE sep a < 0 := fun j a ha hj => by
  have h1 := (sep_mid m2 H.sep hlen hi (hmem y2 (.inr hy2))).2 j a ha hj
  have h2 := g10 y2 hy2
  have h3 := cmpE_swap y2 sep
  have h4 := cmpE_swap a y2
  exact le_lt (b := y2) (by omega) (by omega)
 have hmay := may_ins H.may hile g12 hlow hhigh
 have hll : (insI seps pre.length sep).length = seps.length + 1 := insI_len _ _ _ hile
 have hsE := sumE_ins seps pre.length sep
 rw [← hi]
 refine ⟨hile, by rw [List.length_map]; exact hlen, ⟨fun e he => ?_, hmay, by decide, ?_, fun _ => ⟨?_, fun k hk => ?_, fun e => ?_⟩, fun e => by cases e⟩⟩
 · rcases insI_mem.1 he with rfl | he
   · exact g11
   · exact H.ok e he
 · show sumE (insI seps pre.length sep) + 4 * (insI seps pre.length sep).length ≤ 712
   rw [hll, hsE]; omega
 · rw [insI_len _ _ _ (by rw [List.length_map, hlen]; omega), List.length_map, hlen, hll]
 · rcases insI_mem.1 hk with rfl | hk
   · omega
   · obtain ⟨d, hd, rfl⟩ := List.mem_map.1 hk
     exact H.kid d hd
 · rw [e] at hll; simp at hll
theorem way_ok {ps : List (List UInt8)} {T : List Bool} {x : En} (hxo : x.ok) (hxs : x.s.size ≤ 200) (hT : T.length = ps.length) (hb : ps.length ≤ 4095) : ∀ (h : Nat) (d : Nd) (nx : Nat), Sub ps h d nx → d.P.Nodup → (∀ p ∈ d.P, T[p]? = some true) → riseP d.L → ∀ f, h ≤ f → x ∉ d.L → ∀ frs lp N es, wayP ps f d.p x = some (frs, lp, N, es) →
 StepsOk frs (leafSt lp N (withP es x) T) ∧ CurOk true N [] (withP es x) ∧ InsOk ps T h d nx x (setSt frs lp N (withP es x) T) ∧ lp < ps.length
 | 0, _, _, hs, _, _, _, _, _, _, _, _, _, _, _ => hs.elim
 | 1, d, nx, hs, hn, hm, hr, f, hf, hx, frs, lp, N, es, hw => by
   obtain ⟨f', rfl⟩ : ∃ f', f = f' + 1 := ⟨f - 1, by omega⟩
   have hs' := hs
   obtain ⟨hp, hnx, hok, hmay, hfit, hP, hdf, hk⟩ := hs
   rw [wayP, hp] at hw
   simp only at hw
   rw [rdPg_leaf nx d.L hnx hok hmay hfit] at hw
   simp only at hw
   injection hw with hw
   injection hw with h1 hw
   injection hw with h2 hw
   injection hw with h3 h4
   subst h1; subst h2; subst h3; subst h4
   obtain ⟨m1, m2⟩ := may_parts.1 hmay
   refine ⟨trivial, ⟨fun e he => ?_, may_parts.2 ⟨fun e he => ?_, with_rise m2 hx⟩, hnx, ?_, fun e => (by cases e), fun _ => rfl⟩, leaf_ins hxo hxs hs' hT hb hm hx, lt_of_at hp⟩
   · rcases with_mem.1 he with rfl | he
     · exact hxo
     · exact hok e he
   · rcases with_mem.1 he with rfl | he
     · exact hxs
     · exact m1 e he
   · show sumE (withP d.L x) ≤ 712
     rw [sumE_with]; omega
 | h + 2, d, nx, hs, hn, hm, hr, f, hf, hx, frs, lp, N, es, hw => by
   obtain ⟨f', rfl⟩ : ∃ f', f = f' + 1 := ⟨f - 1, by omega⟩
   obtain ⟨ds, seps, H, hsn, hp, hfit, hd⟩ := sub_to hs
   obtain ⟨m1, m2⟩ := may_parts.1 H.may
   obtain ⟨c1, c2, c3⟩ := chN_at m2 x
   obtain ⟨k1, k2, k3⟩ := kidL_page H hsn hfit
   have hlen := H.len
   have hil : chN seps x < ds.length := by omega
   obtain ⟨pre, di, post, hds, hpre⟩ : ∃ pre di post, ds = pre ++ di :: post ∧ pre.length = chN seps x := ⟨ds.take (chN seps x), ds[chN seps x], ds.drop (chN seps x + 1), by rw [← List.drop_eq_getElem_cons hil, List.take_append_drop], by rw [List.length_take]; omega⟩
   subst hds
   obtain ⟨p, hpp⟩ : ∃ p, d.p = p := ⟨_, rfl⟩
   rw [hpp] at hp hd hw
   subst hd
   have hL := ndOf_L p pre di post
   have hP := ndOf_P p pre di post
   have hc := H.chn.app.2.1
   have hdn : di.P.Nodup := by
    rw [hP, List.nodup_append, List.nodup_append] at hn
    exact hn.1.2.1
   have hdm : ∀ q ∈ di.P, T[q]? = some true := fun q hq => hm q (by rw [hP]; simp [hq])
   have hdr : riseP di.L := by
    rw [hL] at hr
    exact (List.pairwise_append.1 (List.pairwise_append.1 hr).1).2.1
   have hget : (((pre ++ di :: post).map Nd.p).headD 0 :: (seps.zip ((pre ++ di :: post).map Nd.p).tail).map Prod.snd).getD (chN seps x) 0 = di.p := by
    rw [k3, List.getD_eq_getElem?_getD, List.getElem?_map, mid_at, if_neg (by omega), if_pos hpre.symm]; rfl
   rw [wayP, hp] at hw
   simp only at hw
   rw [k1] at hw
   simp only at hw
   rw [k2, hget, k3] at hw
   cases hwd : wayP ps f' di.p x with
   | none => rw [hwd] at hw; cases hw
   | some r =>
     rw [hwd] at hw
     simp only [Option.map_some] at hw
     obtain ⟨frs', lp', N', es'⟩ := r
     injection hw with hw
     injection hw with h1 hw
     injection hw with h2 hw
     injection hw with h3 h4
     simp only at h1 h2 h3 h4
     subst h1; subst h2; subst h3; subst h4
     obtain ⟨i1, i2, i3, i4⟩ := way_ok hxo hxs hT hb (h + 1) di ((post.map Nd.f).headD nx) hc hdn hdm hdr f' (by omega) (fun e => hx (by rw [hL]; simp [e])) _ _ _ _ hwd
     refine ⟨stepsOk_snoc i1 (by have := lt_of_at hp; show p < 4294967296; omega) fun wr T' sep q e => ?_, i2, ?_, i4⟩
     · have i3 : InsOk ps T (h + 1) di ((post.map Nd.f).headD nx) x (.up wr T' sep q) := e ▸ i3
       exact fr_cur H hfit hb hpre i3
     · show InsOk ps T (h + 2) _ nx x (setSt _ _ _ _ T)
       unfold setSt
       rw [List.foldl_append]
       exact fr_ins hxo H hsn hp hfit hT hb hn hm hpre i3
def setR (way root : Nat) : Stt → Option (List (Nat × List UInt8) × Nat) × List Bool
 | .no T => (none, T)
 | .done wr T => (some (wr, root), T)
 | .up wr T sep q => if way = 12 then (none, T) else match freeI T with
   | none => (none, T)
   | some r => (some (wr ++ [(r, kidL [root, q] [sep])], r), T.set r true)
theorem insP_set (ps : List (List UInt8)) (T : List Bool) (root way : Nat) (st : Stt) : insP ps T root way st = (match (setR way root st).1 with | none => ps | some (wr, _) => wrA ps wr, (setR way root st).2, (setR way root st).1.map Prod.snd) := by
 cases st with
 | no T' => rfl
 | done wr T' => rfl
 | up wr T' sep q =>
   unfold insP setR
   simp only
   split
   · rfl
   · cases freeI T' <;> rfl
end
end Go.Proofs.YtebobcbaloddaaaGreat
namespace Go.Proofs.YtebobcbaloddaaaGreat
section
set_option linter.unusedSimpArgs false
set_option linter.unusedVariables false
open Go.RowKit Go.Maps
theorem farS2 {W : World} {g R i j : Nat} {t : TypeId} {cs : Array Value} {a b : Value} (h : Blk W g t cs) (hg : g ≠ R) : Blk ((W.setCell ⟨R, i, none⟩ a).setCell ⟨R, j, none⟩ b) g t cs :=
 (h.far (p := ⟨R, i, none⟩) hg _).far (p := ⟨R, j, none⟩) hg _
def RetSpI (w : World) (b o : Nat) (ty : TypeId) (cs : Array Value) (A2 : Addr) (c2 : Nat) (A : Addr) (n c : Nat) (l : List En) (at_ : Nat) (e : Ending) (w' : World) : Prop :=
 ∃ x, l[at_]? = some x ∧ e = .returned (.tuple #[x.agg, .agg #[.bool false, .int .u32 0, .slice (some (A2.add (at_ + 1))) (n - at_) (c2 - (at_ + 1)), .slice (some (A.add ((at_ + 1) * 3))) (n - (at_ + 1)) (c - (at_ + 1))]]) ∧ Blk w' b ty ((cs.setIfInBounds (o + 2) (.slice (some A2) (at_ + 1) c2)).setIfInBounds (o + 3) (.slice (some A) at_ c)) ∧ EvT (fun k => k = b) w w'
set_option maxRecDepth 100000 in
set_option maxHeartbeats 8000000 in
theorem splitI_any {w : World} {b o n c c2 : Nat} {ty : TypeId} {cs : Array Value} {A A2 : Addr} {l : List En} (hB : Blk w b ty cs) (k0 : cs[o]? = some (.bool false)) (k2 : cs[o + 2]? = some (.slice (some A2) (n + 1) c2)) (k3 : cs[o + 3]? = some (.slice (some A) n c))
 (hr : Reads w w.heap.size 3 (some A) n (vE l)) (hn : n ≤ 1000) (hnc : n ≤ c) (hcm : c ≤ maxLen) (hnc2 : n + 1 ≤ c2) (hcm2 : c2 ≤ maxLen) (hs : ∀ x ∈ l, x.s.size ≤ 9000) (hAb : A.block ≠ b) (h1 : 0 < cutP 1 (inSz l)) (h2 : cutP 1 (inSz l) + 1 < n) :
 Calls Tryz.prog 66 #[.pointer (some ⟨b, o, none⟩)] w (RetSpI w b o ty cs A2 c2 A n c l (cutP 1 (inSz l))) := by
 have hl : l.length = n := by have := hr.1; rw [vE_len] at this; omega
 have hbl : b < w.heap.size := hB.lt
 have CU := Lib.hid fun (W : World) (hb : Below w.heap.size w W) => cutI_any (some A) n c l W ((hr.below hb).more hb.size) hn hnc hcm (by omega) hs
 obtain ⟨i, hi⟩ : ∃ i, cutP 1 (inSz l) = i := ⟨_, rfl⟩
 rw [hi] at CU h1 h2 ⊢
 obtain ⟨x, hx⟩ : ∃ x, l[i]? = some x := ⟨_, List.getElem?_eq_getElem (by rw [hl]; omega)⟩
 obtain ⟨ad, hAd, hab, _, HXX⟩ := ent_of (w := w) hr hx
 injection hAd with hAd
 subst hAd
 have hb0 := ball (ball (Below.refl w.heap.size w) (.cells #[.string ⟨#[]⟩, .int .u32 0, .int .u16 0] 37)) (.cells #[.bool false, .int .u32 0, .slice none 0 0, .slice none 0 0] 75)
 have X0 := (Blk.new w 37 #[.string ⟨#[]⟩, .int .u32 0, .int .u16 0]).alloc (.cells #[.bool false, .int .u32 0, .slice none 0 0, .slice none 0 0] 75)
 have X1 := Blk.new (w.alloc (.cells #[.string ⟨#[]⟩, .int .u32 0, .int .u16 0] 37)) 75 #[.bool false, .int .u32 0, .slice none 0 0, .slice none 0 0]
 rw [alloc_size] at X1
 have H0 := Lib.hid (And.intro hB (And.intro X0 (And.intro X1 hb0)))
 have HK := Lib.hid (And.intro k0 (And.intro k2 k3))
 have HX := Lib.hid HXX
 have Hx := Lib.hid hx
 clear hB X0 X1 hb0 k0 k2 k3 HXX hx hi hr hs
 obtain ⟨xs, xp, xq⟩ := x
 obtain ⟨i', hi'⟩ : ∃ i', i + 1 = i' := ⟨_, rfl⟩
 have i0 : (0 : Int) ≤ (i : Int) := by omega
 have i1 : (i : Int) ≤ (c : Int) := by omega
 have i2 : (i : Int) < (n : Int) := by omega
 have i3 : (i : Int) ≤ (n : Int) := by omega
 have i4 : (n : Int) ≤ (c : Int) := by omega
 have hcI : (c : Int) ≤ 9223372036854775807 := by unfold maxLen at hcm; omega
 have hcI2 : (c2 : Int) ≤ 9223372036854775807 := by unfold maxLen at hcm2; omega
 have j0 : (0 : Int) ≤ (i' : Int) := by omega
 have j1 : (i' : Int) ≤ (c : Int) := by omega
 have j2 : (i' : Int) ≤ (n : Int) := by omega
 have j3 : (i' : Int) ≤ ((n + 1 : Nat) : Int) := by omega
 have j4 : (i' : Int) ≤ (c2 : Int) := by omega
 have j5 : ((n + 1 : Nat) : Int) ≤ (c2 : Int) := by omega
 have e9 : n + 1 - i' = n - i := by omega
 have nI : (n : Int) ≤ 1000 := by omega
 go_enter Tryz.func66, Tryz.ntmps66
 go_upto_region 1 with fail
 obtain ⟨WX, hWX⟩ : ∃ WX, ((w.alloc (.cells #[.string ⟨#[]⟩, .int .u32 0, .int .u16 0] 37)).alloc (.cells #[.bool false, .int .u32 0, .slice none 0 0, .slice none 0 0] 75)) = WX := ⟨_, rfl⟩
 rw [hWX] at H0 ⊢
 have hzX : WX.heap.size = w.heap.size + 1 + 1 := by rw [← hWX]; simp
 clear hWX
 have B0 := H0.out.1.below H0.out.2.2.2 hbl
 have e0 : WX.cell? ⟨b, o, none⟩ = some (.bool false) := (B0.cell o).trans HK.out.1
 have e3 : WX.cell? ⟨b, o + 3, none⟩ = some (.slice (some A) n c) := (B0.cell (o + 3)).trans HK.out.2.2
 have C1 := Lib.hid (CU.out _ H0.out.2.2.2)
 clear B0 CU
 go_wp2_with fail
 refine C1.out.mono ?_
 rintro e w1 ⟨rfl, hb1⟩
 have B1 := (H0.out.1.below H0.out.2.2.2 hbl).below hb1 (by omega)
 have X0' := H0.out.2.1.below hb1 (by omega)
 have X1' := H0.out.2.2.1.below hb1 (by omega)
 have hbw1 := bto0 H0.out.2.2.2 hb1
 have hz1 : w.heap.size + 1 + 1 ≤ w1.heap.size := by have := hb1.size; omega
 have H1 := Lib.hid (And.intro B1 (And.intro X0' (And.intro X1' hbw1)))
 clear B1 X0' X1' hb1 hbw1 C1 e0 e3
 have e3 : w1.cell? ⟨b, o + 3, none⟩ = some (.slice (some A) n c) := (H1.out.1.cell (o + 3)).trans HK.out.2.2
 obtain ⟨u0, u1, u2⟩ := HX.out _ H1.out.2.2.2
 go_wp2_with fail
 have B7 := H1.out.1.alloc (.cells #[.string xs, .int .u32 xp, .int .u16 xq] 37)
 have X7 := H1.out.2.1.alloc (.cells #[.string xs, .int .u32 xp, .int .u16 xq] 37)
 have Y7 := H1.out.2.2.1.alloc (.cells #[.string xs, .int .u32 xp, .int .u16 xq] 37)
 have Z7 := Blk.new w1 37 #[.string xs, .int .u32 xp, .int .u16 xq]
 have b7 := ball H1.out.2.2.2 (.cells #[.string xs, .int .u32 xp, .int .u16 xq] 37)
 have hz7 : (w1.alloc (.cells #[.string xs, .int .u32 xp, .int .u16 xq] 37)).heap.size = w1.heap.size + 1 := by simp
 obtain ⟨W7, hW7⟩ : ∃ W7, (w1.alloc (.cells #[.string xs, .int .u32 xp, .int .u16 xq] 37)) = W7 := ⟨_, rfl⟩
 rw [hW7] at B7 X7 Y7 Z7 b7 hz7 ⊢
 have g2 : W7.cell? ⟨b, o + 2, none⟩ = some (.slice (some A2) (n + 1) c2) := (B7.cell (o + 2)).trans HK.out.2.1
 have g3 : W7.cell? ⟨b, o + 3, none⟩ = some (.slice (some A) n c) := (B7.cell (o + 3)).trans HK.out.2.2
 have H7 := Lib.hid (And.intro B7 (And.intro X7 (And.intro Y7 (And.intro Z7 b7))))
 have s1 : (i : Int) + 1 = (i' : Int) := by omega
 have s2 : IntKind.i64.wrap (i' : Int) = (i' : Int) := IntWalk.i64_in _ (by omega)
 have s3 : IntKind.i64.wrap ((i : Int) + 1) = (i' : Int) := by rw [s1, s2]
 have hb7l : b < W7.heap.size := by omega
 have hbne : b ≠ W7.heap.size := by omega
 have j3' : (i' : Int) ≤ (n : Int) + 1 := by omega
 have HZ7 := Lib.hid hz7
 clear B7 X7 Y7 Z7 b7 hW7 u0 u1 u2 e3 hz7
 go_region
 go_wp2_with fail
 have hz8 : (W7.alloc (.cells #[.bool false, .int .u32 0, .slice (some (A2.add i')) (n - i) (c2 - i'), .slice (some (A.add (i' * 3))) (n - i') (c - i')] 75)).heap.size = W7.heap.size + 1 := by simp
 have B8 := H7.out.1.alloc (.cells #[.bool false, .int .u32 0, .slice (some (A2.add i')) (n - i) (c2 - i'), .slice (some (A.add (i' * 3))) (n - i') (c - i')] 75)
 have X8 := H7.out.2.1.alloc (.cells #[.bool false, .int .u32 0, .slice (some (A2.add i')) (n - i) (c2 - i'), .slice (some (A.add (i' * 3))) (n - i') (c - i')] 75)
 have Y8 := H7.out.2.2.1.alloc (.cells #[.bool false, .int .u32 0, .slice (some (A2.add i')) (n - i) (c2 - i'), .slice (some (A.add (i' * 3))) (n - i') (c - i')] 75)
 have Z8 := H7.out.2.2.2.1.alloc (.cells #[.bool false, .int .u32 0, .slice (some (A2.add i')) (n - i) (c2 - i'), .slice (some (A.add (i' * 3))) (n - i') (c - i')] 75)
 have N8 := Blk.new W7 75 #[.bool false, .int .u32 0, .slice (some (A2.add i')) (n - i) (c2 - i'), .slice (some (A.add (i' * 3))) (n - i') (c - i')]
 have b8 := ball H7.out.2.2.2.2 (.cells #[.bool false, .int .u32 0, .slice (some (A2.add i')) (n - i) (c2 - i'), .slice (some (A.add (i' * 3))) (n - i') (c - i')] 75)
 obtain ⟨W8, hW8⟩ : ∃ W8, (W7.alloc (.cells #[.bool false, .int .u32 0, .slice (some (A2.add i')) (n - i) (c2 - i'), .slice (some (A.add (i' * 3))) (n - i') (c - i')] 75)) = W8 := ⟨_, rfl⟩
 rw [hW8] at B8 X8 Y8 Z8 N8 b8 hz8 ⊢
 clear g2 g3 hW8
 have g2 : W8.cell? ⟨b, o + 2, none⟩ = some (.slice (some A2) (n + 1) c2) := (B8.cell (o + 2)).trans HK.out.2.1
 have g3 : W8.cell? ⟨b, o + 3, none⟩ = some (.slice (some A) n c) := (B8.cell (o + 3)).trans HK.out.2.2
 have f2 := B8.frozen (o + 2)
 have f3 := B8.frozen (o + 3)
 have hb8l := B8.lt
 have H8 := Lib.hid (And.intro B8 (And.intro X8 (And.intro Y8 (And.intro Z8 (And.intro N8 b8)))))
 have HZ8 := Lib.hid hz8
 clear B8 X8 Y8 Z8 N8 b8 hz8 hbne hb7l
 go_region
 go_wp2_with fail
 have hw7 : w1.heap.size < W7.heap.size := by have := HZ7.out; omega
 have hw0 : w.heap.size + 1 < w1.heap.size := by omega
 have E9 : EvT (fun k => k = b) w ((W8.setCell ⟨b, o + 2, none⟩ (.slice (some A2) i' c2)).setCell ⟨b, o + 3, none⟩ (.slice (some A) i c)) :=
  ((EvT.of_below (O := fun k => k = b) H8.out.2.2.2.2.2).store (p := ⟨b, o + 2, none⟩) (.inr rfl) _).store (p := ⟨b, o + 3, none⟩) (.inr rfl) _
 have B9 := (H8.out.1.set_ (o + 2) (.slice (some A2) i' c2)).set_ (o + 3) (.slice (some A) i c)
 have X9 := farS2 H8.out.2.1 (show w.heap.size ≠ b by omega) (i := o + 2) (j := o + 3) (a := .slice (some A2) i' c2) (b := .slice (some A) i c)
 have Y9 := farS2 H8.out.2.2.1 (show w.heap.size + 1 ≠ b by omega) (i := o + 2) (j := o + 3) (a := .slice (some A2) i' c2) (b := .slice (some A) i c)
 have Z9 := farS2 H8.out.2.2.2.1 (show w1.heap.size ≠ b by omega) (i := o + 2) (j := o + 3) (a := .slice (some A2) i' c2) (b := .slice (some A) i c)
 have N9 := farS2 H8.out.2.2.2.2.1 (show W7.heap.size ≠ b by omega) (i := o + 2) (j := o + 3) (a := .slice (some A2) i' c2) (b := .slice (some A) i c)
 obtain ⟨W9, hW9⟩ : ∃ W9, ((W8.setCell ⟨b, o + 2, none⟩ (.slice (some A2) i' c2)).setCell ⟨b, o + 3, none⟩ (.slice (some A) i c)) = W9 := ⟨_, rfl⟩
 rw [hW9] at E9 B9 X9 Y9 Z9 N9 ⊢
 clear hW9 g2 g3 f2 f3
 have q0 : W9.cell? ⟨W7.heap.size, 0, none⟩ = some (.bool false) := N9.cell 0
 have q1 : W9.cell? ⟨W7.heap.size, 1, none⟩ = some (.int .u32 0) := N9.cell 1
 have q2 : W9.cell? ⟨W7.heap.size, 2, none⟩ = some (.slice (some (A2.add i')) (n - i) (c2 - i')) := N9.cell 2
 have q3 : W9.cell? ⟨W7.heap.size, 3, none⟩ = some (.slice (some (A.add (i' * 3))) (n - i') (c - i')) := N9.cell 3
 have v0 : W9.cell? ⟨w1.heap.size, 0, none⟩ = some (.string xs) := Z9.cell 0
 have v1 : W9.cell? ⟨w1.heap.size, 1, none⟩ = some (.int .u32 xp) := Z9.cell 1
 have v2 : W9.cell? ⟨w1.heap.size, 2, none⟩ = some (.int .u16 xq) := Z9.cell 2
 have p0 : W9.cell? ⟨w.heap.size, 0, none⟩ = some (.string ⟨#[]⟩) := X9.cell 0
 have p1 : W9.cell? ⟨w.heap.size, 1, none⟩ = some (.int .u32 0) := X9.cell 1
 have p2 : W9.cell? ⟨w.heap.size, 2, none⟩ = some (.int .u16 0) := X9.cell 2
 have r0 : W9.cell? ⟨w.heap.size + 1, 0, none⟩ = some (.bool false) := Y9.cell 0
 have r1 : W9.cell? ⟨w.heap.size + 1, 1, none⟩ = some (.int .u32 0) := Y9.cell 1
 have r2 : W9.cell? ⟨w.heap.size + 1, 2, none⟩ = some (.slice none 0 0) := Y9.cell 2
 have r3 : W9.cell? ⟨w.heap.size + 1, 3, none⟩ = some (.slice none 0 0) := Y9.cell 3
 have fp0 := X9.frozen 0
 have fp1 := X9.frozen 1
 have fp2 := X9.frozen 2
 have fr0 := Y9.frozen 0
 have fr1 := Y9.frozen 1
 have fr2 := Y9.frozen 2
 have fr3 := Y9.frozen 3
 have lp := X9.lt
 have lr := Y9.lt
 have n1 : w.heap.size ≠ w1.heap.size := by omega
 have n2 : w.heap.size + 1 ≠ w1.heap.size := by omega
 have n3 : W7.heap.size ≠ w.heap.size := by omega
 have n4 : W7.heap.size ≠ w.heap.size + 1 := by omega
 have n5 : w1.heap.size ≠ w.heap.size := by omega
 have n6 : w1.heap.size ≠ w.heap.size + 1 := by omega
 have HH := Lib.hid (And.intro B9 (And.intro X9 (And.intro Y9 E9)))
 have HI := Lib.hid hi'
 clear B9 X9 Y9 Z9 N9 E9 hi'
 go_region
 go_wp2_with fail
 have hXf := set3e HH.out.2.1 (a' := .string xs) (b' := .int .u32 xp) (c' := .int .u16 xq)
 have hYf := blk4 (far3 HH.out.2.2.1 (show w.heap.size ≠ w.heap.size + 1 by omega) (a := .string xs) (b := .int .u32 xp) (c := .int .u16 xq)) (a' := .bool false) (b' := .int .u32 0) (c' := .slice (some (A2.add i')) (n - i) (c2 - i')) (d' := .slice (some (A.add (i' * 3))) (n - i') (c - i'))
 have hXg := far4 hXf (show w.heap.size + 1 ≠ w.heap.size by omega) (a := .bool false) (b := .int .u32 0) (c := .slice (some (A2.add i')) (n - i) (c2 - i')) (d := .slice (some (A.add (i' * 3))) (n - i') (c - i'))
 have hBf := far4 (far3 HH.out.1 (show w.heap.size ≠ b by omega) (a := .string xs) (b := .int .u32 xp) (c := .int .u16 xq)) (show w.heap.size + 1 ≠ b by omega) (a := .bool false) (b := .int .u32 0) (c := .slice (some (A2.add i')) (n - i) (c2 - i')) (d := .slice (some (A.add (i' * 3))) (n - i') (c - i'))
 have hEf := EvT.set7 HH.out.2.2.2 (.string xs) (.int .u32 xp) (.int .u16 xq) (.bool false) (.int .u32 0) (.slice (some (A2.add i')) (n - i) (c2 - i')) (.slice (some (A.add (i' * 3))) (n - i') (c - i'))
 refine sp_end hXg.drew.drew.drew hYf.drew.drew.drew rfl rfl ⟨⟨xs, xp, xq⟩, Hx.out, ?_, ?_, hEf.drew.drew.drew⟩
 · rw [HI.out]
 · rw [HI.out]; exact hBf.drew.drew.drew
end
end Go.Proofs.YtebobcbaloddaaaGreat
namespace Go.Proofs.YtebobcbaloddaaaGreat
section
set_option linter.unusedSimpArgs false
set_option linter.unusedVariables false
open Go.RowKit Go.Maps
theorem Blk.ty {w : World} {g : Nat} {t t' : TypeId} {cs cs' : Array Value} (h : Blk w g t cs) (k : Blk w g t' cs') : t = t' := by
 have := (h.symm.trans k : some (Obj.cells cs t) = some (Obj.cells cs' t'))
 injection this with this
 injection this
def ChO (Bc : Nat) (P Y : S11) (b : Nat) : Prop := b = Bc ∨ P.own b ∨ Y.own b
structure ChS (w : World) (z Bc g : Nat) (P Y : S11) (ns : List Nat) (bs : List (List UInt8)) : Prop where
 blk : Blk w Bc 85 #[.pointer (some ⟨g, 0, none⟩), P.v, Y.v]
 hz : z ≤ Bc
 pg : w.ownsRow z 30 1 P.v P.n (vN ns)
 by_ : ∃ ys, w.ownsRow z 58 1 Y.v Y.n ys ∧ ys.length = bs.length ∧ ∀ (k : Nat) v L, ys[k]? = some v → bs[k]? = some L → Own w z v L
section
variable {w w' w6 : World} {z Bc g : Nat} {P Y : S11} {ns : List Nat} {bs : List (List UInt8)} {O : Nat → Prop}
theorem ChS.len (h : ChS w z Bc g P Y ns bs) : P.n = ns.length ∧ Y.n = bs.length := by
 obtain ⟨ys, h1, h2, _⟩ := h.by_
 have a := h.pg.1; have b := h1.1
 rw [vN_len] at a
 omega
theorem ChS.stays (h : ChS w z Bc g P Y ns bs) (hv : EvT O w w') (hO : ∀ b, O b → b < z) (hzw : z ≤ w.heap.size) : ChS w' z Bc g P Y ns bs := by
 obtain ⟨ys, h1, h2, h3⟩ := h.by_
 have hn : ∀ {e : TypeId} {size n : Nat} {v : Value} {xs : List Value}, w.ownsRow z e size v n xs → ∀ b, v.ownBlock = some b → ¬ O b := fun ho b e e2 => by
  have := (World.ownsRow.lt ho b e).1; have := hO b e2; omega
 exact ⟨hv.blk h.blk fun e => by have := hO _ e; have := h.hz; omega, h.hz, hv.own h.pg (hn h.pg), ys, hv.own h1 (hn h1), h2, fun k v L a b => hv.own (h3 k v L a b) (hn (h3 k v L a b))⟩
theorem ChS.pushP {o : Obj} {v' : Value} (h : ChS w z Bc g P Y ns bs) (p : Nat) (ho : w6.ownsRow z 30 1 v' (P.n + 1) (vN ns ++ [.int .u32 (p : Int)])) (hg : (w.alloc o).grownBy w6 P.v.ownBlock) (hv : v'.ownBlock = P.v.ownBlock ∨ v'.ownBlock = some (w.heap.size + 1)) :
 ∃ A c, v' = .slice A (P.n + 1) c ∧ ChS (w6.setCell ⟨Bc, 1, none⟩ (.slice A (P.n + 1) c)) z Bc g ⟨A, P.n + 1, c⟩ Y (ns ++ [p]) bs ∧ EvT (ChO Bc P Y) w (w6.setCell ⟨Bc, 1, none⟩ (.slice A (P.n + 1) c)) ∧ (∀ b, ChO Bc ⟨A, P.n + 1, c⟩ Y b → ChO Bc P Y b ∨ w.heap.size ≤ b) ∧ Blk w6 Bc 85 #[.pointer (some ⟨g, 0, none⟩), P.v, Y.v] := by
 obtain ⟨A, c, rfl, hc⟩ := own_form ho
 rw [← vN_snoc] at ho
 obtain ⟨ys, h1, h2, h3⟩ := h.by_
 have e1 : EvT P.own w w6 := (EvT.of_below (O := P.own) (ball (Below.refl _ _) _)).trans (EvT.of_grown (O := P.own) hg fun g e => .inl e) fun g e => .inl e
 have hBc : ¬ P.own Bc := fun e => own_blk_ne h.pg h.blk (by decide) e
 have hBn : ¬ (Value.slice A (P.n + 1) c).ownBlock = some Bc := fun e => by
  rcases hv with k | k
  · exact hBc (k.symm.trans e)
  · have := k.symm.trans e; injection this with this; have := h.blk.lt; omega
 have b6 := e1.blk h.blk hBc
 have hne : ∀ {e : TypeId} {size n : Nat} {v : Value} {xs : List Value}, w.ownsRow z e size v n xs → e ≠ 30 → ∀ b, v.ownBlock = some b → ¬ P.own b := fun ho hne b e e2 => by
  obtain ⟨cs, hb⟩ := own_blk17 ho e
  exact own_blk_ne h.pg hb (fun k => hne k.symm) e2
 have hfar : ∀ {e : TypeId} {size n : Nat} {v : Value} {xs : List Value}, w6.ownsRow z e size v n xs → e ≠ 85 → (w6.setCell ⟨Bc, 1, none⟩ (.slice A (P.n + 1) c)).ownsRow z e size v n xs := fun ho hne => own_far ho b6 hne 1 _
 refine ⟨A, c, rfl, ⟨by have := b6.set_ 1 (.slice A (P.n + 1) c); simpa using this, h.hz, hfar ho (by decide), ys, hfar (e1.own h1 (hne h1 (by decide))) (by decide), h2, fun k v L a b => hfar (e1.own (h3 k v L a b) (hne (h3 k v L a b) (by decide))) (by decide)⟩, (e1.mono fun g e => .inl (.inr (.inl e))).store (p := ⟨Bc, 1, none⟩) (.inr (.inl rfl)) _, ?_, b6⟩
 rintro b (e | e | e)
 · exact .inl (.inl e)
 · rcases hv with k | k
   · exact .inl (.inr (.inl (k.symm.trans e)))
   · have e : (Value.slice A (P.n + 1) c).ownBlock = some b := e
     have := k.symm.trans e; injection this with this; exact .inr (by omega)
 · exact .inl (.inr (.inr e))
theorem ChS.pushY {o : Obj} {v' v : Value} {L : List UInt8} (h : ChS w z Bc g P Y ns bs) {ys : List Value} (hys : w.ownsRow z 58 1 Y.v Y.n ys ∧ ys.length = bs.length ∧ ∀ (k : Nat) v L, ys[k]? = some v → bs[k]? = some L → Own w z v L) (hL : Own w z v L) (ho : w6.ownsRow z 58 1 v' (Y.n + 1) (ys ++ [v])) (hg : (w.alloc o).grownBy w6 Y.v.ownBlock) (hv : v'.ownBlock = Y.v.ownBlock ∨ v'.ownBlock = some (w.heap.size + 1)) :
 ∃ A c, v' = .slice A (Y.n + 1) c ∧ ChS (w6.setCell ⟨Bc, 2, none⟩ (.slice A (Y.n + 1) c)) z Bc g P ⟨A, Y.n + 1, c⟩ ns (bs ++ [L]) ∧ EvT (ChO Bc P Y) w (w6.setCell ⟨Bc, 2, none⟩ (.slice A (Y.n + 1) c)) ∧ (∀ b, ChO Bc P ⟨A, Y.n + 1, c⟩ b → ChO Bc P Y b ∨ w.heap.size ≤ b) ∧ Blk w6 Bc 85 #[.pointer (some ⟨g, 0, none⟩), P.v, Y.v] := by
 obtain ⟨A, c, rfl, hc⟩ := own_form ho
 obtain ⟨h1, h2, h3⟩ := hys
 have e1 : EvT Y.own w w6 := (EvT.of_below (O := Y.own) (ball (Below.refl _ _) _)).trans (EvT.of_grown (O := Y.own) hg fun g e => .inl e) fun g e => .inl e
 have hBc : ¬ Y.own Bc := fun e => own_blk_ne h1 h.blk (by decide) e
 have b6 := e1.blk h.blk hBc
 have hne : ∀ {e : TypeId} {size n : Nat} {v : Value} {xs : List Value}, w.ownsRow z e size v n xs → e ≠ 58 → ∀ b, v.ownBlock = some b → ¬ Y.own b := fun ho hne b e e2 => by
  obtain ⟨cs, hb⟩ := own_blk17 ho e
  exact own_blk_ne h1 hb (fun k => hne k.symm) e2
 have hfar : ∀ {e : TypeId} {size n : Nat} {v : Value} {xs : List Value}, w6.ownsRow z e size v n xs → e ≠ 85 → (w6.setCell ⟨Bc, 2, none⟩ (.slice A (Y.n + 1) c)).ownsRow z e size v n xs := fun ho hne => own_far ho b6 hne 2 _
 refine ⟨A, c, rfl, ⟨by have := b6.set_ 2 (.slice A (Y.n + 1) c); simpa using this, h.hz, hfar (e1.own h.pg (hne h.pg (by decide))) (by decide), ys ++ [v], hfar ho (by decide), by simp [h2], fun k u L' a b => ?_⟩, (e1.mono fun g e => .inl (.inr (.inr e))).store (p := ⟨Bc, 2, none⟩) (.inr (.inl rfl)) _, ?_, b6⟩
 · have hown : ∀ {u L'}, Own w z u L' → Own (w6.setCell ⟨Bc, 2, none⟩ (.slice A (Y.n + 1) c)) z u L' := fun ho => hfar (e1.own ho (hne ho (by decide))) (by decide)
   rcases Nat.lt_or_ge k ys.length with hk | hk
   · rw [List.getElem?_append_left hk] at a
     rw [List.getElem?_append_left (by omega)] at b
     exact hown (h3 k u L' a b)
   · rw [List.getElem?_append_right hk] at a
     rw [List.getElem?_append_right (by omega)] at b
     have hk0 : k - ys.length = 0 := by have := lt_of_at a; simp at this; omega
     have hk1 : k - bs.length = 0 := by omega
     rw [hk0] at a; rw [hk1] at b
     simp at a b
     subst a; subst b
     exact hown hL
 · rintro b (e | e | e)
   · exact .inl (.inl e)
   · exact .inl (.inr (.inl e))
   · rcases hv with k | k
     · exact .inl (.inr (.inr (k.symm.trans e)))
     · have e : (Value.slice A (Y.n + 1) c).ownBlock = some b := e
       have := k.symm.trans e; injection this with this; exact .inr (by omega)
theorem ChS.ne (h : ChS w z Bc g P Y ns bs) {b : Nat} {t : TypeId} {cs : Array Value} (hb : Blk w b t cs) (h1 : t ≠ 85) (h2 : 30 ≠ t) (h3 : 58 ≠ t) : ¬ ChO Bc P Y b := by
 obtain ⟨ys, k1, _⟩ := h.by_
 rintro (e | e | e)
 · subst e; exact h1 (hb.ty h.blk)
 · exact own_blk_ne h.pg hb h2 e
 · exact own_blk_ne k1 hb h3 e
theorem ChS.ne8 (h : ChS w z Bc g P Y ns bs) {base size n : Nat} {v : Value} {xs : List Value} (ho : w.ownsRow base 5 size v n xs) : ∀ b, v.ownBlock = some b → ¬ ChO Bc P Y b := fun b e => by
 obtain ⟨cs, hb⟩ := own_blk17 ho e
 exact h.ne hb (by decide) (by decide) (by decide)
end
theorem Tryz.infoBs11 : (Tryz.prog.info? 58).map (fun i => (i.zero, i.size, i.bytes)) = some (some (.slice none 0 0), 1, 24) := by kernel_rfl
def RetPut (w : World) (z Bc g : Nat) (P Y : S11) (ns : List Nat) (bs : List (List UInt8)) (e : Ending) (w' : World) : Prop :=
 ∃ P' Y', e = .returned (.int .i64 0) ∧ ChS w' z Bc g P' Y' ns bs ∧ EvT (ChO Bc P Y) w w' ∧ ∀ b, ChO Bc P' Y' b → ChO Bc P Y b ∨ w.heap.size ≤ b
theorem putInner_kid (A0 : Option Addr) (c0 : Nat) (A : Option Addr) (n c : Nat) (l : List En) (kids : List Nat) (w : World) (hr : Reads w w.heap.size 3 A n (vE l)) (hr0 : Reads w w.heap.size 1 A0 (n + 1) (vN kids)) (hok : ∀ e ∈ l, e.ok) (hch : ∀ x ∈ kids, x < 4294967296) (h2 : n ≠ 0) (hm : mayEn l = true) (hf : sumE l + 4 * n ≤ 500) :
 Calls Tryz.prog 54 #[.slice A0 (n + 1) c0, .slice A n c] w (RetLf w (kidL kids l)) := by
 have hl : l.length = n := by have := hr.1; rw [vE_len] at this; omega
 cases kids with
 | nil => have := hr0.1; simp [vN] at this
 | cons a r =>
   have := putInner_ok A0 c0 A n c l a r w hr hr0 hok hch h2 hm hf
   unfold kidL
   rw [hl]
   exact this
set_option maxRecDepth 100000 in
set_option maxHeartbeats 8000000 in
theorem putL_any {w : World} {z Bc g : Nat} {P Y : S11} {ns : List Nat} {bs : List (List UInt8)} (h : ChS w z Bc g P Y ns bs) (hns : ns.length ≤ 1000) (hbs : bs.length ≤ 1000) (hz : z ≤ w.heap.size) (p : Nat) (N : Nat) (hN : N < 4294967296) (A : Option Addr) (m c : Nat) (l : List En) (hr : Reads w w.heap.size 3 A m (vE l)) (hok : ∀ e ∈ l, e.ok) (hm : mayEn l = true) (hf : sumE l ≤ 504) :
 Calls Tryz.prog 65 #[.pointer (some ⟨Bc, 0, none⟩), .int .u32 (p : Int), .agg #[.bool true, .int .u32 (N : Int), .slice none 0 0, .slice A m c]] w (RetPut w z Bc g P Y (ns ++ [p]) (bs ++ [leafL N l])) := by
 obtain ⟨i1, hi1, hz1, hs1, hy1⟩ := int_info8 Tryz.infoN
 obtain ⟨i2, hi2, hz2, hs2, hy2⟩ := int_info8 Tryz.infoBs11
 have PL := Lib.hid fun (W : World) (hb : Below w.heap.size w W) => putLeaf_ok N hN A m c l W ((hr.below hb).more hb.size) hok hm hf
 obtain ⟨L, hL⟩ : ∃ L, leafL N l = L := ⟨_, rfl⟩
 rw [hL] at PL ⊢
 clear hL
 have hb0 := ball (Below.refl w.heap.size w) (.cells #[.bool true, .int .u32 (N : Int), .slice none 0 0, .slice A m c] 75)
 have X0 := Blk.new w 75 #[.bool true, .int .u32 (N : Int), .slice none 0 0, .slice A m c]
 have hw0 : (w.alloc (.cells #[.bool true, .int .u32 (N : Int), .slice none 0 0, .slice A m c] 75)).heap.size = w.heap.size + 1 := by simp
 clear hr hok hm hf hN
 obtain ⟨PA, Pn, Pc⟩ := P
 obtain ⟨YA, Yn, Yc⟩ := Y
 have hlen := h.len
 simp only at hlen
 have hPn : Pn + 1 ≤ 1000000000 := by omega
 have hYn : Yn + 1 ≤ 1000000000 := by omega
 clear hlen
 have H0 := Lib.hid (And.intro h (And.intro X0 hb0))
 clear h X0 hb0
 go_enter Tryz.func65, Tryz.ntmps65
 go_upto_region 3 with fail
 obtain ⟨WX, hWX⟩ : ∃ WX, (w.alloc (.cells #[.bool true, .int .u32 (N : Int), .slice none 0 0, .slice A m c] 75)) = WX := ⟨_, rfl⟩
 rw [hWX] at H0 hw0 ⊢
 clear hWX
 have y0 : WX.cell? ⟨w.heap.size, 0, none⟩ = some _ := H0.out.2.1.cell 0
 have y1 : WX.cell? ⟨w.heap.size, 1, none⟩ = some _ := H0.out.2.1.cell 1
 have y2 : WX.cell? ⟨w.heap.size, 2, none⟩ = some _ := H0.out.2.1.cell 2
 have y3 : WX.cell? ⟨w.heap.size, 3, none⟩ = some _ := H0.out.2.1.cell 3
 have PW := Lib.hid (PL.out _ H0.out.2.2)
 clear PL
 go_wp2_with fail
 refine PW.out.mono ?_
 rintro e w1 ⟨v1, rfl, own1, hb1⟩
 have hbw := bto0 H0.out.2.2 hb1
 have h1 := H0.out.1.stays (EvT.of_below (O := fun _ => False) hbw) (fun _ e => e.elim) hz
 have own1' := own1.mono (show z ≤ WX.heap.size by omega)
 have hz1w : WX.heap.size ≤ w1.heap.size := hb1.size
 have k1 : w1.cell? ⟨Bc, 1, none⟩ = some (.slice PA Pn Pc) := h1.blk.cell 1
 have l1 : Bc < w1.heap.size := h1.blk.lt
 have H1 := Lib.hid (And.intro h1 (And.intro own1' hbw))
 clear own1 own1' hb1 hbw h1 PW y0 y1 y2 y3
 have hzw : z ≤ w1.heap.size := by omega
 go_upto_region 7 with (at_builtin; go_loud (refine wpList_pushR (news := [.int .u32 (p : Int)]) rfl (.tmp 31) (.tmp 33) 73 rfl z 30 i1 _ 1 4 Tryz.underlying73 hi1 hz1 hs1 hy1 rfl (by decide) _ Pn (vN ns) rfl H1.out.1.pg rfl _ rfl rfl rfl (by intro u hu; rw [List.mem_singleton] at hu; subst hu; rfl) hPn (by omega) hzw ?_); intro v6 w6 ho6 hg6 hv6; obtain ⟨A7, c7, rfl, h7, e7, n7, b6⟩ := H1.out.1.pushP p ho6 hg6 hv6; have d1 : w6.cell? ⟨Bc, 1, none⟩ = some (.slice PA Pn Pc) := b6.cell 1; have f1 := b6.frozen 1; have m1 := b6.lt; have H7 := Lib.hid (And.intro h7 (And.intro e7 (And.intro n7 e7.size))); clear ho6 hg6 hv6 h7 e7 n7 b6)
 obtain ⟨w7, hw7⟩ : ∃ x, w6.setCell ⟨Bc, 1, none⟩ (.slice A7 (Pn + 1) c7) = x := ⟨_, rfl⟩
 rw [hw7] at H7 ⊢
 clear hw7 d1 f1 m1 k1
 have k2 : w7.cell? ⟨Bc, 2, none⟩ = some (.slice YA Yn Yc) := H7.out.1.blk.cell 2
 have l2 : Bc < w7.heap.size := H7.out.1.blk.lt
 have own7 := H7.out.2.1.own H1.out.2.1 (H1.out.1.ne8 H1.out.2.1)
 obtain ⟨ys, hys⟩ := H7.out.1.by_
 obtain ⟨Av, cv, rfl, hcv⟩ := Own.form (show Own w7 z v1 L from own7)
 have hz7 : z ≤ w7.heap.size := by have := H7.out.2.2.2; omega
 have H8 := Lib.hid (And.intro own7 hys)
 clear own7 hys
 have e7s := H7.out.2.2.2
 go_wp2_with (at_builtin; go_loud (refine wpList_pushR (news := [.slice Av L.length cv]) rfl (.tmp 41) (.tmp 43) 83 rfl z 58 i2 _ 1 24 Tryz.underlying83 hi2 hz2 hs2 hy2 rfl (by decide) _ Yn ys rfl H8.out.2.1 rfl _ rfl rfl rfl (by intro u hu; rw [List.mem_singleton] at hu; subst hu; rfl) hYn (by omega) hz7 ?_); intro v9 w9 ho9 hg9 hv9; obtain ⟨A9, c9, rfl, h9, e9, n9, b9⟩ := H7.out.1.pushY H8.out.2 H8.out.1 ho9 hg9 hv9; have d1 : w9.cell? ⟨Bc, 2, none⟩ = some (.slice YA Yn Yc) := b9.cell 2; have f1 := b9.frozen 2; have m1 := b9.lt; have H9 := Lib.hid (And.intro h9 (And.intro e9 (And.intro n9 e9.size))); clear ho9 hg9 hv9 h9 e9 n9 b9)
 go_ret
 have e17 := (EvT.of_below (O := ChO Bc ⟨PA, Pn, Pc⟩ ⟨YA, Yn, Yc⟩) H1.out.2.2).trans H7.out.2.1 (fun b e => .inl e)
 have z01 : w.heap.size ≤ w1.heap.size := by omega
 refine ⟨_, _, rfl, H9.out.1, e17.trans H9.out.2.1 (fun b e => (H7.out.2.2.1 b e).imp id fun k => by omega), fun b e => ?_⟩
 rcases H9.out.2.2.1 b e with k | k
 · exact (H7.out.2.2.1 b k).imp id fun k => by omega
 · exact .inr (by omega)
set_option maxRecDepth 100000 in
set_option maxHeartbeats 8000000 in
theorem putI_any {w : World} {z Bc g : Nat} {P Y : S11} {ns : List Nat} {bs : List (List UInt8)} (h : ChS w z Bc g P Y ns bs) (hns : ns.length ≤ 1000) (hbs : bs.length ≤ 1000) (hz : z ≤ w.heap.size) (p : Nat) (A0 : Option Addr) (c0 : Nat) (A : Option Addr) (m c : Nat) (l : List En) (kids : List Nat) (hr : Reads w w.heap.size 3 A m (vE l)) (hr0 : Reads w w.heap.size 1 A0 (m + 1) (vN kids)) (hok : ∀ e ∈ l, e.ok) (hch : ∀ x ∈ kids, x < 4294967296) (h2 : m ≠ 0) (hm : mayEn l = true) (hf : sumE l + 4 * m ≤ 500) (N : Int) :
 Calls Tryz.prog 65 #[.pointer (some ⟨Bc, 0, none⟩), .int .u32 (p : Int), .agg #[.bool false, .int .u32 N, .slice A0 (m + 1) c0, .slice A m c]] w (RetPut w z Bc g P Y (ns ++ [p]) (bs ++ [kidL kids l])) := by
 obtain ⟨i1, hi1, hz1, hs1, hy1⟩ := int_info8 Tryz.infoN
 obtain ⟨i2, hi2, hz2, hs2, hy2⟩ := int_info8 Tryz.infoBs11
 have hl : l.length = m := by have := hr.1; rw [vE_len] at this; omega
 have PL := Lib.hid fun (W : World) (hb : Below w.heap.size w W) => putInner_kid A0 c0 A m c l kids W ((hr.below hb).more hb.size) ((hr0.below hb).more hb.size) hok hch h2 hm hf
 obtain ⟨L, hL⟩ : ∃ L, kidL kids l = L := ⟨_, rfl⟩
 rw [hL] at PL ⊢
 clear hL
 have hb0 := ball (Below.refl w.heap.size w) (.cells #[.bool false, .int .u32 N, .slice A0 (m + 1) c0, .slice A m c] 75)
 have X0 := Blk.new w 75 #[.bool false, .int .u32 N, .slice A0 (m + 1) c0, .slice A m c]
 have hw0 : (w.alloc (.cells #[.bool false, .int .u32 N, .slice A0 (m + 1) c0, .slice A m c] 75)).heap.size = w.heap.size + 1 := by simp
 clear hr hr0 hok hch h2 hm hf hl
 obtain ⟨PA, Pn, Pc⟩ := P
 obtain ⟨YA, Yn, Yc⟩ := Y
 have hlen := h.len
 simp only at hlen
 have hPn : Pn + 1 ≤ 1000000000 := by omega
 have hYn : Yn + 1 ≤ 1000000000 := by omega
 clear hlen
 have H0 := Lib.hid (And.intro h (And.intro X0 hb0))
 clear h X0 hb0
 go_enter Tryz.func65, Tryz.ntmps65
 go_upto_region 3 with fail
 obtain ⟨WX, hWX⟩ : ∃ WX, (w.alloc (.cells #[.bool false, .int .u32 N, .slice A0 (m + 1) c0, .slice A m c] 75)) = WX := ⟨_, rfl⟩
 rw [hWX] at H0 hw0 ⊢
 clear hWX
 have y0 : WX.cell? ⟨w.heap.size, 0, none⟩ = some _ := H0.out.2.1.cell 0
 have y1 : WX.cell? ⟨w.heap.size, 1, none⟩ = some _ := H0.out.2.1.cell 1
 have y2 : WX.cell? ⟨w.heap.size, 2, none⟩ = some _ := H0.out.2.1.cell 2
 have y3 : WX.cell? ⟨w.heap.size, 3, none⟩ = some _ := H0.out.2.1.cell 3
 have PW := Lib.hid (PL.out _ H0.out.2.2)
 clear PL
 go_wp2_with fail
 refine PW.out.mono ?_
 rintro e w1 ⟨v1, rfl, own1, hb1⟩
 have hbw := bto0 H0.out.2.2 hb1
 have h1 := H0.out.1.stays (EvT.of_below (O := fun _ => False) hbw) (fun _ e => e.elim) hz
 have own1' := own1.mono (show z ≤ WX.heap.size by omega)
 have hz1w : WX.heap.size ≤ w1.heap.size := hb1.size
 have k1 : w1.cell? ⟨Bc, 1, none⟩ = some (.slice PA Pn Pc) := h1.blk.cell 1
 have l1 : Bc < w1.heap.size := h1.blk.lt
 have H1 := Lib.hid (And.intro h1 (And.intro own1' hbw))
 clear own1 own1' hb1 hbw h1 PW y0 y1 y2 y3
 have hzw : z ≤ w1.heap.size := by omega
 go_upto_region 7 with (at_builtin; go_loud (refine wpList_pushR (news := [.int .u32 (p : Int)]) rfl (.tmp 31) (.tmp 33) 73 rfl z 30 i1 _ 1 4 Tryz.underlying73 hi1 hz1 hs1 hy1 rfl (by decide) _ Pn (vN ns) rfl H1.out.1.pg rfl _ rfl rfl rfl (by intro u hu; rw [List.mem_singleton] at hu; subst hu; rfl) hPn (by omega) hzw ?_); intro v6 w6 ho6 hg6 hv6; obtain ⟨A7, c7, rfl, h7, e7, n7, b6⟩ := H1.out.1.pushP p ho6 hg6 hv6; have d1 : w6.cell? ⟨Bc, 1, none⟩ = some (.slice PA Pn Pc) := b6.cell 1; have f1 := b6.frozen 1; have m1 := b6.lt; have H7 := Lib.hid (And.intro h7 (And.intro e7 (And.intro n7 e7.size))); clear ho6 hg6 hv6 h7 e7 n7 b6)
 obtain ⟨w7, hw7⟩ : ∃ x, w6.setCell ⟨Bc, 1, none⟩ (.slice A7 (Pn + 1) c7) = x := ⟨_, rfl⟩
 rw [hw7] at H7 ⊢
 clear hw7 d1 f1 m1 k1
 have k2 : w7.cell? ⟨Bc, 2, none⟩ = some (.slice YA Yn Yc) := H7.out.1.blk.cell 2
 have l2 : Bc < w7.heap.size := H7.out.1.blk.lt
 have own7 := H7.out.2.1.own H1.out.2.1 (H1.out.1.ne8 H1.out.2.1)
 obtain ⟨ys, hys⟩ := H7.out.1.by_
 obtain ⟨Av, cv, rfl, hcv⟩ := Own.form (show Own w7 z v1 L from own7)
 have hz7 : z ≤ w7.heap.size := by have := H7.out.2.2.2; omega
 have H8 := Lib.hid (And.intro own7 hys)
 clear own7 hys
 have e7s := H7.out.2.2.2
 go_wp2_with (at_builtin; go_loud (refine wpList_pushR (news := [.slice Av L.length cv]) rfl (.tmp 41) (.tmp 43) 83 rfl z 58 i2 _ 1 24 Tryz.underlying83 hi2 hz2 hs2 hy2 rfl (by decide) _ Yn ys rfl H8.out.2.1 rfl _ rfl rfl rfl (by intro u hu; rw [List.mem_singleton] at hu; subst hu; rfl) hYn (by omega) hz7 ?_); intro v9 w9 ho9 hg9 hv9; obtain ⟨A9, c9, rfl, h9, e9, n9, b9⟩ := H7.out.1.pushY H8.out.2 H8.out.1 ho9 hg9 hv9; have d1 : w9.cell? ⟨Bc, 2, none⟩ = some (.slice YA Yn Yc) := b9.cell 2; have f1 := b9.frozen 2; have m1 := b9.lt; have H9 := Lib.hid (And.intro h9 (And.intro e9 (And.intro n9 e9.size))); clear ho9 hg9 hv9 h9 e9 n9 b9)
 go_ret
 have e17 := (EvT.of_below (O := ChO Bc ⟨PA, Pn, Pc⟩ ⟨YA, Yn, Yc⟩) H1.out.2.2).trans H7.out.2.1 (fun b e => .inl e)
 have z01 : w.heap.size ≤ w1.heap.size := by omega
 refine ⟨_, _, rfl, H9.out.1, e17.trans H9.out.2.1 (fun b e => (H7.out.2.2.1 b e).imp id fun k => by omega), fun b e => ?_⟩
 rcases H9.out.2.2.1 b e with k | k
 · exact (H7.out.2.2.1 b k).imp id fun k => by omega
 · exact .inr (by omega)
end
end Go.Proofs.YtebobcbaloddaaaGreat
namespace Go.Proofs.YtebobcbaloddaaaGreat
section
set_option linter.unusedSimpArgs false
set_option linter.unusedVariables false
open Go.RowKit Go.Maps
theorem EvT.of_lf {w w' : World} {gb gt : Nat} (h : Lf w w' gb gt) : EvT (fun k => k = gb ∨ k = gt) w w' :=
 have b := h.below 0 (Nat.zero_le _) (Nat.zero_le _) (Nat.zero_le _)
 ⟨b.os, b.tape, b.output, h.size, fun k hk ho => h.heap k hk (fun e => ho (.inl e)) (fun e => ho (.inr e))⟩
theorem wrA_succ {ps : List (List UInt8)} {wr : List (Nat × List UInt8)} {k : Nat} {q : Nat × List UInt8} (h : wr[k]? = some q) : wrA ps (wr.take (k + 1)) = (wrA ps (wr.take k)).set q.1 q.2 := by
 rw [List.take_add_one, h]
 unfold wrA
 rw [List.foldl_append]; rfl
set_option maxRecDepth 100000 in
set_option maxHeartbeats 8000000 in
theorem bwrite_any {w : World} {z Bc g gb gt n : Nat} {ps : List (List UInt8)} {T : List Bool} {P Y : S11} {wr : List (Nat × List UInt8)} (hD : DP w g gb gt n ps T) (hn : n ≤ 10000) (h : ChS w z Bc g P Y (wr.map Prod.fst) (wr.map Prod.snd)) (hz : z ≤ w.heap.size) (hgb : gb < z) (hgt : gt < z)
 (hwr : ∀ q ∈ wr, q.1 < n ∧ T[q.1]? = some true ∧ q.2.length = 512) (hl : wr.length ≤ 1000) :
 Calls Tryz.prog 34 #[.pointer (some ⟨Bc, 0, none⟩)] w (fun e w' => e = .returned (.tuple #[]) ∧ DP w' g gb gt n (wrA ps wr) T ∧ Lf w w' gb gt) := by
 have hlen := h.len
 rw [List.length_map, List.length_map] at hlen
 obtain ⟨PA, Pn, Pc⟩ := P
 obtain ⟨YA, Yn, Yc⟩ := Y
 simp only at hlen
 obtain ⟨rfl, rfl⟩ : Pn = wr.length ∧ Yn = wr.length := hlen
 obtain ⟨m, hm⟩ : ∃ m, wr.length = m := ⟨_, rfl⟩
 have k1 : w.cell? ⟨Bc, 1, none⟩ = some (.slice PA m Pc) := by rw [← hm]; exact h.blk.cell 1
 have H0 := Lib.hid (And.intro hD (And.intro h (And.intro hwr hm)))
 rw [hm] at hl
 clear hD h hwr hm
 have mI : (m : Int) ≤ 1000 := by omega
 go_enter Tryz.func34, Tryz.ntmps34
 go_wp2_with fail
 go_loopw [9] (fun v9 wr_ => ∃ k : Nat, v9 = .int .i64 (k : Int) ∧ k ≤ m ∧ DP wr_ g gb gt n (wrA ps (wr.take k)) T ∧ Lf w wr_ gb gt) (fun v9 _ => m - (intOf v9).toNat)
 case atStart => exact ⟨0, rfl, Nat.zero_le _, H0.out.1, Lf.refl _ _ _⟩
 case round =>
  rename World => wo
  obtain ⟨k, rfl, hk, hD, hL⟩ := hrel
  have q0 : (0 : Int) ≤ (k : Int) := by omega
  by_cases hlt : k < m
  · have q1 : (k : Int) < (m : Int) := by omega
    obtain ⟨q, hq⟩ : ∃ q, wr[k]? = some q := ⟨_, List.getElem?_eq_getElem (by rw [H0.out.2.2.2]; exact hlt)⟩
    have hs := Lib.hid (wrA_succ (ps := ps) hq)
    obtain ⟨hqn, hqT, hql⟩ := H0.out.2.2.1 q (List.mem_of_getElem? hq)
    have hc := H0.out.2.1.stays (EvT.of_lf hL) (fun b e => by rcases e with rfl | rfl <;> assumption) hz
    obtain ⟨ys, y1, y2, y3⟩ := hc.by_
    rw [List.length_map, H0.out.2.2.2] at y2
    have hcp := hc.pg
    obtain ⟨p, Lq⟩ := q
    simp only at hqn hqT hql hs
    have hm0 := H0.out.2.2.2
    obtain ⟨ap, x, hap, _, hx, cp0⟩ := (Reads.of_own hcp).num (k := k) (by simp only; omega)
    rw [List.getElem?_map, hq] at hx
    injection hx with hx
    subst hx
    obtain ⟨ag, ug, hag, _, hug, cg0⟩ := (Reads.of_own y1).at_ (k := k) (by simp only; omega)
    have oq := y3 k ug Lq hug (by rw [List.getElem?_map, hq]; rfl)
    obtain ⟨A3, c3, rfl, hc3⟩ := oq.form
    rw [hql] at cg0 hug oq
    obtain ⟨ga, tl, rfl, hga, hblk, _, _⟩ := oq.open_ (by omega)
    have WR := Lib.hid fun (W : World) (hb : DP W g gb gt n (wrA ps (wr.take k)) T) (ho : Own W z (.slice (some ⟨ga, 0, none⟩) 512 c3) Lq) => writeDP hb p hqn (by omega) ⟨ga, 0, none⟩ c3 W.heap.size Lq ho.reads.1
    simp only at hap hag
    subst hap
    subst hag
    have e0 : wo.cell? ⟨Bc, 0, none⟩ = some (.pointer (some ⟨g, 0, none⟩)) := hc.blk.cell 0
    have e2 : wo.cell? ⟨Bc, 2, none⟩ = some (.slice (some ag) m Yc) := by have := hc.blk.cell 2; rw [← hm0]; exact this
    have hTs := set_same hqT
    have HW := Lib.hid (And.intro hD (And.intro oq (And.intro hL hTs)))
    have WW := Lib.hid (WR.out wo.drew hD.drew oq.drew)
    clear hD oq hL hc y1 y2 y3 hcp hug hq hblk hTs hm0 WR
    go_wp2_with fail
    go_region_with (with_reducible refine WW.out.mono ?_; rintro e w5 ⟨rfl, lf5⟩; have H5 := Lib.hid lf5; clear lf5)
    all_goals (go_wp2_with fail)
    all_goals (
     have hD5 := H5.out.1
     rw [← hs.out, HW.out.2.2.2] at hD5
     exact ⟨⟨k + 1, by go_num, by omega, hD5, (HW.out.2.2.1.trans (Lf.of_below (Below.drew (Below.refl _ _)))).trans (Lf.of_left H5.out)⟩, by simp [intOf]; omega⟩)
  · have hk' : k = m := by omega
    have q1 : (m : Int) ≤ (k : Int) := by omega
    have hT : wrA ps (wr.take k) = wrA ps wr := by rw [List.take_of_length_le (by have := H0.out.2.2.2; omega)]
    rw [hT] at hD
    have H1 := Lib.hid (And.intro hD hL)
    clear hD hL hT hk'
    go_wp2_with fail
    go_end0
    exact ⟨rfl, H1.out.1, H1.out.2⟩
end
end Go.Proofs.YtebobcbaloddaaaGreat
namespace Go.Proofs.YtebobcbaloddaaaGreat
section
set_option linter.unusedSimpArgs false
set_option linter.unusedVariables false
open Go.RowKit Go.Maps
structure Stp where
 lf : Bool
 N : Nat
 k : S11
 e : S11
 p : Nat
 i : Nat
def Stp.cells (s : Stp) : List Value := [.bool s.lf, .int .u32 (s.N : Int), s.k.v, s.e.v, .int .u32 (s.p : Int), .int .i64 (s.i : Int)]
def Stp.own (s : Stp) (g : Nat) : Prop := s.k.own g ∨ s.e.own g
def vSt (l : List Stp) : List Value := l.flatMap Stp.cells
theorem vSt_at {l : List Stp} {k : Nat} {v : Stp} (h : l[k]? = some v) (j : Nat) (hj : j < 6) : (vSt l)[k * 6 + j]? = v.cells[j]? := flat_at Stp.cells 6 l k v j (fun _ _ => rfl) h hj
theorem vSt_snoc (l : List Stp) (s : Stp) : vSt l ++ s.cells = vSt (l ++ [s]) := by simp [vSt]
theorem vSt_one (s : Stp) : ∀ u ∈ s.cells, u.oneCell' = true := by
 intro u hu
 simp only [Stp.cells, List.mem_cons, List.not_mem_nil, or_false] at hu
 rcases hu with rfl | rfl | rfl | rfl | rfl | rfl <;> rfl
structure StI (w : World) (z : Nat) (s : Stp) (f : Fr11) : Prop where
 lf : s.lf = false
 N : s.N = 0
 p : s.p = f.p
 i : s.i = f.i
 k : w.ownsRow z 30 1 s.k.v s.k.n (vN f.kids)
 e : w.ownsRow z 37 3 s.e.v s.e.n (vE f.seps)
structure StL (w : World) (z : Nat) (s : Stp) (p N : Nat) (es : List En) : Prop where
 lf : s.lf = true
 N : s.N = N
 p : s.p = p
 k : s.k = ⟨none, 0, 0⟩
 e : w.ownsRow z 37 3 s.e.v s.e.n (vE es)
def WayR (w : World) (a : Nat) : List Stp → List Fr11 → Nat → Prop
 | [], [], b => a ≤ b
 | s :: ss, f :: fs, b => ∃ m, m ≤ b ∧ StI w m s f ∧ (∀ g, s.own g → g < b) ∧ WayR w a ss fs m
 | _, _, _ => False
section
variable {w w' : World} {O : Nat → Prop}
def Oth (w : World) (O : Nat → Prop) (b : Nat) : Prop := ∀ g, O g → b ≤ g ∨ ∃ t cs, Blk w g t cs ∧ 30 ≠ t ∧ 37 ≠ t
theorem Oth.mono {b b' : Nat} (h : Oth w O b) (hb : b' ≤ b) : Oth w O b' := fun g e => (h g e).imp (fun k => Nat.le_trans hb k) id
theorem Oth.num {b base size n : Nat} {v : Value} {xs : List Value} (h : Oth w O b) (ho : w.ownsRow base 30 size v n xs) (hb : ∀ g, v.ownBlock = some g → g < b) : ∀ g, v.ownBlock = some g → ¬ O g := fun g e e2 => by
 rcases h g e2 with k | ⟨t, cs, k, h1, h2⟩
 · have := hb g e; omega
 · exact own_blk_ne ho k h1 e
theorem Oth.ent {b base size n : Nat} {v : Value} {xs : List Value} (h : Oth w O b) (ho : w.ownsRow base 37 size v n xs) (hb : ∀ g, v.ownBlock = some g → g < b) : ∀ g, v.ownBlock = some g → ¬ O g := fun g e e2 => by
 rcases h g e2 with k | ⟨t, cs, k, h1, h2⟩
 · have := hb g e; omega
 · exact own_blk_ne ho k h2 e
theorem StI.stays {z b : Nat} {s : Stp} {f : Fr11} (h : StI w z s f) (hv : EvT O w w') (hO : Oth w O b) (hb : ∀ g, s.own g → g < b) : StI w' z s f :=
 ⟨h.lf, h.N, h.p, h.i, hv.own h.k (hO.num h.k fun g e => hb g (.inl e)), hv.own h.e (hO.ent h.e fun g e => hb g (.inr e))⟩
theorem WayR.stays {a : Nat} : ∀ {ss : List Stp} {fs : List Fr11} {b : Nat}, WayR w a ss fs b → EvT O w w' → Oth w O b → WayR w' a ss fs b
 | [], [], _, h, _, _ => h
 | s :: ss, f :: fs, b, ⟨m, h1, h2, h3, h4⟩, hv, hO => ⟨m, h1, h2.stays hv hO h3, h3, h4.stays hv (hO.mono h1)⟩
 | [], _ :: _, _, h, _, _ => h.elim
 | _ :: _, [], _, h, _, _ => h.elim
theorem WayR.le {a : Nat} : ∀ {ss : List Stp} {fs : List Fr11} {b : Nat}, WayR w a ss fs b → a ≤ b
 | [], [], _, h => h
 | s :: ss, f :: fs, b, ⟨m, h1, h2, h3, h4⟩ => Nat.le_trans h4.le h1
 | [], _ :: _, _, h => h.elim
 | _ :: _, [], _, h => h.elim
theorem WayR.len {a : Nat} : ∀ {ss : List Stp} {fs : List Fr11} {b : Nat}, WayR w a ss fs b → ss.length = fs.length
 | [], [], _, h => rfl
 | s :: ss, f :: fs, b, ⟨m, h1, h2, h3, h4⟩ => by rw [List.length_cons, List.length_cons, h4.len]
 | [], _ :: _, _, h => h.elim
 | _ :: _, [], _, h => h.elim
theorem Oth.none_ (w : World) (b : Nat) : Oth w (fun _ => False) b := fun g e => e.elim
theorem WayR.below {a b : Nat} {ss : List Stp} {fs : List Fr11} (h : WayR w a ss fs b) (hb : Below w.heap.size w w') : WayR w' a ss fs b :=
 h.stays (EvT.of_below (O := fun _ => False) hb) (Oth.none_ w b)
theorem own_some {base size n c : Nat} {e : TypeId} {A : Option Addr} {xs : List Value} (h : w.ownsRow base e size (.slice A n c) n xs) (hn : 0 < n) : ∃ g, A = some ⟨g, 0, none⟩ ∧ base ≤ g ∧ n ≤ c := by
 rcases h.2 with ⟨e, _⟩ | ⟨g, cap, cur, e, hb, _⟩
 · injection e with e1 e2 e3; omega
 · injection e with e1 _ e3
   obtain ⟨_, _, e2, hc⟩ := own_form h
   injection e2 with _ _ e4
   exact ⟨g, e1, hb, by omega⟩
end
end
end Go.Proofs.YtebobcbaloddaaaGreat
namespace Go.Proofs.YtebobcbaloddaaaGreat
section
set_option linter.unusedSimpArgs false
set_option linter.unusedVariables false
open Go.RowKit Go.Maps
theorem vE_drop64 : ∀ (k : Nat) (l : List En), (vE l).drop (k * 3) = vE (l.drop k)
 | 0, l => by simp
 | k + 1, [] => by simp [vE]
 | k + 1, a :: t => by
   have : vE (a :: t) = a.cells ++ vE t := by simp [vE]
   rw [this, show (k + 1) * 3 = a.cells.length + k * 3 from by rw [a.len]; omega, List.drop_append]
   rw [show a.cells.length + k * 3 - a.cells.length = k * 3 from by omega, List.drop_eq_nil_of_le (by omega), List.nil_append, vE_drop64 k t, List.drop_succ_cons]
theorem vE_take64 : ∀ (k : Nat) (l : List En), (vE l).take (k * 3) = vE (l.take k)
 | 0, l => by simp [vE]
 | k + 1, [] => by simp [vE]
 | k + 1, a :: t => by
   have : vE (a :: t) = a.cells ++ vE t := by simp [vE]
   rw [this, show (k + 1) * 3 = a.cells.length + k * 3 from by rw [a.len]; omega, List.take_append]
   rw [show a.cells.length + k * 3 - a.cells.length = k * 3 from by omega, List.take_of_length_le (by omega), vE_take64 k t, List.take_succ_cons]
   simp [vE]
theorem vN_take64 (a : List Nat) (k : Nat) : vN (a.take k) = (vN a).take k := by simp [vN, List.map_take]
theorem vN_drop64 (a : List Nat) (k : Nat) : vN (a.drop k) = (vN a).drop k := by simp [vN, List.map_drop]
structure PartOk (w : World) (lf : Bool) (k e : S11) (kids : List Nat) (l : List En) : Prop where
 re : Reads w w.heap.size 3 e.A e.n (vE l)
 rk : lf = false → Reads w w.heap.size 1 k.A k.n (vN kids)
 rz : lf = true → k = S110
theorem PartOk.stays {w w' : World} {lf : Bool} {k e : S11} {kids : List Nat} {l : List En} {O : Nat → Prop} (h : PartOk w lf k e kids l) (hv : EvT O w w') (h1 : ∀ ad, e.A = some ad → ¬ O ad.block) (h2 : ∀ ad, k.A = some ad → ¬ O ad.block) : PartOk w' lf k e kids l :=
 ⟨(hv.reads h.re (Nat.le_refl _) h1).more hv.size, fun e => (hv.reads (h.rk e) (Nat.le_refl _) h2).more hv.size, h.rz⟩
structure CurR (w : World) (a : Nat) (lf : Bool) (k e : S11) (kids : List Nat) (l : List En) : Prop where
 re : w.ownsRow a 37 3 e.v e.n (vE l)
 rk : lf = false → w.ownsRow a 30 1 k.v k.n (vN kids)
 rz : lf = true → k = S110
theorem CurR.part {w : World} {a : Nat} {lf : Bool} {k e : S11} {kids : List Nat} {l : List En} (h : CurR w a lf k e kids l) : PartOk w lf k e kids l :=
 ⟨Reads.of_own h.re, fun x => Reads.of_own (h.rk x), h.rz⟩
theorem CurR.stays {w w' : World} {a : Nat} {lf : Bool} {k e : S11} {kids : List Nat} {l : List En} {O : Nat → Prop} (h : CurR w a lf k e kids l) (hv : EvT O w w') (h1 : ∀ g, e.own g → ¬ O g) (h2 : ∀ g, k.own g → ¬ O g) : CurR w' a lf k e kids l :=
 ⟨hv.own h.re h1, fun x => hv.own (h.rk x) h2, h.rz⟩
theorem CurR.lens {w : World} {a : Nat} {lf : Bool} {k e : S11} {kids : List Nat} {l : List En} (h : CurR w a lf k e kids l) : e.n = l.length ∧ (lf = false → k.n = kids.length) := by
 have h1 := h.re.1
 rw [vE_len] at h1
 refine ⟨by omega, fun x => ?_⟩
 have h2 := (h.rk x).1
 rw [vN_len] at h2
 omega
theorem own_S {s : S11} {ad : Addr} (h : s.A = some ad) : s.own ad.block := by
 unfold S11.own
 show (Value.slice s.A s.n s.c).ownBlock = _
 rw [ownB, h]; rfl
def RetSp (w : World) (b o : Nat) (ty : TypeId) (cs : Array Value) (lf : Bool) (N : Nat) (kids : List Nat) (l : List En) (k e : S11) (e' : Ending) (w' : World) : Prop :=
 ∃ (x : En) (sk se rk re : S11) (rN : Nat) (cs' : Array Value), e' = .returned (.tuple #[x.agg, .agg #[.bool lf, .int .u32 (rN : Int), rk.v, re.v]]) ∧ rN < 4294967296 ∧ (lf = true → rN = N) ∧ l.getD (cutW lf l) enZ = x ∧ Blk w' b ty cs' ∧ cs'.size = cs.size ∧ (∀ j, j < o + 2 ∨ o + 3 < j → cs'[j]? = cs[j]?) ∧ cs'[o + 2]? = some sk.v ∧ cs'[o + 3]? = some se.v ∧ EvT (fun k => k = b) w w' ∧
   PartOk w' lf sk se (kids.take (cutW lf l + 1)) (l.take (cutW lf l)) ∧ PartOk w' lf rk re (kids.drop (cutW lf l + 1)) (l.drop (cutW lf l + gap lf)) ∧
   (∀ ad, se.A = some ad → e.own ad.block) ∧ (∀ ad, re.A = some ad → e.own ad.block) ∧ (∀ ad, sk.A = some ad → k.own ad.block) ∧ (∀ ad, rk.A = some ad → k.own ad.block)
theorem split_any {w : World} {b o a N : Nat} {ty : TypeId} {cs : Array Value} {lf : Bool} {k e : S11} {kids : List Nat} {l : List En} (hB : Blk w b ty cs) (k0 : cs[o]? = some (.bool lf)) (k1 : cs[o + 1]? = some (.int .u32 (N : Int))) (k2 : cs[o + 2]? = some k.v) (k3 : cs[o + 3]? = some e.v)
 (hR : CurR w a lf k e kids l) (hC : CurOk lf N kids l) (hf : fitP lf l ≠ true) (h1 : 30 ≠ ty) (h2 : 37 ≠ ty) :
 Calls Tryz.prog 66 #[.pointer (some ⟨b, o, none⟩)] w (RetSp w b o ty cs lf N kids l k e) := by
 obtain ⟨q1, q2, q3, q4⟩ := hC.cut hf
 obtain ⟨n1, n2⟩ := hR.lens
 obtain ⟨kA, kn, kc⟩ := k
 obtain ⟨eA, en, ec⟩ := e
 simp only at n1 n2
 have hsz := hC.sz
 have hms := (may_parts.1 hC.may).1
 have hsE := sumE_eq l
 have hln : l.length ≤ 712 := by
  cases lf with
  | true => have hsz : sumE l ≤ 712 := hsz; omega
  | false => have hsz : sumE l + 4 * l.length ≤ 712 := hsz; omega
 have k3 : cs[o + 3]? = some (.slice eA en ec) := k3
 have k2 : cs[o + 2]? = some (.slice kA kn kc) := k2
 have hE0 : w.ownsRow a 37 3 (.slice eA en ec) en (vE l) := hR.re
 obtain ⟨g, hg, hga, hgc⟩ := own_some hE0 (by omega)
 subst hg
 have hcap := own_cap hE0
 have hgb : g ≠ b := fun e => own_blk_ne hE0 (e ▸ hB) h2 rfl
 have hRe := Reads.of_own hE0
 have hl' : (l.take (cutW lf l)).length = cutW lf l := by rw [List.length_take]; omega
 cases lf with
 | true =>
   have hz := hR.rz rfl
   injection hz with z1 z2 z3
   subst z1; subst z2; subst z3
   have q1 : 0 < cutP 0 (lfSz l) := q1
   have q2 : cutP 0 (lfSz l) < l.length := q2
   refine (splitL_any hB k0 k1 k3 hRe (by omega) hgc hcap (fun x hx => by have := hms x hx; omega) hgb q1 (by omega)).mono ?_
   rintro e' w' ⟨x, hx, rfl, hB', hev⟩
   have hr' := (hev.reads hRe (Nat.le_refl _) (fun ad h => by injection h with h; subst h; exact hgb)).more hev.size
   have t1 := hr'.takec (cutP 0 (lfSz l)) (by omega)
   have t2 := hr'.dropc (cutP 0 (lfSz l)) (by omega)
   rw [vE_take64] at t1
   rw [vE_drop64] at t2
   refine ⟨x, S110, ⟨some ⟨g, 0, none⟩, cutP 0 (lfSz l), ec⟩, S110, ⟨some ((⟨g, 0, none⟩ : Addr).add (cutP 0 (lfSz l) * 3)), en - cutP 0 (lfSz l), ec - cutP 0 (lfSz l)⟩, N, _, rfl, hC.N, fun _ => rfl, ?_, hB', by simp, fun j hj => ?_, ?_, ?_, hev, ⟨t1, fun e => (by cases e), fun _ => rfl⟩, ⟨t2, fun e => (by cases e), fun _ => rfl⟩, fun ad h => ?_, fun ad h => ?_, fun ad h => (by cases h), fun ad h => (by cases h)⟩
   · show l.getD (cutP 0 (lfSz l)) enZ = x
     rw [List.getD_eq_getElem?_getD, hx]; rfl
   · rw [Array.getElem?_setIfInBounds_ne (by omega)]
   · rw [Array.getElem?_setIfInBounds_ne (by omega)]; exact k2
   · have : o + 3 < cs.size := (Array.getElem?_eq_some_iff.1 k3).1
     rw [Array.getElem?_setIfInBounds_self_of_lt this]
   · injection h with h; subst h; exact own_S (s := ⟨some ⟨g, 0, none⟩, en, ec⟩) rfl
   · injection h with h; subst h; rw [block_of_add]; exact own_S (s := ⟨some ⟨g, 0, none⟩, en, ec⟩) rfl
 | false =>
   obtain ⟨kk1, kk2, kk3⟩ := hC.kid rfl
   have n2 := n2 rfl
   have hRk : w.ownsRow a 30 1 (.slice kA kn kc) kn (vN kids) := hR.rk rfl
   obtain ⟨g2, hg2, hga2, hgc2⟩ := own_some hRk (by omega)
   subst hg2
   have hcap2 := own_cap hRk
   have hgb2 : g2 ≠ b := fun e => own_blk_ne hRk (e ▸ hB) h1 rfl
   have hRk' := Reads.of_own hRk
   have hkn : kn = en + 1 := by omega
   subst hkn
   have q1 : 0 < cutP 1 (inSz l) := q1
   have q2 : cutP 1 (inSz l) + 1 < l.length := q2
   refine (splitI_any hB k0 k2 k3 hRe (by omega) hgc hcap hgc2 hcap2 (fun x hx => by have := hms x hx; omega) hgb q1 (by omega)).mono ?_
   rintro e' w' ⟨x, hx, rfl, hB', hev⟩
   have hr' := (hev.reads hRe (Nat.le_refl _) (fun ad h => by injection h with h; subst h; exact hgb)).more hev.size
   have hr2 := (hev.reads hRk' (Nat.le_refl _) (fun ad h => by injection h with h; subst h; exact hgb2)).more hev.size
   have t1 := hr'.takec (cutP 1 (inSz l)) (by omega)
   have t2 := hr'.dropc (cutP 1 (inSz l) + 1) (by omega)
   have t3 := hr2.takec (cutP 1 (inSz l) + 1) (by omega)
   have t4 := hr2.dropc (cutP 1 (inSz l) + 1) (by omega)
   rw [vE_take64] at t1
   rw [vE_drop64] at t2
   rw [Nat.mul_one, ← vN_take64] at t3
   rw [Nat.mul_one, ← vN_drop64, show en + 1 - (cutP 1 (inSz l) + 1) = en - cutP 1 (inSz l) from by omega] at t4
   refine ⟨x, ⟨some ⟨g2, 0, none⟩, cutP 1 (inSz l) + 1, kc⟩, ⟨some ⟨g, 0, none⟩, cutP 1 (inSz l), ec⟩, ⟨some ((⟨g2, 0, none⟩ : Addr).add (cutP 1 (inSz l) + 1)), en - cutP 1 (inSz l), kc - (cutP 1 (inSz l) + 1)⟩, ⟨some ((⟨g, 0, none⟩ : Addr).add ((cutP 1 (inSz l) + 1) * 3)), en - (cutP 1 (inSz l) + 1), ec - (cutP 1 (inSz l) + 1)⟩, 0, _, rfl, by decide, fun e => (by cases e), ?_, hB', by simp, fun j hj => ?_, ?_, ?_, hev, ⟨t1, fun _ => t3, fun e => (by cases e)⟩, ⟨t2, fun _ => t4, fun e => (by cases e)⟩, fun ad h => ?_, fun ad h => ?_, fun ad h => ?_, fun ad h => ?_⟩
   · show l.getD (cutP 1 (inSz l)) enZ = x
     rw [List.getD_eq_getElem?_getD, hx]; rfl
   · rw [Array.getElem?_setIfInBounds_ne (by omega), Array.getElem?_setIfInBounds_ne (by omega)]
   · have : o + 2 < cs.size := (Array.getElem?_eq_some_iff.1 k2).1
     rw [Array.getElem?_setIfInBounds_ne (by omega), Array.getElem?_setIfInBounds_self_of_lt this]
   · have : o + 3 < cs.size := (Array.getElem?_eq_some_iff.1 k3).1
     rw [Array.getElem?_setIfInBounds_self_of_lt (by simpa using this)]
   · injection h with h; subst h; exact own_S (s := ⟨some ⟨g, 0, none⟩, en, ec⟩) rfl
   · injection h with h; subst h; rw [block_of_add]; exact own_S (s := ⟨some ⟨g, 0, none⟩, en, ec⟩) rfl
   · injection h with h; subst h; exact own_S (s := ⟨some ⟨g2, 0, none⟩, en + 1, kc⟩) rfl
   · injection h with h; subst h; rw [block_of_add]; exact own_S (s := ⟨some ⟨g2, 0, none⟩, en + 1, kc⟩) rfl
theorem put_any {w : World} {z Bc g : Nat} {P Y : S11} {ns : List Nat} {bs : List (List UInt8)} {lf : Bool} {N : Nat} {k e : S11} {kids : List Nat} {l : List En} (h : ChS w z Bc g P Y ns bs) (hns : ns.length ≤ 1000) (hbs : bs.length ≤ 1000) (hz : z ≤ w.heap.size) (p : Nat) (hN : N < 4294967296)
 (hp : PartOk w lf k e kids l) (hok : ∀ x ∈ l, x.ok) (hm : mayEn l = true) (hf : fitP lf l = true) (hk : lf = false → kids.length = l.length + 1 ∧ (∀ x ∈ kids, x < 4294967296) ∧ l ≠ []) :
 Calls Tryz.prog 65 #[.pointer (some ⟨Bc, 0, none⟩), .int .u32 (p : Int), .agg #[.bool lf, .int .u32 (N : Int), k.v, e.v]] w (RetPut w z Bc g P Y (ns ++ [p]) (bs ++ [pgB lf N kids l])) := by
 obtain ⟨kA, kn, kc⟩ := k
 obtain ⟨eA, en, ec⟩ := e
 have hel := hp.re.1
 rw [vE_len] at hel
 simp only at hel
 cases lf with
 | true =>
   have hz' := hp.rz rfl
   injection hz' with z1 z2 z3
   subst z1; subst z2; subst z3
   have hf : sumE l ≤ 504 := by simpa [fitP] using hf
   exact putL_any h hns hbs hz p N hN eA en ec l hp.re hok hm hf
 | false =>
   obtain ⟨k1, k2, k3⟩ := hk rfl
   have hr0 := hp.rk rfl
   have hkl := hr0.1
   rw [vN_len] at hkl
   simp only at hkl
   have hkn : kn = en + 1 := by omega
   subst hkn
   have hf : sumE l + 4 * l.length ≤ 500 := by simpa [fitP] using hf
   have hel' : l.length = en := by omega
   exact putI_any h hns hbs hz p kA kc eA en ec l kids hp.re hr0 hok k2 (fun e => k3 (List.eq_nil_of_length_eq_zero (by omega))) hm (by rw [← hel']; exact hf) N
def RetTkF (w : World) (g gb gt n : Nat) (ps : List (List UInt8)) (T : List Bool) (e : Ending) (w' : World) : Prop :=
 match freeI T with
 | some i => e = .returned (.tuple #[.int .u32 (i : Int), .int .i64 0]) ∧ DP w' g gb gt n ps (T.set i true) ∧ Lf w w' gb gt ∧ EvT (fun b => b = gt) w w' ∧ i < n
 | none => e = .returned (.tuple #[.int .u32 0, .int .i64 7]) ∧ w = w'
theorem takeF {w : World} {g gb gt n : Nat} {ps : List (List UInt8)} {T : List Bool} (h : DP w g gb gt n ps T) (hn : n ≤ 1000000) :
 Calls Tryz.prog 67 #[.pointer (some ⟨g, 0, none⟩)] w (RetTkF w g gb gt n ps T) := by
 have hT := h.hT
 unfold RetTkF
 rcases freeI_cases T with ⟨i, f1, f2, f3⟩ | ⟨f1, f2⟩
 · rw [f1]
   refine (take_at h.dk hn i (tV_at f2) (fun j hj => tV_at (f3 j hj))).mono ?_
   rintro e w' ⟨rfl, rfl⟩
   have hl : i < n := by have := lt_of_at f2; omega
   exact ⟨rfl, h.mark i true, ⟨fun B h1 h2 h3 => (Below.refl _ _).setCell h2 _, fun g' h1 h2 h3 => Below.heap_setCell _ _ _ _ h3, by simp [World.setCell]⟩, (EvT.refl (fun b => b = gt) w).store (p := ⟨gt, i, none⟩) (.inr rfl) _, hl⟩
 · rw [f1]
   exact take_fullDP h hn (fun j hj => f2 j (by omega))
theorem orE_any (A : Option Addr) (n c B : Nat) (l : List Int) (w : World) (hr : Reads w B 1 A n (l.map (Value.int .i64))) (hn : n ≤ 1000) :
 Calls Tryz.prog 68 #[.slice A n c] w fun e w' => e = .returned (.int .i64 (orL l)) ∧ w = w' := by
 have hl : l.length = n := by have := hr.1; simp at this; omega
 have Hl := Lib.hid hl; clear hl
 go_enter Tryz.func68, Tryz.ntmps68
 go_wp2
 go_loop [8] (fun i => ∃ k : Nat, k ≤ n ∧ i = .int .i64 k ∧ orL l = orL (l.drop k)) (fun i => n - (intOf i).toNat)
 case atStart => exact ⟨0, Nat.zero_le _, rfl, rfl⟩
 case round =>
  obtain ⟨k, hk, rfl, he⟩ := hrel
  have HE := Lib.hid he; clear he
  have q0 : (0 : Int) ≤ (k : Int) := by omega
  by_cases hlt : k < n
  · have q1 : (k : Int) < (n : Int) := by omega
    obtain ⟨ad, u, rfl, _, hu, c0⟩ := hr.at_ hlt
    rw [List.getElem?_map] at hu
    obtain ⟨x, hx, rfl⟩ := Option.map_eq_some_iff.1 hu
    have hd := Lib.hid (orL_drop hx)
    clear hx hu
    by_cases h0 : x = 0
    · subst h0
      have he2 : Hid (orL l = orL (l.drop (k + 1))) := Lib.hid (by rw [HE.out, hd.out, if_pos rfl])
      go_wp2
      go_round
      case rel => exact ⟨k + 1, by omega, by go_num, he2.out⟩
      case measure => simp [intOf]; omega
    · have he2 : Hid (orL l = x) := Lib.hid (by rw [HE.out, hd.out, if_neg h0])
      have hb : (x != 0) = true := by simpa using h0
      go_wp2
      go_ret
      exact ⟨by rw [he2.out]; rfl, rfl⟩
  · have he2 : Hid (orL l = 0) := Lib.hid (by rw [HE.out, List.drop_eq_nil_of_le (by rw [Hl.out]; omega)]; rfl)
    go_wp2
    go_ret
    exact ⟨by rw [he2.out]; rfl, rfl⟩
end
end Go.Proofs.YtebobcbaloddaaaGreat
namespace Go.Proofs.YtebobcbaloddaaaGreat
section
set_option linter.unusedSimpArgs false
set_option linter.unusedVariables false
open Go.RowKit Go.Maps
theorem Tryz.infoSt : (Tryz.prog.info? 77).map (fun i => (i.zero, i.size, i.bytes)) = some (some (.agg #[.bool false, .int .u32 0, .slice none 0 0, .slice none 0 0, .int .u32 0, .int .i64 0]), 6, 72) := by kernel_rfl
def RetDesc (w : World) (frs : List Fr11) (lp N : Nat) (es : List En) (e : Ending) (w' : World) : Prop :=
 ∃ sL ss Bw cw zb, e = .returned (.tuple #[.slice (some ⟨Bw, 0, none⟩) (ss.length + 1) cw, .int .i64 0]) ∧ w'.ownsRow w.heap.size 77 6 (.slice (some ⟨Bw, 0, none⟩) (ss.length + 1) cw) (ss.length + 1) (vSt (sL :: ss).reverse) ∧
   WayR w' w.heap.size ss frs zb ∧ zb ≤ w'.heap.size ∧ StL w' zb sL lp N es ∧ (∀ g, sL.own g → g < w'.heap.size) ∧ Below w.heap.size w w'
theorem oth_way {w : World} {base n b : Nat} {v : Value} {xs : List Value} (ho : w.ownsRow base 77 6 v n xs) : Oth w (fun g => v.ownBlock = some g) b := fun g e => .inr (by
 obtain ⟨cs, hb⟩ := own_blk17 ho e
 exact ⟨_, cs, hb, by decide, by decide⟩)
theorem ds_push {w wB w6 : World} {g gb gt n k zb : Nat} {ps : List (List UInt8)} {T : List Bool} {o : Obj} {v8 : Value} {xs : List Value} {cs : Array Value} {ss : List Stp} {dn : List Fr11}
 (ho : wB.ownsRow w.heap.size 77 6 v8 k xs) (hg : (wB.alloc o).grownBy w6 v8.ownBlock) (hb : Below w.heap.size w wB) (hwr : WayR wB w.heap.size ss dn zb) (hxb : Blk wB w.heap.size 37 cs) (hdp : DP wB g gb gt n ps T) :
 EvT (fun g => v8.ownBlock = some g) wB w6 ∧ WayR w6 w.heap.size ss dn zb ∧ Blk w6 w.heap.size 37 cs ∧ DP w6 g gb gt n ps T ∧ Below w.heap.size w w6 := by
 have e1 : EvT (fun g => v8.ownBlock = some g) wB w6 := (EvT.of_below (O := fun g => v8.ownBlock = some g) (ball (Below.refl _ _) _)).trans (EvT.of_grown (O := fun g => v8.ownBlock = some g) hg fun g e => .inl e) fun g e => .inl e
 exact ⟨e1, hwr.stays e1 (oth_way ho), e1.blk hxb fun e => own_blk_ne ho hxb (by decide) e, hdp.push ho hg (by decide) (by decide) (by decide), e1.below hb hb.size fun g e => (World.ownsRow.lt ho g e).1⟩
theorem stepV (s : Stp) (ss : List Stp) : vSt ss.reverse ++ s.cells = vSt (s :: ss).reverse := by rw [List.reverse_cons]; exact vSt_snoc _ _
structure DsI (w : World) (g gb gt n : Nat) (ps : List (List UInt8)) (T : List Bool) (x : En) (frs : List Fr11) (lp N : Nat) (es : List En) (page : Nat) (f : Nat) (v8 : Value) (ss : List Stp) (dn : List Fr11) (zb : Nat) (W : World) : Prop where
 way : ∃ rem, wayP ps f page x = some (rem, lp, N, es) ∧ frs = rem ++ dn
 own : W.ownsRow w.heap.size 77 6 v8 ss.length (vSt ss.reverse)
 wy : WayR W w.heap.size ss dn zb
 zb : zb ≤ W.heap.size
 xb : Blk W w.heap.size 37 #[.string x.s, .int .u32 x.p, .int .u16 x.q]
 dp : DP W g gb gt n ps T
 bl : Below w.heap.size w W
 pg : page < 4294967296
theorem set6b {a W : World} {R : Nat} {v0 v1 v2 v3 v4 v5 : Value} (h : Below a.heap.size a W) (hg : a.heap.size ≤ R) : Below a.heap.size a ((((((W.setCell ⟨R, 0, none⟩ v0).setCell ⟨R, 1, none⟩ v1).setCell ⟨R, 2, none⟩ v2).setCell ⟨R, 3, none⟩ v3).setCell ⟨R, 4, none⟩ v4).setCell ⟨R, 5, none⟩ v5) :=
 (((((h.setCell (p := ⟨R, 0, none⟩) hg _).setCell (p := ⟨R, 1, none⟩) hg _).setCell (p := ⟨R, 2, none⟩) hg _).setCell (p := ⟨R, 3, none⟩) hg _).setCell (p := ⟨R, 4, none⟩) hg _).setCell (p := ⟨R, 5, none⟩) hg _
theorem num_at62 {w : World} {B n k x : Nat} {a : Addr} {l : List Nat} (hr : Reads w B 1 (some a) n (vN l)) (hk : l[k]? = some x) : w.cell? (a.add k) = some (.int .u32 (x : Int)) := by
 have hn := hr.num_len
 obtain ⟨ad, y, h1, _, h2, h3⟩ := hr.num (k := k) (by have := lt_of_at hk; omega)
 injection h1 with h1
 subst h1
 rw [hk] at h2
 injection h2 with h2
 subst h2
 exact h3
theorem ds_leaf {w W : World} {zb k N lp : Nat} {A6 : Option Addr} {c6 : Nat} {ss : List Stp} {dn : List Fr11} {s : Stp} {es : List En}
 (ho : W.ownsRow w.heap.size 77 6 (.slice A6 (k + 1) c6) (k + 1) (vSt ss.reverse ++ s.cells)) (hk : ss.length = k) (hw : WayR W w.heap.size ss dn zb) (hz : zb ≤ W.heap.size) (hs : StL W zb s lp N es) (hg : ∀ g, s.own g → g < W.heap.size) (hb : Below w.heap.size w W) :
 RetDesc w dn lp N es (.returned (.tuple #[.slice A6 (k + 1) c6, .int .i64 0])) W := by
 obtain ⟨Bw, hBw, hBb, _⟩ := own_some ho (by omega)
 subst hBw
 subst hk
 rw [stepV] at ho
 exact ⟨s, ss, Bw, c6, zb, rfl, ho, hw, hz, hs, hg, hb⟩
def slM : Value → Nat
 | .slice _ n _ => n
 | _ => 0
set_option maxRecDepth 100000 in
set_option maxHeartbeats 8000000 in
theorem descend_any {w : World} {g gb gt n : Nat} {ps : List (List UInt8)} {T : List Bool} (h : DP w g gb gt n ps T) (hn : n ≤ 10000) (root : Nat) (hroot : root < 4294967296) (x : En) {f : Nat} {frs : List Fr11} {lp N : Nat} {es : List En} (hw : wayP ps f root x = some (frs, lp, N, es)) (hf : frs.length + 1 ≤ 12) :
 Calls Tryz.prog 28 #[.pointer (some ⟨g, 0, none⟩), .int .u32 (root : Int), x.agg] w (RetDesc w frs lp N es) := by
 obtain ⟨i0, hi0, hz0, hs0, hy0⟩ := int_info8 Tryz.infoSt
 have hlts := h.lts
 have hb0 := ball (Below.refl w.heap.size w) (.cells #[.string x.s, .int .u32 x.p, .int .u16 x.q] 37)
 have X0 := Blk.new w 37 #[.string x.s, .int .u32 x.p, .int .u16 x.q]
 have HS := Lib.hid (show DsI w g gb gt n ps T x frs lp N es root f (.slice none 0 0) [] [] w.heap.size _ from ⟨⟨frs, hw, by simp⟩, World.ownsRow_nil _ _ _ _, Nat.le_refl _, by simp, X0, h.lower hb0, hb0, hroot⟩)
 have HF := Lib.hid hf
 have hfull := Lib.hid h.full
 clear h hb0 X0 hw hf
 obtain ⟨xs, xp, xq⟩ := x
 unfold En.agg
 simp only at HS ⊢
 go_enter Tryz.func28, Tryz.ntmps28
 go_wp2_with fail
 go_loopw [8, 9] (fun v8 v9 wr => ∃ (page f : Nat) (ss : List Stp) (dn : List Fr11) (zb : Nat), v9 = .int .u32 (page : Int) ∧ DsI w g gb gt n ps T ⟨xs, xp, xq⟩ frs lp N es page f v8 ss dn zb wr) (fun v8 _ _ => 13 - slM v8)
 case atStart => exact ⟨root, f, [], [], w.heap.size, rfl, HS.out⟩
 case round =>
  rename World => wo
  clear hroot
  obtain ⟨page, f', ss, dn, zb, rfl, D⟩ := hrel
  obtain ⟨⟨rem, hwy, hfr⟩, ho, hwr, hzb, hxb, hdp, hbl, hpg⟩ := D
  have HLen := Lib.hid hwr.len
  obtain ⟨k, hk⟩ : ∃ k, ss.length = k := ⟨_, rfl⟩
  rw [hk] at ho
  have Hk := Lib.hid hk
  have hkf : k + 1 ≤ 12 := by have h1 := HF.out; rw [hfr, List.length_append, ← HLen.out, hk] at h1; omega
  clear hk
  obtain ⟨f', rfl⟩ : ∃ k, f' = k + 1 := by
   cases f' with
   | zero => cases hwy
   | succ k => exact ⟨k, rfl⟩
  rw [wayP] at hwy
  split at hwy
  · cases hwy
  rename_i q hq
  have hql : q.length = 512 := hfull.out q (List.mem_of_getElem? hq)
  obtain ⟨Av, cv, rfl, hcv⟩ := own_form ho
  have RD := Lib.hid (read_ok hdp page q hq (by omega))
  have H0 := Lib.hid (And.intro ho (And.intro hwr (And.intro hdp (And.intro hbl hfr))))
  have hxb1 := Lib.hid hxb
  have hgl : w.heap.size < wo.heap.size := hxb.lt
  clear ho hwr hdp hbl hxb HS hfr
  go_wp2_with fail
  refine RD.out.mono ?_
  rintro e w1 ⟨rfl, hB1, hb1⟩
  have OP := Lib.hid (open_any (triF (some ⟨wo.heap.size, 0, none⟩) 512 512 q w1 (Own.new hB1 (by rw [hql]; decide) (Nat.zero_le _) hql.symm).reads.1 (by omega) (by omega)))
  have HTF := Lib.hid (triF (some ⟨wo.heap.size, 0, none⟩) 512 512 q w1 (Own.new hB1 (by rw [hql]; decide) (Nat.zero_le _) hql.symm).reads.1 (by omega) (by omega))
  unfold TriF at HTF
  have hkI : ((k : Int) == 12) = false := by simp; omega
  generalize rdPg q = RQ at *
  rcases RQ with _ | ⟨N', es'⟩ | ⟨c0, prs⟩
  · cases hwy
  · simp only at hwy HTF
    obtain ⟨m, hm⟩ : ∃ m, es'.length = m := ⟨_, rfl⟩
    have hmay := Lib.hid HTF.out
    have hwy := Lib.hid hwy
    have CHX : Hid (∀ (A4 : Option Addr) (c4 : Nat) (W : World), Reads W W.heap.size 3 A4 m (vE es') → Calls Tryz.prog 57 #[.slice A4 m c4, .agg #[.string xs, .int .u32 xp, .int .u16 xq]] W (RetB W (.int .i64 (chN es' ⟨xs, xp, xq⟩ : Nat)))) := Lib.hid fun A4 c4 W hr => child_any A4 m c4 es' ⟨xs, xp, xq⟩ W hr (by have := hmay.out.2.2.2.1; have := sumE_eq es'; omega)
    obtain ⟨ci, hci⟩ : ∃ ci, chN es' ⟨xs, xp, xq⟩ = ci := ⟨_, rfl⟩
    rw [hci] at CHX
    have Hm := Lib.hid hm
    have Hci := Lib.hid hci
    have hm1000 : m ≤ 1000 := by have := hmay.out.2.2.2.1; have := sumE_eq es'; omega
    clear hci
    go_wp2_with fail
    refine OP.out.mono ?_
    rintro e w2 ⟨A4, c4, rfl, hc4, o4, hb2⟩
    rw [hm] at hc4 o4 ⊢
    clear hm OP HTF
    have hzw2 := hb2.size
    have hzw1 := hb1.size
    have hb02 := bto0 hb1 hb2
    have xb2 := hxb1.out.below hb02 hgl
    have hb3 := ball hb02 (.cells #[.bool true, .int .u32 (N' : Int), .slice none 0 0, .slice A4 m c4] 75)
    have X3 := Blk.new w2 75 #[.bool true, .int .u32 (N' : Int), .slice none 0 0, .slice A4 m c4]
    have r4 := Reads.of_own (o4.alloc (.cells #[.bool true, .int .u32 (N' : Int), .slice none 0 0, .slice A4 m c4] 75))
    have xb3 := xb2.alloc (.cells #[.bool true, .int .u32 (N' : Int), .slice none 0 0, .slice A4 m c4] 75)
    have hz3 : (w2.alloc (.cells #[.bool true, .int .u32 (N' : Int), .slice none 0 0, .slice A4 m c4] 75)).heap.size = w2.heap.size + 1 := by simp
    have H2 := Lib.hid (And.intro o4 (And.intro hb02 hc4))
    clear o4 xb2 hb2 hb1 hc4 hb02
    go_upto_region 11 with fail
    obtain ⟨w3, hw3⟩ : ∃ w3, w2.alloc (.cells #[.bool true, .int .u32 (N' : Int), .slice none 0 0, .slice A4 m c4] 75) = w3 := ⟨_, rfl⟩
    rw [hw3] at X3 r4 xb3 hb3 hz3 ⊢
    have HW3 := Lib.hid hw3
    clear hw3
    have y0 : w3.cell? ⟨w2.heap.size, 0, none⟩ = some _ := X3.cell 0
    have y1 : w3.cell? ⟨w2.heap.size, 1, none⟩ = some _ := X3.cell 1
    have y2 : w3.cell? ⟨w2.heap.size, 2, none⟩ = some _ := X3.cell 2
    have y3 : w3.cell? ⟨w2.heap.size, 3, none⟩ = some _ := X3.cell 3
    have z0 : w3.cell? ⟨w.heap.size, 0, none⟩ = some (.string xs) := xb3.cell 0
    have z1 : w3.cell? ⟨w.heap.size, 1, none⟩ = some (.int .u32 xp) := xb3.cell 1
    have z2 : w3.cell? ⟨w.heap.size, 2, none⟩ = some (.int .u16 xq) := xb3.cell 2
    have CH3 : Hid (∀ W, Below w3.heap.size w3 W → Calls Tryz.prog 57 #[.slice A4 m c4, .agg #[.string xs, .int .u32 xp, .int .u16 xq]] W (RetB W (.int .i64 (ci : Int)))) := Lib.hid fun W hb => CHX.out A4 c4 W ((r4.below hb).more hb.size)
    have l2 : w2.heap.size < w3.heap.size := by omega
    have l0 : w.heap.size < w3.heap.size := by omega
    have H3 := Lib.hid (And.intro X3 (And.intro xb3 (And.intro hb3 hz3)))
    clear X3 r4 xb3 hb3 CHX hz3
    go_cut [13] (fun s13 wx => ∃ G, s13 = .pointer (some ⟨G, 0, none⟩) ∧ Blk wx G 77 #[.bool true, .int .u32 (N' : Int), .slice none 0 0, .slice A4 m c4, .int .u32 (page : Int), .int .i64 (ci : Int)] ∧ Below w3.heap.size w3 wx ∧ w3.heap.size ≤ G)
    case first =>
     have HSx : Hid (∀ W, Below w3.heap.size w3 W → W.cell? ⟨w2.heap.size, 0, none⟩ = some (.bool true) ∧ W.cell? ⟨w2.heap.size, 1, none⟩ = some (.int .u32 (N' : Int)) ∧ W.cell? ⟨w2.heap.size, 2, none⟩ = some (.slice none 0 0) ∧ W.cell? ⟨w2.heap.size, 3, none⟩ = some (.slice A4 m c4) ∧ W.cell? ⟨w.heap.size, 0, none⟩ = some (.string xs) ∧ W.cell? ⟨w.heap.size, 1, none⟩ = some (.int .u32 xp) ∧ W.cell? ⟨w.heap.size, 2, none⟩ = some (.int .u16 xq)) := Lib.hid fun W hb => by
      have Y := H3.out.1.below hb l2
      have V := H3.out.2.1.below hb l0
      exact ⟨Y.cell 0, Y.cell 1, Y.cell 2, Y.cell 3, V.cell 0, V.cell 1, V.cell 2⟩
     clear y0 y1 y2 y3 z0 z1 z2
     refine wp_region_held_drew (S := (fun W => W.cell? ⟨w2.heap.size, 0, none⟩ = some (.bool true) ∧ W.cell? ⟨w2.heap.size, 1, none⟩ = some (.int .u32 (N' : Int)) ∧ W.cell? ⟨w2.heap.size, 2, none⟩ = some (.slice none 0 0) ∧ W.cell? ⟨w2.heap.size, 3, none⟩ = some (.slice A4 m c4) ∧ W.cell? ⟨w.heap.size, 0, none⟩ = some (.string xs) ∧ W.cell? ⟨w.heap.size, 1, none⟩ = some (.int .u32 xp) ∧ W.cell? ⟨w.heap.size, 2, none⟩ = some (.int .u16 xq))) (by kernel_rfl) (HSx.out _ (Below.drew (Below.refl _ _))) (fun hHeld => ?_)
     try dsimp only at hHeld
     refine zt 0 ?_ rfl (by kernel_rfl) (fun _ _ _ h => h) ⟨rfl, ?_⟩ hHeld ?_
     rotate_left
     focus (intro wx hSw; (try dsimp only at hSw); (try go_split_ands); go_simp; (try with_reducible rfl))
     try simp only [Act.put, za1, za2, za3, za4, za5, za6]
     refine zt 1 ?_ rfl (by kernel_rfl) (fun _ _ _ h => h) ⟨rfl, ?_⟩ hHeld ?_
     rotate_left
     focus (intro wx hSw; (try dsimp only at hSw); (try go_split_ands); go_simp; (try with_reducible rfl))
     try simp only [Act.put, za1, za2, za3, za4, za5, za6]
     refine zt 2 ?_ rfl (by kernel_rfl) (fun _ _ _ h => h) ⟨rfl, ?_⟩ hHeld ?_
     rotate_left
     focus (intro wx hSw; (try dsimp only at hSw); (try go_split_ands); go_simp; (try with_reducible rfl))
     try simp only [Act.put, za1, za2, za3, za4, za5, za6]
     refine zt 3 ?_ rfl (by kernel_rfl) (fun _ _ _ h => h) ⟨rfl, ?_⟩ hHeld ?_
     rotate_left
     focus (intro wx hSw; (try dsimp only at hSw); (try go_split_ands); go_simp; (try with_reducible rfl))
     try simp only [Act.put, za1, za2, za3, za4, za5, za6]
     refine zt 4 ?_ rfl (by kernel_rfl) (fun _ _ _ h => h) ⟨rfl, ?_⟩ hHeld ?_
     rotate_left
     focus (intro wx hSw; (try dsimp only at hSw); (try go_split_ands); go_simp; (try with_reducible rfl))
     try simp only [Act.put, za1, za2, za3, za4, za5, za6]
     refine wpAnyH_ready (rs := [5, 7]) (by kernel_rfl) (by simp) (AllReadyH.cons rfl (fun K hK => ?_) (AllReadyH.cons rfl (fun K hK => ?_) AllReadyH.nil))
     · go_simp
       (go_at_call 57; (with_reducible refine (CH3.out _ (by with_reducible repeat (first | exact Below.refl _ _ | refine bdr ?_ _ | refine Below.drew ?_ | refine ball ?_ _))).mono ?_)); rintro e w5 ⟨rfl, hb5⟩
       have hw5 : Below w3.heap.size w3 w5 := (by with_reducible repeat (first | exact Below.refl _ _ | exact hb5 | refine bto0 ?_ hb5 | refine bdr ?_ _ | refine Below.drew ?_ | refine ball ?_ _ | refine set6b ?_ (Nat.le_refl _)))
       go_wp2_with fail
       refine hK.out _ _ ?_ (fun hHeld => ?_)
       · ((try dsimp only); (try dsimp only at hHeld); exact HSx.out _ (by with_reducible repeat (first | exact Below.refl _ _ | exact hb5 | refine bto0 ?_ hb5 | refine bdr ?_ _ | refine Below.drew ?_ | refine ball ?_ _ | refine set6b ?_ (Nat.le_refl _))))
       clear hK K
       try dsimp only at hHeld
       try simp only [Act.put, za1, za2, za3, za4, za5, za6]
       refine zt 6 ?_ rfl (by kernel_rfl) (fun _ _ _ h => h) ⟨rfl, ?_⟩ hHeld ?_
       rotate_left
       focus (intro wx hSw; (try dsimp only at hSw); (try go_split_ands); go_simp; (try with_reducible rfl))
       try simp only [Act.put, za1, za2, za3, za4, za5, za6]
       refine wpAnyH_ready (rs := [7]) (by kernel_rfl) (by simp) (AllReadyH.cons rfl (fun K hK => ?_) AllReadyH.nil)
       go_simp
       refine hK.out _ _ ?_ (fun hHeld => ?_)
       · ((try dsimp only); (try dsimp only at hHeld); exact HSx.out _ (by with_reducible repeat (first | exact Below.refl _ _ | exact hb5 | refine bto0 ?_ hb5 | refine bdr ?_ _ | refine Below.drew ?_ | refine ball ?_ _ | refine set6b ?_ (Nat.le_refl _))))
       clear hK K
       try dsimp only at hHeld
       try simp only [Act.put, za1, za2, za3, za4, za5, za6]
       refine wpAnyH_ready (rs := [8]) (by kernel_rfl) (by simp) (AllReadyH.cons rfl (fun K hK => ?_) AllReadyH.nil)
       go_simp
       refine hK.out _ _ ?_ (fun hHeld => ?_)
       · ((try dsimp only); (try dsimp only at hHeld); exact HSx.out _ (by with_reducible repeat (first | exact Below.refl _ _ | exact hb5 | refine bto0 ?_ hb5 | refine bdr ?_ _ | refine Below.drew ?_ | refine ball ?_ _ | refine set6b ?_ (Nat.le_refl _))))
       clear hK K
       try dsimp only at hHeld
       try simp only [Act.put, za1, za2, za3, za4, za5, za6]
       refine wpAnyH_done (by kernel_rfl) ?_ _
       go_wp2_with fail
       go_meet
       exact ⟨w5.heap.size, rfl, Blk.new w5 _ _, ball hw5 _, hw5.size⟩
     · go_simp
       refine hK.out _ _ ?_ (fun hHeld => ?_)
       · ((try dsimp only); (try dsimp only at hHeld); exact HSx.out _ (by with_reducible repeat (first | exact Below.refl _ _ | refine bdr ?_ _ | refine Below.drew ?_ | refine ball ?_ _ | refine set6b ?_ (Nat.le_refl _))))
       clear hK K
       try dsimp only at hHeld
       try simp only [Act.put, za1, za2, za3, za4, za5, za6]
       refine wpAnyH_ready (rs := [5]) (by kernel_rfl) (by simp) (AllReadyH.cons rfl (fun K hK => ?_) AllReadyH.nil)
       go_simp
       (go_at_call 57; (with_reducible refine (CH3.out _ (by with_reducible repeat (first | exact Below.refl _ _ | refine bdr ?_ _ | refine Below.drew ?_ | refine ball ?_ _))).mono ?_)); rintro e w5 ⟨rfl, hb5⟩
       have hw5 : Below w3.heap.size w3 w5 := (by with_reducible repeat (first | exact Below.refl _ _ | exact hb5 | refine bto0 ?_ hb5 | refine bdr ?_ _ | refine Below.drew ?_ | refine ball ?_ _ | refine set6b ?_ (Nat.le_refl _)))
       have S5 : Blk w5 w3.heap.size 77 #[.bool false, .int .u32 0, .slice none 0 0, .slice none 0 0, .int .u32 0, .int .i64 0] := (Blk.new w3 _ _).drew.below hb5 (by simp)
       have k50 : w5.cell? ⟨w3.heap.size, 0, none⟩ = some (.bool false) := S5.cell 0
       have f50 := S5.frozen 0
       have k51 : w5.cell? ⟨w3.heap.size, 1, none⟩ = some (.int .u32 0) := S5.cell 1
       have f51 := S5.frozen 1
       have k52 : w5.cell? ⟨w3.heap.size, 2, none⟩ = some (.slice none 0 0) := S5.cell 2
       have f52 := S5.frozen 2
       have k53 : w5.cell? ⟨w3.heap.size, 3, none⟩ = some (.slice none 0 0) := S5.cell 3
       have f53 := S5.frozen 3
       have k54 : w5.cell? ⟨w3.heap.size, 4, none⟩ = some (.int .u32 0) := S5.cell 4
       have f54 := S5.frozen 4
       have k55 : w5.cell? ⟨w3.heap.size, 5, none⟩ = some (.int .i64 0) := S5.cell 5
       have f55 := S5.frozen 5
       have l5 := S5.lt
       go_wp2_with fail
       refine hK.out _ _ ?_ (fun hHeld => ?_)
       · ((try dsimp only); (try dsimp only at hHeld); exact HSx.out _ (by with_reducible repeat (first | exact Below.refl _ _ | exact hb5 | refine bto0 ?_ hb5 | refine bdr ?_ _ | refine Below.drew ?_ | refine ball ?_ _ | refine set6b ?_ (Nat.le_refl _))))
       clear hK K
       try dsimp only at hHeld
       try simp only [Act.put, za1, za2, za3, za4, za5, za6]
       refine zt 6 ?_ rfl (by kernel_rfl) (fun _ _ _ h => h) ⟨rfl, ?_⟩ hHeld ?_
       rotate_left
       focus (intro wx hSw; (try dsimp only at hSw); (try go_split_ands); go_simp; (try with_reducible rfl))
       try simp only [Act.put, za1, za2, za3, za4, za5, za6]
       refine wpAnyH_ready (rs := [8]) (by kernel_rfl) (by simp) (AllReadyH.cons rfl (fun K hK => ?_) AllReadyH.nil)
       go_simp
       have B9 : Below w3.heap.size w3 ((((((w5.setCell ⟨w3.heap.size, 0, none⟩ (.bool true)).setCell ⟨w3.heap.size, 1, none⟩ (.int .u32 (N' : Int))).setCell ⟨w3.heap.size, 2, none⟩ (.slice none 0 0)).setCell ⟨w3.heap.size, 3, none⟩ (.slice A4 m c4)).setCell ⟨w3.heap.size, 4, none⟩ (.int .u32 (page : Int))).setCell ⟨w3.heap.size, 5, none⟩ (.int .i64 (ci : Int))) := set6b hw5 (Nat.le_refl _)
       have S9 : Blk ((((((w5.setCell ⟨w3.heap.size, 0, none⟩ (.bool true)).setCell ⟨w3.heap.size, 1, none⟩ (.int .u32 (N' : Int))).setCell ⟨w3.heap.size, 2, none⟩ (.slice none 0 0)).setCell ⟨w3.heap.size, 3, none⟩ (.slice A4 m c4)).setCell ⟨w3.heap.size, 4, none⟩ (.int .u32 (page : Int))).setCell ⟨w3.heap.size, 5, none⟩ (.int .i64 (ci : Int))) w3.heap.size 77 #[.bool true, .int .u32 (N' : Int), .slice none 0 0, .slice A4 m c4, .int .u32 (page : Int), .int .i64 (ci : Int)] := set6 S5
       obtain ⟨W9, hW9⟩ : ∃ W9, ((((((w5.setCell ⟨w3.heap.size, 0, none⟩ (.bool true)).setCell ⟨w3.heap.size, 1, none⟩ (.int .u32 (N' : Int))).setCell ⟨w3.heap.size, 2, none⟩ (.slice none 0 0)).setCell ⟨w3.heap.size, 3, none⟩ (.slice A4 m c4)).setCell ⟨w3.heap.size, 4, none⟩ (.int .u32 (page : Int))).setCell ⟨w3.heap.size, 5, none⟩ (.int .i64 (ci : Int))) = W9 := ⟨_, rfl⟩
       rw [hW9] at B9 S9 ⊢
       clear hW9
       refine hK.out _ _ ?_ (fun hHeld => ?_)
       · ((try dsimp only); (try dsimp only at hHeld); exact HSx.out _ B9)
       clear hK K
       try dsimp only at hHeld
       try simp only [Act.put, za1, za2, za3, za4, za5, za6]
       refine wpAnyH_done (by kernel_rfl) ?_ _
       go_wp2_with fail
       go_meet
       exact ⟨w3.heap.size, rfl, S9, B9, Nat.le_refl _⟩
    case rest =>
     obtain ⟨G, rfl, BG, bx, hG⟩ := hcut
     rename World => wB
     have hbB := bto0 H3.out.2.2.1 bx
     have b2B := bto0 (show Below w2.heap.size w2 w3 from HW3.out ▸ ball (Below.refl _ _) _) bx
     have ho1 := own_below H0.out.1 hbB
     have hwr1 := H0.out.2.1.below hbB
     have hdp1 := H0.out.2.2.1.lower hbB
     have hbw1 := bto0 H0.out.2.2.2.1 hbB
     have hxb1 := H3.out.2.1.below bx l0
     have X1 := H3.out.1.below bx l2
     have o41 := own_below H2.out.1 b2B
     have y0 : wB.cell? ⟨G, 0, none⟩ = some _ := BG.cell 0
     have y1 : wB.cell? ⟨G, 1, none⟩ = some _ := BG.cell 1
     have y2 : wB.cell? ⟨G, 2, none⟩ = some _ := BG.cell 2
     have y3 : wB.cell? ⟨G, 3, none⟩ = some _ := BG.cell 3
     have y4 : wB.cell? ⟨G, 4, none⟩ = some _ := BG.cell 4
     have y5 : wB.cell? ⟨G, 5, none⟩ = some _ := BG.cell 5
     have hzw : w.heap.size ≤ wB.heap.size := hbw1.size
     have hGl := BG.lt
     have hk9 : k + 1 ≤ 1000000000 := by omega
     have HB := Lib.hid (And.intro ho1 (And.intro hwr1 (And.intro hdp1 (And.intro hbw1 (And.intro hxb1 (And.intro X1 o41))))))
     clear ho1 hwr1 hdp1 hbw1 hxb1 X1 o41 hbB BG
     have hbx := Lib.hid (And.intro bx b2B)
     clear bx b2B
     go_wp2_with (at_builtin; go_loud (refine wpList_pushR (news := [.bool true, .int .u32 (N' : Int), .slice none 0 0, .slice A4 m c4, .int .u32 (page : Int), .int .i64 (ci : Int)]) rfl (.tmp 42) (.tmp 44) 69 rfl w.heap.size 77 i0 _ 6 72 Tryz.underlying69 hi0 hz0 hs0 hy0 rfl (by decide) _ k (vSt ss.reverse) rfl HB.out.1 rfl _ rfl rfl rfl (vSt_one (⟨true, N', ⟨none, 0, 0⟩, ⟨A4, m, c4⟩, page, ci⟩ : Stp)) hk9 (by omega) hzw ?_); intro v6 w6 ho6 hg6 hv6; obtain ⟨A6, c6, rfl, hc6⟩ := own_form ho6; have HP := Lib.hid (ds_push HB.out.1 hg6 HB.out.2.2.2.1 HB.out.2.1 HB.out.2.2.2.2.1 HB.out.2.2.1); have HO := Lib.hid (And.intro ho6 (HP.out.1.own HB.out.2.2.2.2.2.2 fun b e => by obtain ⟨cs, hb⟩ := own_blk17 HB.out.2.2.2.2.2.2 e; exact own_blk_ne HB.out.1 hb (by decide))); have X6 := HP.out.1.blk HB.out.2.2.2.2.2.1 fun e => own_blk_ne HB.out.1 HB.out.2.2.2.2.2.1 (by decide) e; have z6 := HP.out.1.size; have d0 : w6.cell? ⟨w2.heap.size, 0, none⟩ = some (.bool true) := X6.cell 0; clear X6 ho6 hg6 hv6)
     go_ret2
     obtain ⟨r1, r2, r3, r4⟩ : [] = rem ∧ page = lp ∧ N' = N ∧ es' = es := by simpa using hwy.out
     subst r1; subst r2; subst r3; subst r4
     have hfr := H0.out.2.2.2.2
     rw [List.nil_append] at hfr
     rw [hfr]
     exact ds_leaf (s := ⟨true, N', ⟨none, 0, 0⟩, ⟨A4, m, c4⟩, page, ci⟩) HO.out.1 Hk.out HP.out.2.1 (by omega) ⟨rfl, rfl, rfl, rfl, HO.out.2.mono (by omega)⟩ (fun g e => by
      rcases e with e | e
      · cases e
      · exact (World.ownsRow.lt HO.out.2 g e).2) HP.out.2.2.2.2
  · simp only at hwy HTF
    obtain ⟨m, hm⟩ : ∃ m, prs.length = m := ⟨_, rfl⟩
    have hmay := Lib.hid HTF.out
    have hwy := Lib.hid hwy
    have CHX : Hid (∀ (A4 : Option Addr) (c4 : Nat) (W : World), Reads W W.heap.size 3 A4 m (vE (prs.map Prod.fst)) → Calls Tryz.prog 57 #[.slice A4 m c4, .agg #[.string xs, .int .u32 xp, .int .u16 xq]] W (RetB W (.int .i64 (chN (prs.map Prod.fst) ⟨xs, xp, xq⟩ : Nat)))) := Lib.hid fun A4 c4 W hr => child_any A4 m c4 (prs.map Prod.fst) ⟨xs, xp, xq⟩ W hr (by have := hmay.out.2.2.2.1; omega)
    obtain ⟨ci, hci⟩ : ∃ ci, chN (prs.map Prod.fst) ⟨xs, xp, xq⟩ = ci := ⟨_, rfl⟩
    rw [hci] at CHX
    have Hm := Lib.hid hm
    have Hci := Lib.hid hci
    have hm1000 : m ≤ 1000 := by have := hmay.out.2.2.2.1; omega
    clear hci
    go_wp2_with fail
    refine OP.out.mono ?_
    rintro e w2 ⟨A3, c3, A4, c4, rfl, hc3, hc4, o3, o4, hb2⟩
    rw [hm] at hc3 hc4 o3 o4 ⊢
    clear hm OP HTF
    have hzw2 := hb2.size
    have hzw1 := hb1.size
    have hb02 := bto0 hb1 hb2
    have xb2 := hxb1.out.below hb02 hgl
    have hb3 := ball hb02 (.cells #[.bool false, .int .u32 0, .slice A3 (m + 1) c3, .slice A4 m c4] 75)
    have X3 := Blk.new w2 75 #[.bool false, .int .u32 0, .slice A3 (m + 1) c3, .slice A4 m c4]
    have r4 := Reads.of_own (o4.alloc (.cells #[.bool false, .int .u32 0, .slice A3 (m + 1) c3, .slice A4 m c4] 75))
    have xb3 := xb2.alloc (.cells #[.bool false, .int .u32 0, .slice A3 (m + 1) c3, .slice A4 m c4] 75)
    have hz3 : (w2.alloc (.cells #[.bool false, .int .u32 0, .slice A3 (m + 1) c3, .slice A4 m c4] 75)).heap.size = w2.heap.size + 1 := by simp
    have H2 := Lib.hid (And.intro o4 (And.intro hb02 (And.intro o3 (And.intro hc3 hc4))))
    clear o4 xb2 hb2 hb1 o3 hc3 hc4 hb02
    go_upto_region 11 with fail
    obtain ⟨w3, hw3⟩ : ∃ w3, w2.alloc (.cells #[.bool false, .int .u32 0, .slice A3 (m + 1) c3, .slice A4 m c4] 75) = w3 := ⟨_, rfl⟩
    rw [hw3] at X3 r4 xb3 hb3 hz3 ⊢
    have HW3 := Lib.hid hw3
    clear hw3
    have y0 : w3.cell? ⟨w2.heap.size, 0, none⟩ = some _ := X3.cell 0
    have y1 : w3.cell? ⟨w2.heap.size, 1, none⟩ = some _ := X3.cell 1
    have y2 : w3.cell? ⟨w2.heap.size, 2, none⟩ = some _ := X3.cell 2
    have y3 : w3.cell? ⟨w2.heap.size, 3, none⟩ = some _ := X3.cell 3
    have z0 : w3.cell? ⟨w.heap.size, 0, none⟩ = some (.string xs) := xb3.cell 0
    have z1 : w3.cell? ⟨w.heap.size, 1, none⟩ = some (.int .u32 xp) := xb3.cell 1
    have z2 : w3.cell? ⟨w.heap.size, 2, none⟩ = some (.int .u16 xq) := xb3.cell 2
    have CH3 : Hid (∀ W, Below w3.heap.size w3 W → Calls Tryz.prog 57 #[.slice A4 m c4, .agg #[.string xs, .int .u32 xp, .int .u16 xq]] W (RetB W (.int .i64 (ci : Int)))) := Lib.hid fun W hb => CHX.out A4 c4 W ((r4.below hb).more hb.size)
    have l2 : w2.heap.size < w3.heap.size := by omega
    have l0 : w.heap.size < w3.heap.size := by omega
    have H3 := Lib.hid (And.intro X3 (And.intro xb3 (And.intro hb3 hz3)))
    clear X3 r4 xb3 hb3 CHX hz3
    go_cut [13] (fun s13 wx => ∃ G, s13 = .pointer (some ⟨G, 0, none⟩) ∧ Blk wx G 77 #[.bool false, .int .u32 0, .slice A3 (m + 1) c3, .slice A4 m c4, .int .u32 (page : Int), .int .i64 (ci : Int)] ∧ Below w3.heap.size w3 wx ∧ w3.heap.size ≤ G)
    case first =>
     have HSx : Hid (∀ W, Below w3.heap.size w3 W → W.cell? ⟨w2.heap.size, 0, none⟩ = some (.bool false) ∧ W.cell? ⟨w2.heap.size, 1, none⟩ = some (.int .u32 0) ∧ W.cell? ⟨w2.heap.size, 2, none⟩ = some (.slice A3 (m + 1) c3) ∧ W.cell? ⟨w2.heap.size, 3, none⟩ = some (.slice A4 m c4) ∧ W.cell? ⟨w.heap.size, 0, none⟩ = some (.string xs) ∧ W.cell? ⟨w.heap.size, 1, none⟩ = some (.int .u32 xp) ∧ W.cell? ⟨w.heap.size, 2, none⟩ = some (.int .u16 xq)) := Lib.hid fun W hb => by
      have Y := H3.out.1.below hb l2
      have V := H3.out.2.1.below hb l0
      exact ⟨Y.cell 0, Y.cell 1, Y.cell 2, Y.cell 3, V.cell 0, V.cell 1, V.cell 2⟩
     clear y0 y1 y2 y3 z0 z1 z2
     refine wp_region_held_drew (S := (fun W => W.cell? ⟨w2.heap.size, 0, none⟩ = some (.bool false) ∧ W.cell? ⟨w2.heap.size, 1, none⟩ = some (.int .u32 0) ∧ W.cell? ⟨w2.heap.size, 2, none⟩ = some (.slice A3 (m + 1) c3) ∧ W.cell? ⟨w2.heap.size, 3, none⟩ = some (.slice A4 m c4) ∧ W.cell? ⟨w.heap.size, 0, none⟩ = some (.string xs) ∧ W.cell? ⟨w.heap.size, 1, none⟩ = some (.int .u32 xp) ∧ W.cell? ⟨w.heap.size, 2, none⟩ = some (.int .u16 xq))) (by kernel_rfl) (HSx.out _ (Below.drew (Below.refl _ _))) (fun hHeld => ?_)
     try dsimp only at hHeld
     refine zt 0 ?_ rfl (by kernel_rfl) (fun _ _ _ h => h) ⟨rfl, ?_⟩ hHeld ?_
     rotate_left
     focus (intro wx hSw; (try dsimp only at hSw); (try go_split_ands); go_simp; (try with_reducible rfl))
     try simp only [Act.put, za1, za2, za3, za4, za5, za6]
     refine zt 1 ?_ rfl (by kernel_rfl) (fun _ _ _ h => h) ⟨rfl, ?_⟩ hHeld ?_
     rotate_left
     focus (intro wx hSw; (try dsimp only at hSw); (try go_split_ands); go_simp; (try with_reducible rfl))
     try simp only [Act.put, za1, za2, za3, za4, za5, za6]
     refine zt 2 ?_ rfl (by kernel_rfl) (fun _ _ _ h => h) ⟨rfl, ?_⟩ hHeld ?_
     rotate_left
     focus (intro wx hSw; (try dsimp only at hSw); (try go_split_ands); go_simp; (try with_reducible rfl))
     try simp only [Act.put, za1, za2, za3, za4, za5, za6]
     refine zt 3 ?_ rfl (by kernel_rfl) (fun _ _ _ h => h) ⟨rfl, ?_⟩ hHeld ?_
     rotate_left
     focus (intro wx hSw; (try dsimp only at hSw); (try go_split_ands); go_simp; (try with_reducible rfl))
     try simp only [Act.put, za1, za2, za3, za4, za5, za6]
     refine zt 4 ?_ rfl (by kernel_rfl) (fun _ _ _ h => h) ⟨rfl, ?_⟩ hHeld ?_
     rotate_left
     focus (intro wx hSw; (try dsimp only at hSw); (try go_split_ands); go_simp; (try with_reducible rfl))
     try simp only [Act.put, za1, za2, za3, za4, za5, za6]
     refine wpAnyH_ready (rs := [5, 7]) (by kernel_rfl) (by simp) (AllReadyH.cons rfl (fun K hK => ?_) (AllReadyH.cons rfl (fun K hK => ?_) AllReadyH.nil))
     · go_simp
       (go_at_call 57; (with_reducible refine (CH3.out _ (by with_reducible repeat (first | exact Below.refl _ _ | refine bdr ?_ _ | refine Below.drew ?_ | refine ball ?_ _))).mono ?_)); rintro e w5 ⟨rfl, hb5⟩
       have hw5 : Below w3.heap.size w3 w5 := (by with_reducible repeat (first | exact Below.refl _ _ | exact hb5 | refine bto0 ?_ hb5 | refine bdr ?_ _ | refine Below.drew ?_ | refine ball ?_ _ | refine set6b ?_ (Nat.le_refl _)))
       go_wp2_with fail
       refine hK.out _ _ ?_ (fun hHeld => ?_)
       · ((try dsimp only); (try dsimp only at hHeld); exact HSx.out _ (by with_reducible repeat (first | exact Below.refl _ _ | exact hb5 | refine bto0 ?_ hb5 | refine bdr ?_ _ | refine Below.drew ?_ | refine ball ?_ _ | refine set6b ?_ (Nat.le_refl _))))
       clear hK K
       try dsimp only at hHeld
       try simp only [Act.put, za1, za2, za3, za4, za5, za6]
       refine zt 6 ?_ rfl (by kernel_rfl) (fun _ _ _ h => h) ⟨rfl, ?_⟩ hHeld ?_
       rotate_left
       focus (intro wx hSw; (try dsimp only at hSw); (try go_split_ands); go_simp; (try with_reducible rfl))
       try simp only [Act.put, za1, za2, za3, za4, za5, za6]
       refine wpAnyH_ready (rs := [7]) (by kernel_rfl) (by simp) (AllReadyH.cons rfl (fun K hK => ?_) AllReadyH.nil)
       go_simp
       refine hK.out _ _ ?_ (fun hHeld => ?_)
       · ((try dsimp only); (try dsimp only at hHeld); exact HSx.out _ (by with_reducible repeat (first | exact Below.refl _ _ | exact hb5 | refine bto0 ?_ hb5 | refine bdr ?_ _ | refine Below.drew ?_ | refine ball ?_ _ | refine set6b ?_ (Nat.le_refl _))))
       clear hK K
       try dsimp only at hHeld
       try simp only [Act.put, za1, za2, za3, za4, za5, za6]
       refine wpAnyH_ready (rs := [8]) (by kernel_rfl) (by simp) (AllReadyH.cons rfl (fun K hK => ?_) AllReadyH.nil)
       go_simp
       refine hK.out _ _ ?_ (fun hHeld => ?_)
       · ((try dsimp only); (try dsimp only at hHeld); exact HSx.out _ (by with_reducible repeat (first | exact Below.refl _ _ | exact hb5 | refine bto0 ?_ hb5 | refine bdr ?_ _ | refine Below.drew ?_ | refine ball ?_ _ | refine set6b ?_ (Nat.le_refl _))))
       clear hK K
       try dsimp only at hHeld
       try simp only [Act.put, za1, za2, za3, za4, za5, za6]
       refine wpAnyH_done (by kernel_rfl) ?_ _
       go_wp2_with fail
       go_meet
       exact ⟨w5.heap.size, rfl, Blk.new w5 _ _, ball hw5 _, hw5.size⟩
     · go_simp
       refine hK.out _ _ ?_ (fun hHeld => ?_)
       · ((try dsimp only); (try dsimp only at hHeld); exact HSx.out _ (by with_reducible repeat (first | exact Below.refl _ _ | refine bdr ?_ _ | refine Below.drew ?_ | refine ball ?_ _ | refine set6b ?_ (Nat.le_refl _))))
       clear hK K
       try dsimp only at hHeld
       try simp only [Act.put, za1, za2, za3, za4, za5, za6]
       refine wpAnyH_ready (rs := [5]) (by kernel_rfl) (by simp) (AllReadyH.cons rfl (fun K hK => ?_) AllReadyH.nil)
       go_simp
       (go_at_call 57; (with_reducible refine (CH3.out _ (by with_reducible repeat (first | exact Below.refl _ _ | refine bdr ?_ _ | refine Below.drew ?_ | refine ball ?_ _))).mono ?_)); rintro e w5 ⟨rfl, hb5⟩
       have hw5 : Below w3.heap.size w3 w5 := (by with_reducible repeat (first | exact Below.refl _ _ | exact hb5 | refine bto0 ?_ hb5 | refine bdr ?_ _ | refine Below.drew ?_ | refine ball ?_ _ | refine set6b ?_ (Nat.le_refl _)))
       have S5 : Blk w5 w3.heap.size 77 #[.bool false, .int .u32 0, .slice none 0 0, .slice none 0 0, .int .u32 0, .int .i64 0] := (Blk.new w3 _ _).drew.below hb5 (by simp)
       have k50 : w5.cell? ⟨w3.heap.size, 0, none⟩ = some (.bool false) := S5.cell 0
       have f50 := S5.frozen 0
       have k51 : w5.cell? ⟨w3.heap.size, 1, none⟩ = some (.int .u32 0) := S5.cell 1
       have f51 := S5.frozen 1
       have k52 : w5.cell? ⟨w3.heap.size, 2, none⟩ = some (.slice none 0 0) := S5.cell 2
       have f52 := S5.frozen 2
       have k53 : w5.cell? ⟨w3.heap.size, 3, none⟩ = some (.slice none 0 0) := S5.cell 3
       have f53 := S5.frozen 3
       have k54 : w5.cell? ⟨w3.heap.size, 4, none⟩ = some (.int .u32 0) := S5.cell 4
       have f54 := S5.frozen 4
       have k55 : w5.cell? ⟨w3.heap.size, 5, none⟩ = some (.int .i64 0) := S5.cell 5
       have f55 := S5.frozen 5
       have l5 := S5.lt
       go_wp2_with fail
       refine hK.out _ _ ?_ (fun hHeld => ?_)
       · ((try dsimp only); (try dsimp only at hHeld); exact HSx.out _ (by with_reducible repeat (first | exact Below.refl _ _ | exact hb5 | refine bto0 ?_ hb5 | refine bdr ?_ _ | refine Below.drew ?_ | refine ball ?_ _ | refine set6b ?_ (Nat.le_refl _))))
       clear hK K
       try dsimp only at hHeld
       try simp only [Act.put, za1, za2, za3, za4, za5, za6]
       refine zt 6 ?_ rfl (by kernel_rfl) (fun _ _ _ h => h) ⟨rfl, ?_⟩ hHeld ?_
       rotate_left
       focus (intro wx hSw; (try dsimp only at hSw); (try go_split_ands); go_simp; (try with_reducible rfl))
       try simp only [Act.put, za1, za2, za3, za4, za5, za6]
       refine wpAnyH_ready (rs := [8]) (by kernel_rfl) (by simp) (AllReadyH.cons rfl (fun K hK => ?_) AllReadyH.nil)
       go_simp
       have B9 : Below w3.heap.size w3 ((((((w5.setCell ⟨w3.heap.size, 0, none⟩ (.bool false)).setCell ⟨w3.heap.size, 1, none⟩ (.int .u32 0)).setCell ⟨w3.heap.size, 2, none⟩ (.slice A3 (m + 1) c3)).setCell ⟨w3.heap.size, 3, none⟩ (.slice A4 m c4)).setCell ⟨w3.heap.size, 4, none⟩ (.int .u32 (page : Int))).setCell ⟨w3.heap.size, 5, none⟩ (.int .i64 (ci : Int))) := set6b hw5 (Nat.le_refl _)
       have S9 : Blk ((((((w5.setCell ⟨w3.heap.size, 0, none⟩ (.bool false)).setCell ⟨w3.heap.size, 1, none⟩ (.int .u32 0)).setCell ⟨w3.heap.size, 2, none⟩ (.slice A3 (m + 1) c3)).setCell ⟨w3.heap.size, 3, none⟩ (.slice A4 m c4)).setCell ⟨w3.heap.size, 4, none⟩ (.int .u32 (page : Int))).setCell ⟨w3.heap.size, 5, none⟩ (.int .i64 (ci : Int))) w3.heap.size 77 #[.bool false, .int .u32 0, .slice A3 (m + 1) c3, .slice A4 m c4, .int .u32 (page : Int), .int .i64 (ci : Int)] := set6 S5
       obtain ⟨W9, hW9⟩ : ∃ W9, ((((((w5.setCell ⟨w3.heap.size, 0, none⟩ (.bool false)).setCell ⟨w3.heap.size, 1, none⟩ (.int .u32 0)).setCell ⟨w3.heap.size, 2, none⟩ (.slice A3 (m + 1) c3)).setCell ⟨w3.heap.size, 3, none⟩ (.slice A4 m c4)).setCell ⟨w3.heap.size, 4, none⟩ (.int .u32 (page : Int))).setCell ⟨w3.heap.size, 5, none⟩ (.int .i64 (ci : Int))) = W9 := ⟨_, rfl⟩
       rw [hW9] at B9 S9 ⊢
       clear hW9
       refine hK.out _ _ ?_ (fun hHeld => ?_)
       · ((try dsimp only); (try dsimp only at hHeld); exact HSx.out _ B9)
       clear hK K
       try dsimp only at hHeld
       try simp only [Act.put, za1, za2, za3, za4, za5, za6]
       refine wpAnyH_done (by kernel_rfl) ?_ _
       go_wp2_with fail
       go_meet
       exact ⟨w3.heap.size, rfl, S9, B9, Nat.le_refl _⟩
    case rest =>
     obtain ⟨G, rfl, BG, bx, hG⟩ := hcut
     rename World => wB
     have hbB := bto0 H3.out.2.2.1 bx
     have b2B := bto0 (show Below w2.heap.size w2 w3 from HW3.out ▸ ball (Below.refl _ _) _) bx
     have ho1 := own_below H0.out.1 hbB
     have hwr1 := H0.out.2.1.below hbB
     have hdp1 := H0.out.2.2.1.lower hbB
     have hbw1 := bto0 H0.out.2.2.2.1 hbB
     have hxb1 := H3.out.2.1.below bx l0
     have X1 := H3.out.1.below bx l2
     have o41 := own_below H2.out.1 b2B
     have o31 := own_below H2.out.2.2.1 b2B
     have hciN : ci < m + 1 := by have := List.countP_le_length (p := fun s => decide (cmpE s ⟨xs, xp, xq⟩ ≤ 0)) (l := prs.map Prod.fst); have e := Hci.out; unfold chN at e; have e2 := Hm.out; rw [List.length_map] at this; omega
     obtain ⟨a3, kid, hA3, _, hkid, _⟩ := (Reads.of_own o31).num (k := ci) hciN
     subst hA3
     have Hkid := Lib.hid hkid
     have gi0 : (0 : Int) ≤ (ci : Int) := by omega
     have gi1 : (ci : Int) < (m : Int) + 1 := by omega
     have BGl := Lib.hid (And.intro BG hG)
     clear hciN hkid
     have y0 : wB.cell? ⟨G, 0, none⟩ = some _ := BG.cell 0
     have y1 : wB.cell? ⟨G, 1, none⟩ = some _ := BG.cell 1
     have y2 : wB.cell? ⟨G, 2, none⟩ = some _ := BG.cell 2
     have y3 : wB.cell? ⟨G, 3, none⟩ = some _ := BG.cell 3
     have y4 : wB.cell? ⟨G, 4, none⟩ = some _ := BG.cell 4
     have y5 : wB.cell? ⟨G, 5, none⟩ = some _ := BG.cell 5
     have hzw : w.heap.size ≤ wB.heap.size := hbw1.size
     have hGl := BG.lt
     have hk9 : k + 1 ≤ 1000000000 := by omega
     have HB := Lib.hid (And.intro ho1 (And.intro hwr1 (And.intro hdp1 (And.intro hbw1 (And.intro hxb1 (And.intro X1 o41))))))
     have HB3 := Lib.hid o31
     clear ho1 hwr1 hdp1 hbw1 hxb1 X1 o41 hbB BG o31
     have hbx := Lib.hid (And.intro bx b2B)
     clear bx b2B
     go_wp2_with (at_builtin; go_loud (refine wpList_pushR (news := [.bool false, .int .u32 0, .slice (some a3) (m + 1) c3, .slice A4 m c4, .int .u32 (page : Int), .int .i64 (ci : Int)]) rfl (.tmp 42) (.tmp 44) 69 rfl w.heap.size 77 i0 _ 6 72 Tryz.underlying69 hi0 hz0 hs0 hy0 rfl (by decide) _ k (vSt ss.reverse) rfl HB.out.1 rfl _ rfl rfl rfl (vSt_one (⟨false, 0, ⟨some a3, m + 1, c3⟩, ⟨A4, m, c4⟩, page, ci⟩ : Stp)) hk9 (by omega) hzw ?_); intro v6 w6 ho6 hg6 hv6; obtain ⟨A6, c6, rfl, hc6⟩ := own_form ho6; have HP := Lib.hid (ds_push HB.out.1 hg6 HB.out.2.2.2.1 HB.out.2.1 HB.out.2.2.2.2.1 HB.out.2.2.1); have HO := Lib.hid (And.intro ho6 (HP.out.1.own HB.out.2.2.2.2.2.2 fun b e => by obtain ⟨cs, hb⟩ := own_blk17 HB.out.2.2.2.2.2.2 e; exact own_blk_ne HB.out.1 hb (by decide))); have X6 := HP.out.1.blk HB.out.2.2.2.2.2.1 fun e => own_blk_ne HB.out.1 HB.out.2.2.2.2.2.1 (by decide) e; have z6 := HP.out.1.size; have d0 : w6.cell? ⟨w2.heap.size, 0, none⟩ = some (.bool false) := X6.cell 0; have o36 := HP.out.1.own HB3.out (fun b e => by obtain ⟨cs, hb⟩ := own_blk17 HB3.out e; exact own_blk_ne HB.out.1 hb (by decide)); have HO3 := Lib.hid o36; clear o36; have d2 : w6.cell? ⟨w2.heap.size, 2, none⟩ = some (.slice (some a3) (m + 1) c3) := X6.cell 2; have X5 := HP.out.1.blk BGl.out.1 (fun e => by have := (World.ownsRow.lt H0.out.1 G e).2; have := BGl.out.2; have := H3.out.2.2.1.size; omega); have d5 : w6.cell? ⟨G, 5, none⟩ = some (.int .i64 (ci : Int)) := X5.cell 5; have ck := num_at62 (Reads.of_own HO3.out) Hkid.out; clear X5 X6 ho6 hg6 hv6)
     have hw0 := hwy.out
     rw [Hci.out] at hw0
     cases hwd : wayP ps f' kid ⟨xs, xp, xq⟩ with
     | none =>
       exfalso
       have : (c0 :: prs.map Prod.snd).getD ci 0 = kid := by rw [List.getD_eq_getElem?_getD, Hkid.out]; rfl
       rw [this, hwd] at hw0
       cases hw0
     | some r =>
       have hg : (c0 :: prs.map Prod.snd).getD ci 0 = kid := by rw [List.getD_eq_getElem?_getD, Hkid.out]; rfl
       rw [hg, hwd] at hw0
       obtain ⟨rem', lp', N2, es2⟩ := r
       obtain ⟨r1, r2, r3, r4⟩ : rem' ++ [⟨page, c0 :: prs.map Prod.snd, prs.map Prod.fst, ci⟩] = rem ∧ lp' = lp ∧ N2 = N ∧ es2 = es := by simpa using hw0
       subst r1; subst r2; subst r3; subst r4
       have hfr := H0.out.2.2.2.2
       have hz0 := H3.out.2.2.1.size
       refine ⟨⟨kid, f', ⟨false, 0, ⟨some a3, m + 1, c3⟩, ⟨A4, m, c4⟩, page, ci⟩ :: ss, ⟨page, c0 :: prs.map Prod.snd, prs.map Prod.fst, ci⟩ :: dn, w6.heap.size, rfl, ⟨⟨rem', hwd, by rw [hfr]; simp⟩, ?_, ⟨zb, by omega, ⟨rfl, rfl, rfl, rfl, HO3.out.mono (by omega), HO.out.2.mono (by omega)⟩, fun g e => ?_, HP.out.2.1⟩, Nat.le_refl _, HP.out.2.2.1, HP.out.2.2.2.1, HP.out.2.2.2.2, ?_⟩⟩, ?_⟩
       · rw [List.length_cons, Hk.out, ← stepV]
         exact HO.out.1
       · rcases e with e | e
         · exact (World.ownsRow.lt HO3.out g e).2
         · exact (World.ownsRow.lt HO.out.2 g e).2
       · have hin := List.mem_of_getElem? Hkid.out
         have h7 := hmay.out
         rcases List.mem_cons.1 hin with e | e
         · rw [e]; exact h7.2.2.2.2.2.2.1
         · obtain ⟨pr, hpr, rfl⟩ := List.mem_map.1 e
           exact (h7.2.2.2.2.2.1 pr hpr).2
       · simp [slM]; omega
end
end Go.Proofs.YtebobcbaloddaaaGreat
namespace Go.Proofs.YtebobcbaloddaaaGreat
section
set_option linter.unusedSimpArgs false
set_option linter.unusedVariables false
open Go.RowKit Go.Maps
structure SetB (w0 : World) (Bw Bc g gb gt n z a m : Nat) (ps : List (List UInt8)) (i : Nat) (ss : List Stp) (fs : List Fr11) (T : List Bool) (P Y : S11) (wr : List (Nat × List UInt8)) (cs : Array Value) (W : World) : Prop where
 blk : Blk W Bw 77 cs
 up : ∀ (j : Nat) (s : Stp), ss.reverse[j]? = some s → ∀ t, t < 6 → cs[j * 6 + t]? = s.cells[t]?
 ssl : ss.length = i
 wy : WayR W a ss fs m
 ch : ChS W z Bc g P Y (wr.map Prod.fst) (wr.map Prod.snd)
 dp : DP W g gb gt n ps T
 mz : m ≤ z
 zW : z ≤ W.heap.size
 bw : a ≤ Bw ∧ Bw < z
 lf : Lf w0 W gb gt
 a0 : w0.heap.size ≤ a
 dk : g < a ∧ gb < a ∧ gt < a
section
variable {w0 W W' : World} {Bw Bc g gb gt n z a m : Nat} {ps : List (List UInt8)} {i : Nat} {ss : List Stp} {fs : List Fr11} {T T' : List Bool} {P Y P' Y' : S11} {wr wr' : List (Nat × List UInt8)} {cs cs' : Array Value} {O : Nat → Prop}
theorem SetB.am (h : SetB w0 Bw Bc g gb gt n z a m ps i ss fs T P Y wr cs W) : a ≤ m := h.wy.le
theorem Lf.evt (h : Lf w0 W gb gt) (hv : EvT O W W') (hO : ∀ b, O b → w0.heap.size ≤ b) : Lf w0 W' gb gt := by
 have k : ∀ g, g < w0.heap.size → W'.heap[g]? = W.heap[g]? := fun g hg => hv.block g (Nat.lt_of_lt_of_le hg h.size) fun e => by have := hO g e; omega
 exact ⟨fun B h1 h2 h3 => by
  have b := h.below B h1 h2 h3
  exact ⟨hv.os.trans b.os, hv.tape.trans b.tape, hv.output.trans b.output, Nat.le_trans b.size hv.size, fun k' hk => (k k' (Nat.lt_of_lt_of_le hk h3)).trans (b.block k' hk)⟩,
  fun g' h1 h2 h3 => (k g' h1).trans (h.heap g' h1 h2 h3), Nat.le_trans h.size hv.size⟩
theorem DP.evt (h : DP W g gb gt n ps T) (hv : EvT O W W') (h1 : ¬ O g) (h2 : ¬ O gb) (h3 : ¬ O gt) : DP W' g gb gt n ps T :=
 h.same_ (hv.block _ h.dk.d.lt h1) (hv.block _ h.dk.b.lt h2) (hv.block _ h.dk.t.lt h3)
theorem SetB.evt (h : SetB w0 Bw Bc g gb gt n z a m ps i ss fs T P Y wr cs W) (hv : EvT O W W') (hO : ∀ b, O b → m ≤ b ∧ b < z ∧ b ≠ Bw) : SetB w0 Bw Bc g gb gt n z a m ps i ss fs T P Y wr cs W' := by
 have am := h.am
 have hd := h.dk
 exact ⟨hv.blk h.blk fun e => (hO _ e).2.2 rfl, h.up, h.ssl, h.wy.stays hv fun b e => .inl (hO b e).1, h.ch.stays hv (fun b e => (hO b e).2.1) h.zW, h.dp.evt hv (fun e => by have := (hO _ e).1; omega) (fun e => by have := (hO _ e).1; omega) (fun e => by have := (hO _ e).1; omega), h.mz, Nat.le_trans h.zW hv.size, h.bw, h.lf.evt hv fun b e => by have := (hO _ e).1; have := h.a0; omega, h.a0, h.dk⟩
theorem SetB.below (h : SetB w0 Bw Bc g gb gt n z a m ps i ss fs T P Y wr cs W) (hb : Below W.heap.size W W') : SetB w0 Bw Bc g gb gt n z a m ps i ss fs T P Y wr cs W' :=
 h.evt (EvT.of_below (O := fun _ => False) hb) fun _ e => e.elim
theorem SetB.put (h : SetB w0 Bw Bc g gb gt n z a m ps i ss fs T P Y wr cs W) (hv : EvT (ChO Bc P Y) W W') (hc : ChS W' z Bc g P' Y' (wr'.map Prod.fst) (wr'.map Prod.snd)) : SetB w0 Bw Bc g gb gt n z a m ps i ss fs T P' Y' wr' cs W' := by
 have am := h.am
 have hd := h.dk
 have hO : ∀ b, ChO Bc P Y b → z ≤ b := by
  obtain ⟨ys, k1, _⟩ := h.ch.by_
  rintro b (e | e | e)
  · rw [e]; exact h.ch.hz
  · exact (World.ownsRow.lt h.ch.pg b e).1
  · exact (World.ownsRow.lt k1 b e).1
 have hmz := h.mz
 exact ⟨hv.blk h.blk fun e => by have := hO _ e; have := h.bw; omega, h.up, h.ssl, h.wy.stays hv fun b e => .inl (by have := hO b e; omega), hc, h.dp.evt hv (fun e => by have := hO _ e; omega) (fun e => by have := hO _ e; omega) (fun e => by have := hO _ e; omega), h.mz, Nat.le_trans h.zW hv.size, h.bw, h.lf.evt hv fun b e => by have := hO _ e; have := h.a0; omega, h.a0, h.dk⟩
theorem SetB.way (h : SetB w0 Bw Bc g gb gt n z a m ps i ss fs T P Y wr cs W) (hv : EvT (fun b => b = Bw) W W') (hB : Blk W' Bw 77 cs') (hc : ∀ j, j < i * 6 → cs'[j]? = cs[j]?) : SetB w0 Bw Bc g gb gt n z a m ps i ss fs T P Y wr cs' W' := by
 have hd := h.dk
 have hb := h.bw
 refine ⟨hB, fun j s hs t ht => ?_, h.ssl, h.wy.stays hv fun b e => .inr ⟨_, cs, e ▸ h.blk, by decide, by decide⟩, h.ch.stays hv (fun b e => by omega) h.zW, h.dp.evt hv (fun e => by omega) (fun e => by omega) (fun e => by omega), h.mz, Nat.le_trans h.zW hv.size, h.bw, h.lf.evt hv fun b e => by have := h.a0; omega, h.a0, h.dk⟩
 have hj : j < i := by have := lt_of_at hs; rw [List.length_reverse, h.ssl] at this; exact this
 rw [hc _ (by omega)]
 exact h.up j s hs t ht
theorem SetB.take (h : SetB w0 Bw Bc g gb gt n z a m ps i ss fs T P Y wr cs W) (hL : Lf W W' gb gt) (hv : EvT (fun b => b = gt) W W') (hd : DP W' g gb gt n ps T') : SetB w0 Bw Bc g gb gt n z a m ps i ss fs T' P Y wr cs W' := by
 have hk := h.dk
 have hb := h.bw
 exact ⟨hv.blk h.blk fun e => by omega, h.up, h.ssl, h.wy.stays hv fun b e => .inr ⟨_, _, e ▸ h.dp.dk.t, by decide, by decide⟩, h.ch.stays hv (fun b e => by omega) h.zW, hd, h.mz, Nat.le_trans h.zW hv.size, h.bw, h.lf.trans hL, h.a0, h.dk⟩
theorem SetB.evw (h : SetB w0 Bw Bc g gb gt n z a m ps i ss fs T P Y wr cs W) (hv : EvT O W W') (hO : ∀ b, O b → m ≤ b ∧ b < z ∨ b = Bw) (hB : Blk W' Bw 77 cs') (hc : ∀ j, j < i * 6 → cs'[j]? = cs[j]?) : SetB w0 Bw Bc g gb gt n z a m ps i ss fs T P Y wr cs' W' := by
 have hd := h.dk
 have hb := h.bw
 have am := h.am
 refine ⟨hB, fun j s hs t ht => ?_, h.ssl, h.wy.stays hv fun b e => ?_, h.ch.stays hv (fun b e => by have := hO b e; omega) h.zW, h.dp.evt hv (fun e => by have := hO _ e; omega) (fun e => by have := hO _ e; omega) (fun e => by have := hO _ e; omega), h.mz, Nat.le_trans h.zW hv.size, h.bw, h.lf.evt hv fun b e => by have := hO b e; have := h.a0; omega, h.a0, h.dk⟩
 · have hj : j < i := by have := lt_of_at hs; rw [List.length_reverse, h.ssl] at this; exact this
   rw [hc _ (by omega)]
   exact h.up j s hs t ht
 · rcases hO b e with k | k
   · exact .inl k.1
   · exact .inr ⟨_, cs, k ▸ h.blk, by decide, by decide⟩
theorem SetB.pop {s : Stp} {f : Fr11} {i' : Nat} (h : SetB w0 Bw Bc g gb gt n z a m ps i (s :: ss) (f :: fs) T P Y wr cs W) (hi : i = i' + 1) : ∃ m', SetB w0 Bw Bc g gb gt n z a m' ps i' ss fs T P Y wr cs W ∧ StI W m' s f ∧ (∀ b, s.own b → m' ≤ b ∧ b < z ∧ b ≠ Bw) ∧ ∀ t, t < 6 → cs[i' * 6 + t]? = s.cells[t]? := by
 obtain ⟨m', h1, h2, h3, h4⟩ := h.wy
 subst hi
 have hl : ss.length = i' := by have := h.ssl; rw [List.length_cons] at this; omega
 have hmz := h.mz
 refine ⟨m', ⟨h.blk, fun j s' hs => h.up j s' ?_, hl, h4, h.ch, h.dp, by omega, h.zW, h.bw, h.lf, h.a0, h.dk⟩, h2, fun b hb => ⟨?_, by have := h3 b hb; omega, ?_⟩, h.up i' s ?_⟩
 · rw [List.reverse_cons, List.getElem?_append_left (lt_of_at hs)]; exact hs
 · rcases hb with hb | hb
   · exact (World.ownsRow.lt h2.k b hb).1
   · exact (World.ownsRow.lt h2.e b hb).1
 · intro e
   subst e
   rcases hb with hb | hb
   · exact own_blk_ne h2.k h.blk (by decide) hb
   · exact own_blk_ne h2.e h.blk (by decide) hb
 · rw [List.reverse_cons, List.getElem?_append_right (by rw [List.length_reverse]; omega), List.length_reverse, hl]
   simp
end
theorem pgB_eq {lf : Bool} {N N' : Nat} (h : lf = true → N = N') (kids : List Nat) (l : List En) : pgB lf N kids l = pgB lf N' kids l := by
 cases lf with
 | true => rw [h rfl]
 | false => rfl
theorem vE_one66 (l : List En) : ∀ u ∈ vE l, u.oneCell' = true := by
 intro u hu
 obtain ⟨e, _, he⟩ := List.mem_flatMap.1 hu
 simp only [En.cells, List.mem_cons, List.not_mem_nil, or_false] at he
 rcases he with rfl | rfl | rfl <;> rfl
theorem vN_one66 (l : List Nat) : ∀ u ∈ vN l, u.oneCell' = true := by
 intro u hu
 obtain ⟨e, _, rfl⟩ := List.mem_map.1 hu
 rfl
theorem far_own66 {w : World} {base size n b : Nat} {e t : TypeId} {v : Value} {xs : List Value} {cs : Array Value} (ho : w.ownsRow base e size v n xs) (hb : Blk w b t cs) (hne : e ≠ t) (i : Nat) (u : Value) : (w.setCell ⟨b, i, none⟩ u).ownsRow base e size v n xs := own_far ho hb hne i u
theorem vE_ins (l : List En) (i : Nat) (x : En) : (vE l).take (i * 3) ++ x.cells ++ (vE l).drop (i * 3) = vE (insI l i x) := by
 rw [vE_take64, vE_drop64]
 unfold insI vE
 simp
theorem vE_ins3 (l : List En) (i : Nat) (xs : ByteArray) (xp xq : Int) : (vE l).take (i * 3) ++ [.string xs, .int .u32 xp, .int .u16 xq] ++ (vE l).drop (i * 3) = vE (insI l i ⟨xs, xp, xq⟩) := vE_ins l i ⟨xs, xp, xq⟩
theorem set_ne66 {cs : Array Value} {i j : Nat} {u : Value} (h : i ≠ j) : (cs.setIfInBounds i u)[j]? = cs[j]? := Array.getElem?_setIfInBounds_ne h
theorem vN_ins (l : List Nat) (i q : Nat) : (vN l).take i ++ [.int .u32 (q : Int)] ++ (vN l).drop i = vN (insI l i q) := by
 rw [← vN_take64, ← vN_drop64]
 unfold insI vN
 simp
theorem kidL_len {kids : List Nat} {l : List En} (h : sumE l + 4 * l.length ≤ 500) (hk : kids.length = l.length + 1) : (kidL kids l).length = 512 := by
 unfold kidL
 have hf : (l.zip kids.tail).map Prod.fst = l := List.map_fst_zip (by rw [List.length_tail]; omega)
 have hl : (l.zip kids.tail).length = l.length := by rw [← List.length_map (f := Prod.fst), hf]
 exact innL_len _ _ _ (by rw [hf, hl]; exact h)
theorem pgB_len {lf : Bool} {N : Nat} {kids : List Nat} {l : List En} (hf : fitP lf l = true) (hk : lf = false → kids.length = l.length + 1) : (pgB lf N kids l).length = 512 := by
 cases lf with
 | true => exact leafL_len N l (by simpa [fitP] using hf)
 | false => exact kidL_len (by simpa [fitP] using hf) (hk rfl)
theorem CurOk.left {lf : Bool} {N : Nat} {kids : List Nat} {l : List En} (h : CurOk lf N kids l) (hf : fitP lf l ≠ true) :
 (∀ x ∈ l.take (cutW lf l), x.ok) ∧ mayEn (l.take (cutW lf l)) = true ∧ fitP lf (l.take (cutW lf l)) = true ∧ (lf = false → (kids.take (cutW lf l + 1)).length = (l.take (cutW lf l)).length + 1 ∧ (∀ x ∈ kids.take (cutW lf l + 1), x < 4294967296) ∧ l.take (cutW lf l) ≠ []) := by
 obtain ⟨q1, q2, q3, q4⟩ := h.cut hf
 refine ⟨fun x hx => h.ok x (List.mem_of_mem_take hx), may_take h.may _, q3, fun e => ?_⟩
 obtain ⟨k1, k2, k3⟩ := h.kid e
 refine ⟨by rw [List.length_take, List.length_take]; omega, fun x hx => k2 x (List.mem_of_mem_take hx), fun e2 => ?_⟩
 have := congrArg List.length e2
 rw [List.length_take, List.length_nil] at this
 omega
theorem CurOk.right {lf : Bool} {N : Nat} {kids : List Nat} {l : List En} (h : CurOk lf N kids l) (hf : fitP lf l ≠ true) :
 (∀ x ∈ l.drop (cutW lf l + gap lf), x.ok) ∧ mayEn (l.drop (cutW lf l + gap lf)) = true ∧ fitP lf (l.drop (cutW lf l + gap lf)) = true ∧ (lf = false → (kids.drop (cutW lf l + 1)).length = (l.drop (cutW lf l + gap lf)).length + 1 ∧ (∀ x ∈ kids.drop (cutW lf l + 1), x < 4294967296) ∧ l.drop (cutW lf l + gap lf) ≠ []) := by
 obtain ⟨q1, q2, q3, q4⟩ := h.cut hf
 refine ⟨fun x hx => h.ok x (List.mem_of_mem_drop hx), may_drop h.may _, q4, fun e => ?_⟩
 obtain ⟨k1, k2, k3⟩ := h.kid e
 have hg : gap lf = 1 := by subst e; rfl
 refine ⟨by rw [List.length_drop, List.length_drop]; omega, fun x hx => k2 x (List.mem_of_mem_drop hx), fun e2 => ?_⟩
 have := congrArg List.length e2
 rw [List.length_drop, List.length_nil] at this
 omega
theorem CurOk.sep {lf : Bool} {N : Nat} {kids : List Nat} {l : List En} (h : CurOk lf N kids l) (hf : fitP lf l ≠ true) : (l.getD (cutW lf l) enZ).ok ∧ (l.getD (cutW lf l) enZ).s.size ≤ 200 := by
 obtain ⟨q1, q2, q3, q4⟩ := h.cut hf
 have hlt : cutW lf l < l.length := by omega
 have : l.getD (cutW lf l) enZ = l[cutW lf l] := by rw [List.getD_eq_getElem?_getD, List.getElem?_eq_getElem hlt]; rfl
 rw [this]
 have hm : l[cutW lf l] ∈ l := List.getElem_mem hlt
 exact ⟨h.ok _ hm, (may_parts.1 h.may).1 _ hm⟩
theorem or2_any (W : World) : Calls Tryz.prog 68 #[.slice (some ⟨W.heap.size, 0, none⟩) 2 2] (W.alloc (.cells #[.int .i64 0, .int .i64 0] 27)) (fun e w' => e = .returned (.int .i64 0) ∧ (W.alloc (.cells #[.int .i64 0, .int .i64 0] 27)) = w') := by
 have hr : Reads (W.alloc (.cells #[.int .i64 0, .int .i64 0] 27)) (W.heap.size + 1) 1 (some ⟨W.heap.size, 0, none⟩) 2 [.int .i64 0, .int .i64 0] := reads_new W #[.int .i64 0, .int .i64 0] 27 (xs := [.int .i64 0, .int .i64 0]) rfl rfl
 exact orE_any (some ⟨W.heap.size, 0, none⟩) 2 2 _ [0, 0] _ hr (by decide)
theorem Reads.of_blk {w : World} {b n size : Nat} {t : TypeId} {cs : Array Value} {xs : List Value} (h : Blk w b t cs) (hx : xs = cs.toList) (hl : xs.length = n * size) : Reads w w.heap.size size (some ⟨b, 0, none⟩) n xs := by
 subst hx
 refine ⟨hl, fun _ => ⟨_, rfl, h.lt, fun j u hj => ?_⟩⟩
 rw [add_head]
 exact (h.cell j).trans (by simpa using hj)
theorem put_root {w : World} {z Bc g : Nat} {P Y : S11} {ns : List Nat} {bs : List (List UInt8)} (h : ChS w z Bc g P Y ns bs) (hns : ns.length ≤ 1000) (hbs : bs.length ≤ 1000) (hz : z ≤ w.heap.size) (r : Nat) {kb eb p q : Nat} {x : En}
 (hk : Blk w kb 30 #[.int .u32 (p : Int), .int .u32 (q : Int)]) (he : Blk w eb 37 #[.string x.s, .int .u32 x.p, .int .u16 x.q]) (hok : x.ok) (hs : x.s.size ≤ 200) (hp : p < 4294967296) (hq : q < 4294967296) :
 Calls Tryz.prog 65 #[.pointer (some ⟨Bc, 0, none⟩), .int .u32 (r : Int), .agg #[.bool false, .int .u32 0, .slice (some ⟨kb, 0, none⟩) 2 2, .slice (some ⟨eb, 0, none⟩) 1 1]] w (RetPut w z Bc g P Y (ns ++ [r]) (bs ++ [kidL [p, q] [x]])) := by
 have := put_any (lf := false) (N := 0) (k := ⟨some ⟨kb, 0, none⟩, 2, 2⟩) (e := ⟨some ⟨eb, 0, none⟩, 1, 1⟩) (kids := [p, q]) (l := [x]) h hns hbs hz r (by decide) ⟨Reads.of_blk he rfl rfl, fun _ => Reads.of_blk hk rfl rfl, fun e => by cases e⟩ (fun y hy => by rw [List.mem_singleton] at hy; rw [hy]; exact hok) (may_parts.2 ⟨fun y hy => by rw [List.mem_singleton] at hy; rw [hy]; exact hs, List.pairwise_singleton _ _⟩) (by simp [fitP, sumE]; omega) (fun _ => ⟨rfl, fun y hy => by simp only [List.mem_cons, List.not_mem_nil, or_false] at hy; rcases hy with rfl | rfl <;> assumption, by simp⟩)
 exact this
theorem setR_up12 {way root q : Nat} {wr : List (Nat × List UInt8)} {T : List Bool} {sep : En} (h : way = 12) : setR way root (.up wr T sep q) = (none, T) := by unfold setR; simp only; rw [if_pos h]
theorem setR_upN {way root q : Nat} {wr : List (Nat × List UInt8)} {T : List Bool} {sep : En} (h : way ≠ 12) (hf : freeI T = none) : setR way root (.up wr T sep q) = (none, T) := by unfold setR; simp only; rw [if_neg h, hf]
theorem setR_upS {way root q r : Nat} {wr : List (Nat × List UInt8)} {T : List Bool} {sep : En} (h : way ≠ 12) (hf : freeI T = some r) : setR way root (.up wr T sep q) = (some (wr ++ [(r, kidL [root, q] [sep])], r), T.set r true) := by unfold setR; simp only; rw [if_neg h, hf]
def topP : Nat → List Fr11 → Nat
 | p, [] => p
 | _, f :: fs => topP f.p fs
theorem topP_snoc : ∀ (fs : List Fr11) (p : Nat) (f : Fr11), topP p (fs ++ [f]) = f.p
 | [], _, _ => rfl
 | a :: r, p, f => topP_snoc r a.p f
def RetSet (w0 : World) (Bc g gb gt n z : Nat) (ps : List (List UInt8)) (way root : Nat) (st : Stt) (e : Ending) (w' : World) : Prop :=
 DP w' g gb gt n ps (setR way root st).2 ∧ Lf w0 w' gb gt ∧ match (setR way root st).1 with
  | none => e = .returned (.tuple #[.int .u32 0, .int .i64 7])
  | some (wr, r) => e = .returned (.tuple #[.int .u32 (r : Int), .int .i64 0]) ∧ (∃ P Y, ChS w' z Bc g P Y (wr.map Prod.fst) (wr.map Prod.snd)) ∧ (∀ q ∈ wr, q.2.length = 512) ∧ wr.length ≤ 100
end
end Go.Proofs.YtebobcbaloddaaaGreat
