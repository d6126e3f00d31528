/-
  Pf Pg Ph.
-/
import Derived.Test.YtebobcbaloddaaaGreatMobh
import Derived.BigQuiet
import Derived.StillTailTactics
namespace Go.Proofs.YtebobcbaloddaaaGreat
section
set_option linter.unusedSimpArgs false
set_option linter.unusedVariables false
set_option linter.unusedSimpArgs false
set_option linter.unusedVariables false
open Go.RowKit Go.Maps
section
variable {w : World} {lo gp gd gb gt n : Nat} {ps : List (List UInt8)} {T : List Bool} {gm size : Nat} {K : List Fr} {D : DataW Unit} {rd ht : Nat}
theorem room_yes (h : PS w lo gp gd gb gt n ps T gm size K D rd ht) (hk : K.length < size) (hk6 : K.length ≤ 1000000) :
 Calls Tryz.prog 102 #[.pointer (some ⟨gp, 0, none⟩)] w fun e w' => e = .returned (.tuple #[]) ∧ Below w.heap.size w w' := by
 have c2 : w.cell? ⟨gp, 2, none⟩ = some (.map (some gm)) := h.rg.pool.cell 2
 have c1 : w.cell? ⟨gp, 1, none⟩ = some (.int .i64 size) := h.rg.pool.cell 1
 have ln : ∀ (m : Nat) ty, (Builtin.len_ #[97] ty #[.map (some gm)]).run Tryz.prog (w.drewN m) = .ok (.int .i64 K.length) (w.drewN m) := by
  intro m ty
  have := World.ownsMap.len (w := w.drewN m) (h.mp.own) Tryz.underlying97 ty
  rwa [h.mp.size] at this
 obtain ⟨N, hN⟩ : ∃ N, K.length = N := ⟨_, rfl⟩
 rw [hN] at ln hk hk6
 have hkI : (N : Int) < (size : Int) := by omega
 clear h hk hN
 go_enter Tryz.func102, Tryz.ntmps102
 go_wp2_with fail
 go_quiet (fail)
 go_wp2
 exact bodyPost_ret (v := .tuple #[]) (by simp [results, Tryz.results102, go_sem]) rfl ⟨rfl, bdr (Below.refl _ _) nq⟩
set_option maxRecDepth 100000 in
theorem room_no {f : Fr} (h : PS w lo gp gd gb gt n ps T gm size (f :: K) D rd ht) (hn : n ≤ 1000000) (hk : (f :: K).length = size) (hk6 : (f :: K).length ≤ 1000000) :
 Calls Tryz.prog 102 #[.pointer (some ⟨gp, 0, none⟩)] w fun e w' => e = .returned (.tuple #[]) ∧ PS w' lo gp gd gb gt n ps T gm size K (D.del (.int .u32 f.p)) rd ht ∧ Turn w w' lo gp gm (f :: K) := by
 have c2 : w.cell? ⟨gp, 2, none⟩ = some (.map (some gm)) := h.rg.pool.cell 2
 have c1 : w.cell? ⟨gp, 1, none⟩ = some (.int .i64 size) := h.rg.pool.cell 1
 have c6 : w.cell? ⟨gp, 3 + 3, none⟩ = some (.pointer (some ⟨f.g, 0, none⟩)) := h.rg.pool.cell 6
 have hpn := h.pn (i := 0) (f := f) rfl
 have ln : ∀ (m : Nat) ty, (Builtin.len_ #[97] ty #[.map (some gm)]).run Tryz.prog (w.drewN m) = .ok (.int .i64 size) (w.drewN m) := by
  intro m ty
  have := World.ownsMap.len (w := w.drewN m) (h.mp.own) Tryz.underlying97 ty
  rwa [h.mp.size, hk] at this
 have hkI : ¬ ((size : Int) < (size : Int)) := by omega
 have LV := Lib.hid fun m => leave_any (i := 0) (f := f) (w := w.drewN m) (h.below (bdr (Below.refl _ _) m)).rg rfl
 have H := Lib.hid h
 have HK := Lib.hid hk
 have c6n : ∀ m, (w.drewN m).cell? ⟨gp, 3 + 3, none⟩ = some (.pointer (some ⟨f.g, 0, none⟩)) := fun _ => c6
 clear hk hk6 h
 go_enter Tryz.func102, Tryz.ntmps102
 go_wp2_with fail
 go_quiet (fail)
 clear ln c2 c1
 go_wp2_with fail
 refine (LV.out nq).mono ?_
 rintro e w2 ⟨rfl, rg2, ⟨x, y, hfx⟩, st2⟩
 have H0 := H.out.below (bdr (Below.refl _ _) nq)
 have d2 : w2.cell? ⟨gp, 2, none⟩ = some (.map (some gm)) := rg2.pool.cell 2
 have d0 : w2.cell? ⟨f.g, 0, none⟩ = some (.int .u32 f.p) := hfx.cell 0
 have hgm : w2.heap[gm]? = (w.drewN nq).heap[gm]? := st2.heap gm (fun e => H0.mp.ne_ H0.rg.pool e.symm) (fun j f' hj => fun e => H0.mp.ne_ (H0.rg.fr j f' hj).1 e.symm)
 have m2 := H0.mp.same hgm
 have H2 := Lib.hid (And.intro rg2 (And.intro st2 m2))
 have HH := Lib.hid H0
 clear rg2 st2 hfx hgm m2 c6 c6n H0
 go_wp2_with fail
 go_still_tail 8, (by kernel_rfl)
 refine wpList_delete_own _ rfl (.tmp 23) (.tmp 27) 97 30 rfl 98 Tryz.keyU Tryz.underlying97 Rp gm (f :: K).length D rfl H2.out.2.2.own (.int .u32 f.p) (.int .u32 f.p) rfl (u32_key f.p (by omega)) ?_
 intro w3 own3 turn3
 have hgr : w2.drew.grownBy w3 (some gm) := turn3.grown
 have sz3 : w2.heap.size ≤ w3.heap.size := hgr.size
 have hh3 : ∀ g, g ≠ gm → g < w2.heap.size → w3.heap[g]? = w2.heap[g]? := fun g h1 h2 => hgr.block g h2 (fun e => h1 (by injection e))
 have b02 : ∀ {g : Nat} {t : TypeId} {cs : Array Value}, t ≠ 108 → t ≠ 100 → Blk (w.drewN nq) g t cs → Blk w3 g t cs := by
  intro g t cs h1 h2 hb
  have hb2 := stay_blk HH.out.rg.pool HH.out.rg.frs H2.out.2.1 hb h1 h2
  exact (hh3 g (H2.out.2.2.ne_ hb2) hb2.lt).trans hb2
 have rg3 : Rg w3 lo gp K _ _ _ _ _ := H2.out.1.same (hh3 gp (H2.out.2.2.ne_ H2.out.1.pool) H2.out.1.pool.lt) (fun j f' hj => hh3 _ (H2.out.2.2.ne_ (H2.out.1.fr j f' hj).1) (H2.out.1.fr j f' hj).1.lt)
 have m3 : MapR w3 gm K (D.del (.int .u32 f.p)) := H2.out.2.2.drop (fun i f' hi he => by have := H.out.pg (i + 1) 0 f' f hi rfl he; omega) own3
 have lts := HH.out.dk
 have ps3 : PS w3 lo gp gd gb gt n ps T gm size K (D.del (.int .u32 f.p)) rd ht := by
  refine ⟨rg3, m3, H.out.lom, fun j f' hj => ?_, fun a b f1 f2 ha hb he => ?_, ?_, H.out.s1, ?_⟩
  · exact ⟨b02 (by decide) (by decide) (HH.out.by_ (j + 1) f' hj).1, (HH.out.by_ (j + 1) f' hj).2⟩
  · have := H.out.pg (a + 1) (b + 1) f1 f2 ha hb he; omega
  · exact ⟨⟨b02 (by decide) (by decide) HH.out.dk.dk.d, b02 (by decide) (by decide) HH.out.dk.dk.b, b02 (by decide) (by decide) HH.out.dk.dk.t, HH.out.dk.dk.hb, HH.out.dk.dk.ht⟩, HH.out.dk.full, HH.out.dk.hp⟩
  · have := HK.out; rw [List.length_cons] at this; omega
 have tn : Turn w w3 lo gp gm (f :: K) :=
  ⟨by have := H2.out.2.1.size; have h0 : (w.drewN nq).heap.size = w.heap.size := rfl; omega, fun g hg h1 h2 h3 => by
   have h0 : (w.drewN nq).heap.size = w.heap.size := rfl
   have hs := H2.out.2.1.size
   exact (hh3 g h2 (by omega)).trans (H2.out.2.1.heap g h1 h3), fun B w0 hB hb => by
   have h1 : Below B w0 w2 := H2.out.2.1.below B w0 hB (bdr hb nq)
   exact h1.drew.grown hgr (Nat.le_trans hB (Nat.le_trans H.out.lom (Nat.le_of_lt H2.out.2.2.lt))) (fun k hk => by injection hk with hk; rw [← hk]; exact Nat.le_trans hB H.out.lom)⟩
 clear hgr hh3 b02 rg3 m3
 go_wp2
 go_end0
 exact ⟨rfl, ps3, tn⟩
end
end
end Go.Proofs.YtebobcbaloddaaaGreat
namespace Go.Proofs.YtebobcbaloddaaaGreat
section
set_option linter.unusedSimpArgs false
set_option linter.unusedVariables false
set_option linter.unusedSimpArgs false
set_option linter.unusedVariables false
open Go.RowKit Go.Maps
section
variable {w : World} {lo gp gd gb gt n : Nat} {ps : List (List UInt8)} {T : List Bool} {gm size : Nat} {K : List Fr} {D : DataW Unit} {rd ht : Nat}
theorem PS.turn_blk (h : PS w lo gp gd gb gt n ps T gm size K D rd ht) {w' : World} (t : Turn w w' lo gp gm K) {g : Nat} {ty : TypeId} {cs : Array Value} (hb : Blk w g ty cs) (h1 : ty ≠ 108) (h2 : ty ≠ 100) : Blk w' g ty cs :=
 (t.heap g hb.lt (hb.ne_ h.rg.pool h1) (h.mp.ne_ hb) (fun j f hj => hb.ne_ (h.rg.fr j f hj).1 h2)).trans hb
theorem PS.put7 (h : PS w lo gp gd gb gt n ps T gm size K D rd ht) (x : Nat) : PS (w.setCell ⟨gp, 7, none⟩ (.int .u64 x)) lo gp gd gb gt n ps T gm size K D x ht := by
 have hh : ∀ g, g ≠ gp → (w.setCell ⟨gp, 7, none⟩ (.int .u64 x)).heap[g]? = w.heap[g]? := fun g hg => Below.heap_setCell _ _ _ _ hg
 have hb : ∀ {g : Nat} {t : TypeId} {cs : Array Value}, t ≠ 108 → Blk w g t cs → Blk (w.setCell ⟨gp, 7, none⟩ (.int .u64 x)) g t cs := fun ht hb => (hh _ (hb.ne_ h.rg.pool ht)).trans hb
 exact ⟨h.rg.put7 _, h.mp.same (hh gm (fun e => h.mp.ne_ h.rg.pool e.symm)), h.lom, fun i f hi => ⟨hb (by decide) (h.by_ i f hi).1, (h.by_ i f hi).2⟩, h.pg, ⟨⟨hb (by decide) h.dk.dk.d, hb (by decide) h.dk.dk.b, hb (by decide) h.dk.dk.t, h.dk.dk.hb, h.dk.dk.ht⟩, h.dk.full, h.dk.hp⟩, h.s1, h.sz⟩
def roomK (size : Nat) (K : List Fr) : List Fr := if K.length < size then K else K.tail
theorem mroom_any (h : PS w lo gp gd gb gt n ps T gm size K D rd ht) (hn : n ≤ 1000000) (hk6 : K.length ≤ 1000000) (hlo : lo ≤ w.heap.size) :
 Calls Tryz.prog 102 #[.pointer (some ⟨gp, 0, none⟩)] w fun e w' => e = .returned (.tuple #[]) ∧ (∃ D', PS w' lo gp gd gb gt n ps T gm size (roomK size K) D' rd ht) ∧ Turn w w' lo gp gm K := by
 by_cases hk : K.length < size
 · have e : roomK size K = K := by unfold roomK; rw [if_pos hk]
   rw [e]
   exact (room_yes h hk hk6).mono fun e w' ⟨h1, h2⟩ => ⟨h1, ⟨D, h.below h2⟩, Turn.of_below h2 hlo⟩
 · have hs := h.sz
   have h1 := h.s1
   obtain ⟨f, K0, rfl⟩ : ∃ f K0, K = f :: K0 := by
    cases K with
    | nil => simp at hk; omega
    | cons f K0 => exact ⟨f, K0, rfl⟩
   have e : roomK size (f :: K0) = K0 := by unfold roomK; rw [if_neg hk]; rfl
   rw [e]
   exact (room_no h hn (by omega) hk6).mono fun e w' ⟨h1, h2, h3⟩ => ⟨h1, ⟨_, h2⟩, h3⟩
theorem roomK_sub {size : Nat} {K : List Fr} {i : Nat} {f : Fr} (h : (roomK size K)[i]? = some f) : ∃ j : Nat, K[j]? = some f := by
 unfold roomK at h
 split at h
 · exact ⟨i, h⟩
 · rw [List.getElem?_tail] at h
   exact ⟨i + 1, h⟩
theorem roomK_len {size : Nat} {K : List Fr} (h1 : 1 ≤ size) (hs : K.length ≤ size) : (roomK size K).length + 1 ≤ size := by
 unfold roomK
 split
 · omega
 · rw [List.length_tail]; omega
def RetMiss2 (w : World) (lo gp gd gb gt n : Nat) (ps : List (List UInt8)) (T : List Bool) (gm size : Nat) (K : List Fr) (rd ht p : Nat) (l : List UInt8) (e : Ending) (w' : World) : Prop :=
 ∃ f : Fr, f.p = p ∧ w.heap.size ≤ f.g ∧ RetGet2 w lo gp gd gb gt n ps T gm size K (roomK size K ++ [f]) rd ht l e w'
set_option maxRecDepth 100000 in
theorem get_miss2 (h : PS w lo gp gd gb gt n ps T gm size K D rd ht) {p : Nat} {q : List UInt8} (hq : ps[p]? = some q) (hnk : ∀ (i : Nat) (f : Fr), K[i]? = some f → f.p ≠ p) (hn : n ≤ 1000000) (hrd : rd ≤ 1000000) (hk6 : K.length ≤ 1000000) (hlo : lo ≤ w.heap.size) :
 Calls Tryz.prog 73 #[.pointer (some ⟨gp, 0, none⟩), .int .u32 p] w (RetMiss2 w lo gp gd gb gt n ps T gm size K (rd + 1) ht p q) := by
 have hpn : p < n := by have := lt_of_at hq; rw [h.dk.hp] at this; exact this
 have hql : q.length = 512 := h.dk.full _ (List.mem_of_getElem? hq)
 have c0 : w.cell? ⟨gp, 0, none⟩ = some (.pointer (some ⟨gd, 0, none⟩)) := h.rg.pool.cell 0
 have c2 : w.cell? ⟨gp, 2, none⟩ = some (.map (some gm)) := h.rg.pool.cell 2
 obtain ⟨v, pv, hrun, hv⟩ := h.mp.own.look_ok Tryz.keyU Tryz.underlying97 (Tryz.zeroFr w) (show Rp (.pointer none) = some (.nil, []) from rfl) (u32_key p (by omega))
 rw [h.mp.hasn p hnk] at hrun
 rw [Maps.atKey_of_not_has (h.mp.hasn p hnk)] at hv
 obtain rfl := Rp_nil hv
 have RD := Lib.hid (read_ok h.dk p q hq hn)
 have H := Lib.hid (And.intro h (And.intro hnk (And.intro hk6 (And.intro hlo (And.intro hql hq)))))
 have hpI : (p : Int) ≤ 1000000 := by omega
 clear hv h hnk hk6 hql hq hlo
 go_enter Tryz.func73, Tryz.ntmps73
 go_wp2_with fail
 refine RD.out.mono ?_
 rintro e w1 ⟨rfl, hB1, hb1⟩
 have ps1 := H.out.1.below hb1
 have AD := Lib.hid (add64_any gp 7 rd w1 (ps1.rg.pool.cell 7) (ps1.rg.pool.frozen 7) hrd)
 have hB2 : Blk (w1.setCell ⟨gp, 7, none⟩ (.int .u64 (rd + 1 : Nat))) w.heap.size 5 (bV q) := hB1.far (p := ⟨gp, 7, none⟩) (hB1.ne_ ps1.rg.pool (by decide)) _
 have ps2 := ps1.put7 (rd + 1)
 have hz2 : (w1.setCell ⟨gp, 7, none⟩ (.int .u64 (rd + 1 : Nat))).heap.size = w1.heap.size := by simp [World.setCell]
 have MR := Lib.hid (mroom_any ps2 hn H.out.2.2.1 (by rw [hz2]; exact Nat.le_trans H.out.2.2.2.1 hb1.size))
 have t2 : Turn w (w1.setCell ⟨gp, 7, none⟩ (.int .u64 (rd + 1 : Nat))) lo gp gm K :=
  (Turn.of_below hb1 H.out.2.2.2.1).trans (K' := K) ⟨by rw [hz2]; exact Nat.le_refl _, fun g _ h1 _ _ => Below.heap_setCell _ _ _ _ h1, fun B w0 hB hb => hb.setCell (Nat.le_trans hB H.out.1.rg.low) _⟩ (fun j f hj => .inl ⟨j, hj⟩)
 have H2 := Lib.hid (And.intro ps2 (And.intro hB2 t2))
 have hb1s := hb1.size
 clear ps1 ps2 hB1 hB2 hb1 t2 c0 hrun
 go_wp2_with fail
 refine AD.out.mono ?_
 rintro e w2 ⟨rfl, rfl⟩
 go_wp2_with fail
 refine MR.out.mono ?_
 rintro e w3 ⟨rfl, ⟨D1, ps3⟩, t3⟩
 have hB3 := H2.out.1.turn_blk t3 H2.out.2.1 (by decide) (by decide)
 have t3s := t3.size
 have t03 := H2.out.2.2.trans t3 (fun j f hj => .inl ⟨j, hj⟩)
 have ps4 := ps3.below (ball (Below.refl w3.heap.size w3) (.cells #[.int .u32 p, .slice (some ⟨w.heap.size, 0, none⟩) 512 512, .pointer none, .pointer none] 100))
 have hf4 := Blk.new w3 100 #[.int .u32 p, .slice (some ⟨w.heap.size, 0, none⟩) 512 512, .pointer none, .pointer none]
 have hB4 := hB3.alloc (.cells #[.int .u32 p, .slice (some ⟨w.heap.size, 0, none⟩) 512 512, .pointer none, .pointer none] 100)
 have t04 : Turn w (w3.alloc (.cells #[.int .u32 p, .slice (some ⟨w.heap.size, 0, none⟩) 512 512, .pointer none, .pointer none] 100)) lo gp gm K :=
  t03.trans (Turn.of_below (K := K) (ball (Below.refl w3.heap.size w3) _) (Nat.le_trans H.out.2.2.2.1 t03.size)) (fun j f hj => .inl ⟨j, hj⟩)
 have d2 : (w3.alloc (.cells #[.int .u32 p, .slice (some ⟨w.heap.size, 0, none⟩) 512 512, .pointer none, .pointer none] 100)).cell? ⟨gp, 2, none⟩ = some (.map (some gm)) := ps4.rg.pool.cell 2
 have hk1 := roomK_len H.out.1.s1 H.out.1.sz
 have hz4 : (w3.alloc (.cells #[.int .u32 p, .slice (some ⟨w.heap.size, 0, none⟩) 512 512, .pointer none, .pointer none] 100)).heap.size = w3.heap.size + 1 := by simp
 have H4 := Lib.hid (And.intro ps4 (And.intro hf4 (And.intro hB4 (And.intro t04 (And.intro hz4 (And.intro t03.size hk1))))))
 clear ps3 ps4 t3 hB3 t03 hf4 hB4 t04 hz4 hk1 AD MR c2
 go_wp2_with (at_mapUpdate; refine wpList_mapUpdate_own _ rfl _ _ _ 97 rfl 30 98 Tryz.keyU Tryz.underlying97 Rp gm _ D1 rfl H4.out.1.mp.own (by have := H.out.2.2.1; have := H4.out.2.2.2.2.2.2; have h1 := H.out.1.sz; unfold roomK; unfold maxLen; split <;> (try rw [List.length_tail]) <;> omega) _ _ (.int .u32 p) rfl rfl (u32_key p (by omega)) (.lit (.int .i64 (w3.heap.size : Nat))) [] rfl ?_; intro w5 own5 hgr5)
 have hgn : gm ≠ w3.heap.size := fun e => by have := (hgr5.size); have := H4.out.1.mp.lt; have h5 := H4.out.1.mp.ne_ H4.out.2.1; exact h5 e.symm
 have hh5 : ∀ g', g' ≠ gm → g' < (w3.alloc (.cells #[.int .u32 p, .slice (some ⟨w.heap.size, 0, none⟩) 512 512, .pointer none, .pointer none] 100)).heap.size → w5.heap[g']? = (w3.alloc (.cells #[.int .u32 p, .slice (some ⟨w.heap.size, 0, none⟩) 512 512, .pointer none, .pointer none] 100)).heap[g']? := fun g' h1 h2 => hgr5.block g' h2 (fun e => h1 (by injection e))
 have b45 : ∀ {g' : Nat} {t : TypeId} {cs : Array Value}, Blk (w3.alloc (.cells #[.int .u32 p, .slice (some ⟨w.heap.size, 0, none⟩) 512 512, .pointer none, .pointer none] 100)) g' t cs → Blk w5 g' t cs := fun hb => (hh5 _ (H4.out.1.mp.ne_ hb) hb.lt).trans hb
 have rg5 : Rg w5 lo gp (roomK size K) _ _ _ _ _ := H4.out.1.rg.same (hh5 gp (H4.out.1.mp.ne_ H4.out.1.rg.pool) H4.out.1.rg.pool.lt) (fun j f' hj => hh5 _ (H4.out.1.mp.ne_ (H4.out.1.rg.fr j f' hj).1) (H4.out.1.rg.fr j f' hj).1.lt)
 have hf5 := b45 H4.out.2.1
 have hlo3 : lo ≤ w3.heap.size := Nat.le_trans H.out.2.2.2.1 H4.out.2.2.2.2.2.1
 have hB5 := b45 H4.out.2.2.1
 have hlt3 : ∀ (j : Nat) (f' : Fr), (roomK size K)[j]? = some f' → f'.g ≠ w3.heap.size := by
  intro j f' hj e
  obtain ⟨j', hj'⟩ := roomK_sub hj
  have hx := (H2.out.1.rg.fr j' f' hj').1.lt
  have hy : (w1.setCell ⟨gp, 7, none⟩ (.int .u64 (rd + 1 : Nat))).heap.size = w1.heap.size := by simp [World.setCell]
  have h5 : w1.heap.size ≤ w3.heap.size := by rw [← hy]; exact t3s
  omega
 have hnp : ∀ (i : Nat) (f' : Fr), (roomK size K)[i]? = some f' → f'.p ≠ p := by
  intro j f' hj
  obtain ⟨j', hj'⟩ := roomK_sub hj
  exact H.out.2.1 j' f' hj'
 have m5 : MapR w5 gm (roomK size K ++ [⟨w3.heap.size, p, w.heap.size, q⟩]) (D1.put (.int .u32 p) (.lit (.int .i64 (w3.heap.size : Nat)))) := MapR.add (f := ⟨w3.heap.size, p, w.heap.size, q⟩) H4.out.1.mp hnp own5
 have EN := Lib.hid (enter_any (f := ⟨w3.heap.size, p, w.heap.size, q⟩) rg5 hf5 hlo3 hlt3)
 have t05 : Turn w w5 lo gp gm K := H4.out.2.2.2.1.trans (K' := K) ⟨hgr5.size, fun g' hg' _ h2 _ => hh5 g' h2 hg', fun B w0 hB hb => hb.grown hgr5 (Nat.le_trans hB (Nat.le_trans hlo3 (by simp))) (fun k hk => by injection hk with hk; rw [← hk]; exact Nat.le_trans hB H.out.1.lom)⟩ (fun j f hj => .inl ⟨j, hj⟩)
 have d2 : w5.cell? ⟨gp, 2, none⟩ = some (.map (some gm)) := rg5.pool.cell 2
 have hF5 : ∀ (j : Nat) (f' : Fr), (roomK size K ++ [⟨w3.heap.size, p, w.heap.size, q⟩])[j]? = some f' → ∃ cs, Blk w5 f'.g 100 cs := by
  intro j f' hj
  rcases Nat.lt_or_ge j (roomK size K).length with h1 | h1
  · rw [List.getElem?_append_left h1] at hj; exact rg5.frs j f' hj
  · rw [List.getElem?_append_right h1] at hj
    have := lt_of_at hj
    have hz : j - (roomK size K).length = 0 := by simp at this; omega
    rw [hz] at hj
    injection hj with hj
    exact ⟨_, by rw [← hj]; exact hf5⟩
 have H5 := Lib.hid (And.intro rg5 (And.intro hB5 (And.intro m5 (And.intro t05 (And.intro hF5 (And.intro hnp @b45))))))
 clear rg5 hf5 hB5 m5 t05 hF5 hnp hh5 b45 hlt3 own5 hgr5 hgn
 go_wp2_with fail
 refine EN.out.mono ?_
 rintro e w6 ⟨rfl, rg6, st6⟩
 have b56 : ∀ {g' : Nat} {t : TypeId} {cs : Array Value}, t ≠ 108 → t ≠ 100 → Blk w5 g' t cs → Blk w6 g' t cs := fun h1 h2 hb => stay_blk H5.out.1.pool H5.out.2.2.2.2.1 st6 hb h1 h2
 have hB6 := b56 (by decide) (by decide) H5.out.2.1
 have hlast : (roomK size K ++ [(⟨w3.heap.size, p, w.heap.size, q⟩ : Fr)])[(roomK size K).length]? = some ⟨w3.heap.size, p, w.heap.size, q⟩ := by rw [List.getElem?_append_right (Nat.le_refl _), Nat.sub_self]; rfl
 have d1 : w6.cell? ⟨w3.heap.size, 1, none⟩ = some (.slice (some ⟨w.heap.size, 0, none⟩) 512 512) := (rg6.fr _ _ hlast).1.cell 1
 have CL := Lib.hid (clone_any (c := 512) (reads_bv hB6 H.out.2.2.2.2.1) (Nat.le_refl _) (by omega))
 have hcs : ∀ (j : Nat) (f' : Fr), (roomK size K ++ [(⟨w3.heap.size, p, w.heap.size, q⟩ : Fr)])[j]? = some f' → (roomK size K)[j]? = some f' ∨ (j = (roomK size K).length ∧ f' = ⟨w3.heap.size, p, w.heap.size, q⟩) := by
  intro j f' hj
  rcases Nat.lt_or_ge j (roomK size K).length with h1 | h1
  · rw [List.getElem?_append_left h1] at hj; exact .inl hj
  · rw [List.getElem?_append_right h1] at hj
    have := lt_of_at hj
    have hz : j - (roomK size K).length = 0 := by simp at this; omega
    rw [hz] at hj
    injection hj with hj
    exact .inr ⟨by omega, hj.symm⟩
 have hgm6 : w6.heap[gm]? = w5.heap[gm]? := st6.heap gm (fun e => H5.out.2.2.1.ne_ H5.out.1.pool e.symm) (fun j f' hj => fun e => by obtain ⟨cs, hc⟩ := H5.out.2.2.2.2.1 j f' hj; exact H5.out.2.2.1.ne_ hc e.symm)
 have ps6 : PS w6 lo gp gd gb gt n ps T gm size (roomK size K ++ [⟨w3.heap.size, p, w.heap.size, q⟩]) (D1.put (.int .u32 p) (.lit (.int .i64 (w3.heap.size : Nat)))) (rd + 1) ht := by
  refine ⟨rg6, H5.out.2.2.1.same hgm6, H.out.1.lom, fun j f' hj => ?_, fun a b f1 f2 ha hb he => ?_, ?_, H.out.1.s1, ?_⟩
  · rcases hcs j f' hj with h1 | ⟨_, rfl⟩
    · exact ⟨b56 (by decide) (by decide) (H5.out.2.2.2.2.2.2 (H4.out.1.by_ j f' h1).1), (H4.out.1.by_ j f' h1).2⟩
    · exact ⟨hB6, H.out.2.2.2.2.2⟩
  · rcases hcs a f1 ha with h1 | ⟨h1, rfl⟩ <;> rcases hcs b f2 hb with h2 | ⟨h2, rfl⟩
    · exact H4.out.1.pg a b f1 f2 h1 h2 he
    · exact absurd he (H5.out.2.2.2.2.2.1 a f1 h1)
    · exact absurd he.symm (H5.out.2.2.2.2.2.1 b f2 h2)
    · omega
  · have dk := H4.out.1.dk
    exact ⟨⟨b56 (by decide) (by decide) (H5.out.2.2.2.2.2.2 dk.dk.d), b56 (by decide) (by decide) (H5.out.2.2.2.2.2.2 dk.dk.b), b56 (by decide) (by decide) (H5.out.2.2.2.2.2.2 dk.dk.t), dk.dk.hb, dk.dk.ht⟩, dk.full, dk.hp⟩
  · rw [List.length_append]; exact H4.out.2.2.2.2.2.2
 have tn : Turn w w6 lo gp gm K := H5.out.2.2.2.1.trans (K' := roomK size K ++ [⟨w3.heap.size, p, w.heap.size, q⟩]) (Turn.of_stay st6) (fun j f' hj => by
  rcases hcs j f' hj with h1 | ⟨_, rfl⟩
  · exact .inl (roomK_sub h1)
  · exact .inr (H4.out.2.2.2.2.2.1))
 have HE := Lib.hid (And.intro ps6 tn)
 clear rg6 st6 b56 hB6 hcs hgm6 ps6 tn hlast H2
 go_wp2_with fail
 refine CL.out.mono ?_
 rintro e w7 ⟨A4, c4, rfl, own4, hc4, hb4⟩
 rw [H.out.2.2.2.2.1] at own4 hc4 ⊢
 have HF := Lib.hid (And.intro own4 (And.intro hc4 hb4))
 clear own4 hc4 hb4
 go_wp2
 go_ret2
 exact ⟨⟨w3.heap.size, p, w.heap.size, q⟩, rfl, H4.out.2.2.2.2.2.1, A4, c4, _, w6, rfl, HF.out.1, HF.out.2.1, HE.out.1, HE.out.2, HF.out.2.2⟩
end
end
end Go.Proofs.YtebobcbaloddaaaGreat
namespace Go.Proofs.YtebobcbaloddaaaGreat
section
set_option linter.unusedSimpArgs false
set_option linter.unusedVariables false
set_option linter.unusedSimpArgs false
set_option linter.unusedVariables false
open Go.RowKit Go.Maps
def stepG (size : Nat) (s : List Nat × Nat × Nat) (p : Nat) : List Nat × Nat × Nat :=
 if p ∈ s.1 then (s.1.erase p ++ [p], s.2.1, s.2.2 + 1) else ((if s.1.length < size then s.1 else s.1.tail) ++ [p], s.2.1 + 1, s.2.2)
def pgs (K : List Fr) : List Nat := K.map Fr.p
theorem erase_idx : ∀ (P : List Nat) (i p : Nat), P.Nodup → P[i]? = some p → P.eraseIdx i = P.erase p
 | [], i, p, _, h => by simp at h
 | x :: P, 0, p, _, h => by
   simp only [List.getElem?_cons_zero, Option.some.injEq] at h
   subst h
   simp
 | x :: P, i + 1, p, hn, h => by
   simp only [List.getElem?_cons_succ] at h
   have hx : x ≠ p := fun e => by
    subst e
    exact (List.nodup_cons.1 hn).1 (List.mem_of_getElem? h)
   rw [List.eraseIdx_cons_succ, List.erase_cons_tail (by simpa using hx), erase_idx P i p (List.nodup_cons.1 hn).2 h]
theorem map_eraseIdx_ {α β : Type} (f : α → β) : ∀ (l : List α) (i : Nat), (l.eraseIdx i).map f = (l.map f).eraseIdx i
 | [], _ => rfl
 | _ :: _, 0 => rfl
 | x :: l, i + 1 => by simp [map_eraseIdx_ f l i]
section
variable {w : World} {lo gp gd gb gt n : Nat} {ps : List (List UInt8)} {T : List Bool} {gm size : Nat} {K : List Fr} {D : DataW Unit} {rd ht : Nat}
theorem PS.nodup (h : PS w lo gp gd gb gt n ps T gm size K D rd ht) : (pgs K).Nodup := by
 unfold pgs
 unfold List.Nodup
 rw [List.pairwise_iff_getElem]
 intro i j hi hj hij e
 rw [List.length_map] at hi hj
 rw [List.getElem_map, List.getElem_map] at e
 have := h.pg i j _ _ (List.getElem?_eq_getElem hi) (List.getElem?_eq_getElem hj) e
 omega
def RetG (w : World) (lo gp gd gb gt n : Nat) (ps : List (List UInt8)) (T : List Bool) (gm size : Nat) (K : List Fr) (rd ht p : Nat) (l : List UInt8) (e : Ending) (w' : World) : Prop :=
 ∃ K' D' rd' ht' A c, e = .returned (.tuple #[.slice A 512 c, .int .i64 0]) ∧ Own w' w.heap.size (.slice A 512 c) l ∧ 512 ≤ c ∧ PS w' lo gp gd gb gt n ps T gm size K' D' rd' ht' ∧ (pgs K', rd', ht') = stepG size (pgs K, rd, ht) p ∧ Turn w w' lo gp gm K ∧
   ∀ (j : Nat) (f : Fr), K'[j]? = some f → (∃ i : Nat, K[i]? = some f) ∨ w.heap.size ≤ f.g
def RetG2 (w : World) (lo gp gd gb gt n : Nat) (ps : List (List UInt8)) (T : List Bool) (gm size : Nat) (K : List Fr) (rd ht p : Nat) (l : List UInt8) (e : Ending) (w' : World) : Prop :=
 ∃ K' D' rd' ht' A c wm, e = .returned (.tuple #[.slice A 512 c, .int .i64 0]) ∧ Own w' wm.heap.size (.slice A 512 c) l ∧ 512 ≤ c ∧ PS wm lo gp gd gb gt n ps T gm size K' D' rd' ht' ∧ (pgs K', rd', ht') = stepG size (pgs K, rd, ht) p ∧ Turn w wm lo gp gm K ∧ Below wm.heap.size wm w' ∧
   ∀ (j : Nat) (f : Fr), K'[j]? = some f → (∃ i : Nat, K[i]? = some f) ∨ w.heap.size ≤ f.g
theorem get_any2 (h : PS w lo gp gd gb gt n ps T gm size K D rd ht) {p : Nat} {q : List UInt8} (hq : ps[p]? = some q) (hn : n ≤ 1000000) (hrd : rd ≤ 1000000) (hht : ht ≤ 1000000) (hk6 : K.length ≤ 1000000) (hlo : lo ≤ w.heap.size) :
 Calls Tryz.prog 73 #[.pointer (some ⟨gp, 0, none⟩), .int .u32 p] w (RetG2 w lo gp gd gb gt n ps T gm size K rd ht p q) := by
 by_cases hm : p ∈ pgs K
 · obtain ⟨i, hi⟩ := List.getElem?_of_mem hm
   have hi' := hi
   unfold pgs at hi
   rw [List.getElem?_map] at hi
   obtain ⟨f, hf, rfl⟩ := Option.map_eq_some_iff.1 hi
   have hl := (h.by_ i f hf).2
   rw [hq] at hl
   injection hl with hl
   refine (get_hit2 h hf hn hht hlo).mono ?_
   rintro e w' ⟨A, c, D', wm, h1, h2, h3, h4, h5, h6⟩
   refine ⟨_, D', rd, ht + 1, A, c, wm, h1, by rw [hl]; exact h2, h3, h4, ?_, h5, h6, fun j f' hj => .inl ?_⟩
   · unfold stepG
     rw [if_pos hm]
     simp only [Prod.mk.injEq, and_true]
     rw [← erase_idx (pgs K) i f.p h.nodup hi']
     unfold pgs
     rw [List.map_append, map_eraseIdx_]
     rfl
   · rcases Nat.lt_or_ge j (K.eraseIdx i).length with h1 | h1
     · rw [List.getElem?_append_left h1, List.getElem?_eraseIdx] at hj
       split at hj
       · exact ⟨_, hj⟩
       · exact ⟨_, hj⟩
     · rw [List.getElem?_append_right h1] at hj
       have := lt_of_at hj
       have hz : j - (K.eraseIdx i).length = 0 := by simp at this; omega
       rw [hz] at hj
       injection hj with hj
       exact ⟨i, by rw [hf, hj]⟩
 · have hnk : ∀ (i : Nat) (f : Fr), K[i]? = some f → f.p ≠ p := by
    intro i f hf e
    apply hm
    unfold pgs
    rw [← e]
    exact List.mem_map_of_mem (List.mem_of_getElem? hf)
   refine (get_miss2 h hq hnk hn hrd hk6 hlo).mono ?_
   rintro e w' ⟨f, h0, hg, A, c, D', wm, h1, h2, h3, h4, h5, h6⟩
   refine ⟨_, D', rd + 1, ht, A, c, wm, h1, h2, h3, h4, ?_, h5, h6, fun j f' hj => ?_⟩
   · unfold stepG
     rw [if_neg hm]
     simp only [Prod.mk.injEq, and_true]
     unfold pgs roomK
     rw [List.map_append, List.map_singleton, h0, List.length_map]
     split
     · rfl
     · rw [List.map_tail]
   · rcases Nat.lt_or_ge j (roomK size K).length with h1 | h1
     · rw [List.getElem?_append_left h1] at hj
       exact .inl (roomK_sub hj)
     · rw [List.getElem?_append_right h1] at hj
       have := lt_of_at hj
       have hz : j - (roomK size K).length = 0 := by simp at this; omega
       rw [hz] at hj
       injection hj with hj
       exact .inr (by rw [← hj]; exact hg)
theorem get_any (h : PS w lo gp gd gb gt n ps T gm size K D rd ht) {p : Nat} {q : List UInt8} (hq : ps[p]? = some q) (hn : n ≤ 1000000) (hrd : rd ≤ 1000000) (hht : ht ≤ 1000000) (hk6 : K.length ≤ 1000000) (hlo : lo ≤ w.heap.size) :
 Calls Tryz.prog 73 #[.pointer (some ⟨gp, 0, none⟩), .int .u32 p] w (RetG w lo gp gd gb gt n ps T gm size K rd ht p q) := by
 refine (get_any2 h hq hn hrd hht hk6 hlo).mono ?_
 rintro e w' ⟨K', D', rd', ht', A, c, wm, h1, h2, h3, h4, h5, h6, h7, h8⟩
 exact ⟨K', D', rd', ht', A, c, h1, h2.less h6.size, h3, h4.below h7, h5, h6.trans (Turn.of_below (K := K) h7 (Nat.le_trans hlo h6.size)) (fun j f' hj => .inl ⟨j, hj⟩), h8⟩
theorem get_beyond (h : PS w lo gp gd gb gt n ps T gm size K D rd ht) {p : Nat} (hp : n ≤ p) (hp2 : p ≤ 4294967295) (hn : n ≤ 1000000) :
 Calls Tryz.prog 73 #[.pointer (some ⟨gp, 0, none⟩), .int .u32 p] w fun e w' => e = .returned (.tuple #[.slice none 0 0, .int .i64 8]) ∧ w = w' := by
 have c0 : w.cell? ⟨gp, 0, none⟩ = some (.pointer (some ⟨gd, 0, none⟩)) := h.rg.pool.cell 0
 have c2 : w.cell? ⟨gp, 2, none⟩ = some (.map (some gm)) := h.rg.pool.cell 2
 obtain ⟨v, pv, hrun, hv⟩ := h.mp.own.look_ok Tryz.keyU Tryz.underlying97 (Tryz.zeroFr w) (show Rp (.pointer none) = some (.nil, []) from rfl) (u32_key p hp2)
 have hnk : ∀ (i : Nat) (f : Fr), K[i]? = some f → f.p ≠ p := fun i f hf e => by have := h.pn hf; omega
 rw [h.mp.hasn p hnk] at hrun
 rw [Maps.atKey_of_not_has (h.mp.hasn p hnk)] at hv
 obtain rfl := Rp_nil hv
 have RD := Lib.hid (read_out h.dk p hp hp2 hn)
 have hpI : (p : Int) ≤ 4294967295 := by omega
 have HP := Lib.hid hpI
 clear hv h hnk hp2 hp hpI
 go_enter Tryz.func73, Tryz.ntmps73
 go_wp2_with fail
 refine RD.out.mono ?_
 rintro e w1 ⟨rfl, rfl⟩
 go_wp2
 go_ret2
 exact ⟨rfl, rfl⟩
theorem pages_any (h : PS w lo gp gd gb gt n ps T gm size K D rd ht) : Calls Tryz.prog 43 #[.pointer (some ⟨gp, 0, none⟩)] w fun e w' => e = .returned (.int .i64 n) ∧ w = w' := by
 have LD := Lib.hid (len_any h.dk.dk)
 have c0 : w.cell? ⟨gp, 0, none⟩ = some (.pointer (some ⟨gd, 0, none⟩)) := h.rg.pool.cell 0
 clear h
 go_enter Tryz.func43, Tryz.ntmps43
 go_wp2_with fail
 refine LD.out.mono ?_
 rintro e w1 ⟨rfl, rfl⟩
 go_wp2
 go_ret
 exact ⟨rfl, rfl⟩
def RetPool (w : World) (gd gb gt n : Nat) (ps : List (List UInt8)) (T : List Bool) (size : Nat) (e : Ending) (w' : World) : Prop :=
 ∃ gp gm D, e = .returned (.tuple #[.pointer (some ⟨gp, 0, none⟩), .int .i64 0]) ∧ PS w' w.heap.size gp gd gb gt n ps T gm size [] D 0 0 ∧ Below w.heap.size w w' ∧ w.heap.size ≤ gp ∧ w.heap.size ≤ gm
theorem pnew_any {w : World} (h : DP w gd gb gt n ps T) (hs : 1 ≤ size) (hs2 : size ≤ 9223372036854775807) : Calls Tryz.prog 16 #[.pointer (some ⟨gd, 0, none⟩), .int .i64 size] w (RetPool w gd gb gt n ps T size) := by
 have hmm := @run_makeMap Tryz.prog
 have hsI : (1 : Int) ≤ (size : Int) := by omega
 have e0 : decide ((size : Int) < 1) = false := by simp; omega
 have H := Lib.hid (And.intro h hs)
 clear h hs hs2
 go_enter Tryz.func16, Tryz.ntmps16
 go_wp2_with fail
 go_region
 go_wp2
 go_ret2
 have hP : Blk ((w.alloc (.map #[] 0)).alloc (.cells #[.pointer (some ⟨gd, 0, none⟩), .int .i64 size, .map (some w.heap.size), .int .u32 0, .slice none 0 0, .pointer (some ⟨w.heap.size + 1, 3, none⟩), .pointer (some ⟨w.heap.size + 1, 3, none⟩), .int .u64 0, .int .u64 0] 108)).drew (w.heap.size + 1) 108 (plC (w.heap.size + 1) [] (.pointer (some ⟨gd, 0, none⟩)) (.int .i64 size) (.map (some w.heap.size)) (.int .u64 (0 : Nat)) (.int .u64 (0 : Nat))) := (Blk.newAt (by simp)).drew
 have hb : Below w.heap.size w ((w.alloc (.map #[] 0)).alloc (.cells #[.pointer (some ⟨gd, 0, none⟩), .int .i64 size, .map (some w.heap.size), .int .u32 0, .slice none 0 0, .pointer (some ⟨w.heap.size + 1, 3, none⟩), .pointer (some ⟨w.heap.size + 1, 3, none⟩), .int .u64 0, .int .u64 0] 108)).drew := (ball (ball (Below.refl _ _) _) _).drew
 have hm := ((World.ownsMap_made w Tryz.prog 30 Rp).alloc (.cells #[.pointer (some ⟨gd, 0, none⟩), .int .i64 size, .map (some w.heap.size), .int .u32 0, .slice none 0 0, .pointer (some ⟨w.heap.size + 1, 3, none⟩), .pointer (some ⟨w.heap.size + 1, 3, none⟩), .int .u64 0, .int .u64 0] 108)).drew
 have lts := H.out.1.lts
 exact ⟨w.heap.size + 1, w.heap.size, .map [], rfl, ⟨⟨by omega, hP, by simp, by simp⟩, ⟨hm, rfl, fun _ _ => rfl, by simp, by simp⟩, by omega, by simp, by simp, H.out.1.below hb lts.1 lts.2.1 lts.2.2, H.out.2, by simp⟩, hb, by omega, by omega⟩
end
end
end Go.Proofs.YtebobcbaloddaaaGreat
