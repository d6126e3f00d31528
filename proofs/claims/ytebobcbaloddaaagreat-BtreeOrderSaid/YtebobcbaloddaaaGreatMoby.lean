/-
  B78 B80.
-/
import Derived.Test.YtebobcbaloddaaaGreatMobv
import Derived.Test.YtebobcbaloddaaaGreatMobx
import Derived.Test.YtebobcbaloddaaaGreatMobf
import Derived.Laws.EntriesVeiled
namespace Go.Proofs.YtebobcbaloddaaaGreat
section
set_option linter.unusedSimpArgs false
set_option linter.unusedVariables false
open Go.RowKit Go.Maps
theorem pageU_any {w0 : World} {lo gp gd gb gt n : Nat} {ps : List (List UInt8)} {T : List Bool} {gm size : Nat} {K0 : List Fr} {gw gl ge gh : Nat} {fr hi : ByteArray} {ends : Bool} (hn : n ≤ 1000) (hps : ps.length = n) (hne : ge ≠ gm ∧ gh ≠ gm) :
 ∀ (h : Nat) (d : Nd) (nx : Nat), Sub ps h d nx → (∀ x ∈ d.L, x.ok) → ∀ deep, deep + h ≤ 13 → ∀ (W : World) (c gone : Nat) (acc : List En) (v : Value), WR w0 lo gp gd gb gt n ps T gm size K0 c gw gl fr true false (yvU ge gh gl) gone acc v W → Blk W ge 4 #[.bool ends] → Blk W gh 9 #[.string hi] → acc.length + d.L.length ≤ 900000 → gone + d.P.length ≤ n → c + d.P.length ≤ 800000 →
   Calls Tryz.prog 41 #[.pointer (some ⟨gw, 0, none⟩), .int .u32 (d.p : Int), .int .i64 (deep : Int)] W (RetW9 w0 lo gp gd gb gt n ps T gm size K0 c gw gl fr true false (yvU ge gh gl) gone v (runY (ysU ends hi) (vis false true fr d.L) acc) d.P.length W)
 | 0, _, _, hs, _, _, _, _, _, _, _, _, _, _, _, _, _, _ => hs.elim
 | 1, d, nx, ⟨hp, hnx, hok, hmay, hfit, hP, hdf, hk⟩, hk2, deep, hd, W, c, gone, acc, v, R, he, hh, ha, hg, hc => by
   have hr := rdPg_leaf nx d.L hnx hok hmay hfit
   have hP1 : d.P.length = 1 := by rw [hP]; rfl
   have hpl := lt_of_at hp
   refine pageU_step hn (by omega) hp (by omega) (by omega) (by omega) R he hh hne (by rw [hr]; simp) (fun N es e => ?_) (fun c0 prs e => by rw [hr] at e; injection e with e; cases e)
   rw [hr] at e
   injection e with e
   injection e with e1 e2
   rw [← e2]
   exact ⟨rfl, hP1, ha⟩
 | h + 2, d, nx, hs, hk2, deep, hd, W, c, gone, acc, v, R, he, hh, ha, hg, hc => by
   obtain ⟨ds, seps, H, hsn, hp, hfit, hdd⟩ := sub_to hs
   obtain ⟨k1, k2, k3⟩ := kidL_page H hsn hfit
   have hpl := lt_of_at hp
   have hL : d.L = (ds.map Nd.L).flatten := by rw [hdd]; rfl
   have hP : d.P = d.p :: (ds.map Nd.P).flatten := by rw [hdd]; rfl
   have hPl : d.P.length = ((ds.map Nd.P).flatten).length + 1 := by rw [hP]; rfl
   have hlen := H.len
   have hsE := sumE_eq seps
   rw [hL] at ha hk2 ⊢
   refine pageU_step hn (by omega) hp (by omega) (by omega) (by omega) R he hh hne (by rw [k1]; simp) (fun N es e => by rw [k1] at e; injection e with e; cases e) (fun c0 prs e => ⟨by omega, fun W' v' A A2 cA cB b3 R' he' hh' o3 r4 => ?_⟩)
   rw [k1] at e
   injection e with e
   injection e with e1 e2
   subst e1; subst e2
   rw [k3] at o3
   have hpl2 : (seps.zip (ds.map Nd.p).tail).length = seps.length := by have := congrArg List.length k2; rwa [List.length_map] at this
   rw [k2] at r4
   rw [hpl2] at o3 r4 ⊢
   rw [vis_up H hk2, hPl]
   exact innerU_any (deep := deep) (by omega) (fun i e hi W2 c2 g2 acc2 v2 R2 he2 hh2 ha2 hg2 hc2 => by
    have := pageU_any hn hps hne (h + 1) e _ (H.chn.iff_at i e hi) (fun x hx => hk2 x (List.mem_flatten.2 ⟨e.L, List.mem_map_of_mem (List.mem_of_getElem? hi), hx⟩)) (deep + 1) (by omega) W2 c2 g2 acc2 v2 R2 he2 hh2 ha2 hg2 hc2
    rw [show ((deep + 1 : Nat) : Int) = (deep : Int) + 1 from by omega] at this
    exact this) R' he' hh' hne o3 r4 hlen (by omega) H.kid ha (by omega) (by omega)
def RetRg (w : World) (lo gp gd gb gt n : Nat) (ps : List (List UInt8)) (T : List Bool) (gm size : Nat) (K : List Fr) (m k : Nat) (R : List En) (e : Ending) (w' : World) : Prop :=
 ∃ A c K' D' rd' ht', e = .returned (.tuple #[.slice A R.length c, .int .i64 0]) ∧ w'.ownsRow w.heap.size 37 3 (.slice A R.length c) R.length (vE R) ∧ PS w' lo gp gd gb gt n ps T gm size K' D' rd' ht' ∧ rd' ≤ m + k ∧ ht' ≤ m + k ∧ (∀ (j : Nat) (f : Fr), K'[j]? = some f → (∃ i : Nat, K[i]? = some f) ∨ w.heap.size ≤ f.g) ∧ Turn w w' lo gp gm K
set_option maxRecDepth 100000 in
set_option maxHeartbeats 8000000 in
theorem rangeU_any {w : World} {lo gp gd gb gt n : Nat} {ps : List (List UInt8)} {T : List Bool} {gm size : Nat} {K : List Fr} {D : DataW Unit} {rd ht m : Nat} (h : PS w lo gp gd gb gt n ps T gm size K D rd ht) (hn : n ≤ 1000) (hrd : rd ≤ m) (hht : ht ≤ m) (hm : m ≤ 700000) (hlo : lo ≤ w.heap.size) (hgm : gm < w.heap.size) {h0 : Nat} {d : Nd} {nx : Nat} (hs : Sub ps h0 d nx) (h12 : h0 ≤ 12) (hok : ∀ x ∈ d.L, x.ok) (hnd : d.P.Nodup) (hpn : ∀ p ∈ d.P, p < n) (hl : d.L.length ≤ 800000) (fr hi : ByteArray) (ends : Bool) :
 Calls Tryz.prog 17 #[.pointer (some ⟨gp, 0, none⟩), .int .u32 (d.p : Int), .string fr, .string hi, .bool ends, .bool false] w (RetRg w lo gp gd gb gt n ps T gm size K m d.P.length (runY (ysU ends hi) (vis false true fr d.L) []).1) := by
 have hps := h.dk.hp
 have hPn : d.P.length ≤ n := nodup_le _ _ hnd hpn
 have H0 := Lib.hid h
 clear h
 obtain ⟨RR, hRR⟩ : ∃ x, runY (ysU ends hi) (vis false true fr d.L) [] = x := ⟨_, rfl⟩
 obtain ⟨KP, hKP⟩ : ∃ x, d.P.length = x := ⟨_, rfl⟩
 obtain ⟨dp, hdp⟩ : ∃ x, d.p = x := ⟨_, rfl⟩
 rw [hRR, hKP, hdp]
 have HQ := Lib.hid (And.intro hRR (And.intro hKP hdp))
 clear hRR hKP hdp
 go_enter Tryz.func17, Tryz.ntmps17
 go_upto_region 4 with fail
 have hne : (w.heap.size + 1 + 1) ≠ gm ∧ (w.heap.size + 1) ≠ gm := by omega
 have hb := ball (ball (ball (ball (ball (Below.refl w.heap.size w) (.cells #[.string fr] 9)) (.cells #[.string hi] 9)) (.cells #[.bool ends] 4)) (.cells #[.slice none 0 0] 22)) (.cells (wkArr gp fr true false (yvU (w.heap.size + 1 + 1) (w.heap.size + 1) (w.heap.size + 1 + 1 + 1)) 0) 110)
 have Xh := (((Blk.new (w.alloc (.cells #[.string fr] 9)) 9 #[.string hi]).alloc (.cells #[.bool ends] 4)).alloc (.cells #[.slice none 0 0] 22)).alloc (.cells (wkArr gp fr true false (yvU (w.heap.size + 1 + 1) (w.heap.size + 1) (w.heap.size + 1 + 1 + 1)) 0) 110)
 have Xe := ((Blk.new ((w.alloc (.cells #[.string fr] 9)).alloc (.cells #[.string hi] 9)) 4 #[.bool ends]).alloc (.cells #[.slice none 0 0] 22)).alloc (.cells (wkArr gp fr true false (yvU (w.heap.size + 1 + 1) (w.heap.size + 1) (w.heap.size + 1 + 1 + 1)) 0) 110)
 have Xl := (Blk.new (((w.alloc (.cells #[.string fr] 9)).alloc (.cells #[.string hi] 9)).alloc (.cells #[.bool ends] 4)) 22 #[.slice none 0 0]).alloc (.cells (wkArr gp fr true false (yvU (w.heap.size + 1 + 1) (w.heap.size + 1) (w.heap.size + 1 + 1 + 1)) 0) 110)
 have Xw := Blk.new ((((w.alloc (.cells #[.string fr] 9)).alloc (.cells #[.string hi] 9)).alloc (.cells #[.bool ends] 4)).alloc (.cells #[.slice none 0 0] 22)) 110 (wkArr gp fr true false (yvU (w.heap.size + 1 + 1) (w.heap.size + 1) (w.heap.size + 1 + 1 + 1)) 0)
 simp only [alloc_size] at Xh Xe Xl Xw
 obtain ⟨W, hW⟩ : ∃ W, ((((w.alloc (.cells #[.string fr] 9)).alloc (.cells #[.string hi] 9)).alloc (.cells #[.bool ends] 4)).alloc (.cells #[.slice none 0 0] 22)).alloc (.cells (wkArr gp fr true false (yvU (w.heap.size + 1 + 1) (w.heap.size + 1) (w.heap.size + 1 + 1 + 1)) 0) 110) = W := ⟨_, rfl⟩
 rw [hW] at hb Xh Xe Xl Xw
 have hW' : ((((w.alloc (.cells #[.string fr] 9)).alloc (.cells #[.string hi] 9)).alloc (.cells #[.bool ends] 4)).alloc (.cells #[.slice none 0 0] 22)).alloc (.cells #[.pointer (some ⟨gp, 0, none⟩), .string fr, .bool true, .bool false, .func (.func 39) #[] #[.pointer (some ⟨w.heap.size + 1 + 1, 0, none⟩), .pointer (some ⟨w.heap.size + 1, 0, none⟩), .pointer (some ⟨w.heap.size + 1 + 1 + 1, 0, none⟩)], .int .i64 0] 110) = W := hW
 rw [hW']
 clear hW hW'
 have hWR : WR w lo gp gd gb gt n ps T gm size K m (w.heap.size + 1 + 1 + 1 + 1) (w.heap.size + 1 + 1 + 1) fr true false (yvU (w.heap.size + 1 + 1) (w.heap.size + 1) (w.heap.size + 1 + 1 + 1)) 0 [] (.slice none 0 0) W :=
  ⟨⟨K, D, rd, ht, H0.out.below hb, hrd, hht, fun j f hj => .inl ⟨j, hj⟩⟩, Turn.of_below hb hlo, Xw, Xl, World.ownsRow_nil _ _ _ _, hlo, by omega, by omega⟩
 have PG := Lib.hid (show Calls Tryz.prog 41 #[.pointer (some ⟨w.heap.size + 1 + 1 + 1 + 1, 0, none⟩), .int .u32 (d.p : Int), .int .i64 1] W (RetW9 w lo gp gd gb gt n ps T gm size K m (w.heap.size + 1 + 1 + 1 + 1) (w.heap.size + 1 + 1 + 1) fr true false (yvU (w.heap.size + 1 + 1) (w.heap.size + 1) (w.heap.size + 1 + 1 + 1)) 0 (.slice none 0 0) (runY (ysU ends hi) (vis false true fr d.L) []) d.P.length W) from pageU_any hn hps hne h0 d nx hs hok 1 (by omega) W m 0 [] (.slice none 0 0) hWR Xe Xh (by simp; omega) (by omega) (by omega))
 rw [HQ.out.1, HQ.out.2.1, HQ.out.2.2] at PG
 clear hWR Xh Xe Xl Xw hb hPn
 obtain ⟨R1, R2⟩ := RR
 go_wp2_with fail
 refine PG.out.mono ?_
 rintro e2 w2 ⟨v2, g2, c2, rfl, RW, ev2, nv2, hg2, hc2⟩
 obtain ⟨A, cc, hv, hcc⟩ := own_form RW.row
 subst hv
 have k2 : w2.cell? ⟨w.heap.size + 1 + 1 + 1, 0, none⟩ = some (.slice A R1.length cc) := RW.lb.cell 0
 have HR := Lib.hid (And.intro RW hc2)
 clear RW ev2 nv2 hg2 hc2
 go_wp2_with fail
 go_ret2
 obtain ⟨K', D', rd', ht', p1, p2, p3, p4⟩ := HR.out.1.pool
 have hc := HR.out.2
 exact ⟨A, cc, K', D', rd', ht', rfl, HR.out.1.row, p1, by omega, by omega, p4, HR.out.1.turn⟩
end
end Go.Proofs.YtebobcbaloddaaaGreat
namespace Go.Proofs.YtebobcbaloddaaaGreat
section
set_option linter.unusedSimpArgs false
set_option linter.unusedVariables false
open Go.RowKit Go.Maps
structure LO (W : World) (g gb gt : Nat) (ps : List (List UInt8)) (T : List Bool) (ra rb rc : Nat) (la lb lc : List En) (w : World) : Prop where
 dp : DP w g gb gt 600 ps T
 t3 : ∃ ha hb hc da db dc, T3 ps T ra rb rc la lb lc ha hb hc da db dc
 bl : Below W.heap.size W w
 gb_ : W.heap.size ≤ gb
 gt_ : W.heap.size ≤ gt
section
variable {W w w' : World} {g gb gt : Nat} {ps : List (List UInt8)} {T : List Bool} {ra rb rc : Nat} {la lb lc : List En}
theorem LO.swap (h : LO W g gb gt ps T ra rb rc la lb lc w) : LO W g gb gt ps T ra rc rb la lc lb w := by
 obtain ⟨ha, hb, hc, da, db, dc, t⟩ := h.t3
 exact ⟨h.dp, ⟨ha, hc, hb, da, dc, db, t.swap⟩, h.bl, h.gb_, h.gt_⟩
def RetOi (W : World) (g gb gt : Nat) (ra rb rc : Nat) (la lb lc : List En) (x : En) (w : World) (e : Ending) (w' : World) : Prop :=
 ∃ (ps' : List (List UInt8)) (T' : List Bool) (r : Nat) (code : Int) (bt : Bool) (rb' : Nat), e = .returned (.tuple #[.int .u32 (r : Int), .int .i64 code]) ∧ decide (code = 0) = bt ∧ (bt = true → rb' = r) ∧ (bt = false → rb' = rb) ∧ LO W g gb gt ps' T' ra rb' rc la (stepP lb x) lc w' ∧ Lf w w' gb gt
theorem LO.ins (h : LO W g gb gt ps T ra rb rc la lb lc w) (x : En) (hx : x.ok) (h1 : la.length ≤ 60) (h2 : lb.length ≤ 60) (h3 : lc.length ≤ 60) (hri : riseP lb) :
 Calls Tryz.prog 12 #[.pointer (some ⟨g, 0, none⟩), .int .u32 (rb : Int), x.agg] w (RetOi W g gb gt ra rb rc la lb lc x w) := by
 obtain ⟨ha, hb, hc, da, db, dc, t⟩ := h.t3
 refine (insert_any h.dp (by omega) t.b hri x hx).mono ?_
 rintro e w' ⟨lf, i1, i2, i3⟩
 have hbl : Below W.heap.size W w' := h.bl.trans (lf.below W.heap.size h.gb_ h.gt_ h.bl.size)
 by_cases hbig : 200 < x.s.size
 · obtain ⟨rfl, dp⟩ := i1 hbig
   have hs : stepP lb x = lb := by unfold stepP; rw [if_neg (fun e => by omega)]
   exact ⟨ps, T, 0, 1, false, rb, rfl, rfl, (fun e => by cases e), fun _ => rfl, ⟨dp, ⟨ha, hb, hc, da, db, dc, by rw [hs]; exact t⟩, hbl, h.gb_, h.gt_⟩, lf⟩
 · by_cases hin : x ∈ lb
   · obtain ⟨rfl, dp⟩ := i2 (by omega) hin
     have hs : stepP lb x = lb := by unfold stepP; rw [if_neg (fun e => e.2 hin)]
     exact ⟨ps, T, 0, 10, false, rb, rfl, rfl, (fun e => by cases e), fun _ => rfl, ⟨dp, ⟨ha, hb, hc, da, db, dc, by rw [hs]; exact t⟩, hbl, h.gb_, h.gt_⟩, lf⟩
   · obtain ⟨ps', T', dp, hup, ⟨root', h', d', rfl, tk, c, ho, hf⟩ | ⟨_, _, hno⟩⟩ := i3 (by omega) hin
     · have hs : stepP lb x = withP lb x := by unfold stepP; rw [if_pos ⟨by omega, hin⟩]
       exact ⟨ps', T', root', 0, true, root', rfl, rfl, fun _ => rfl, (fun e => by cases e), ⟨dp, ⟨ha, h', hc, da, d', dc, by rw [hs]; exact t.insB tk c hup ho hf⟩, hbl, h.gb_, h.gt_⟩, lf⟩
     · exact absurd hno (t.room h1 h2 h3).1
end
def ranE (s : ByteArray) (l : List En) : List En := (runY (ysU false ⟨#[]⟩) (vis false true s l) []).1
theorem ran_len (s : ByteArray) (l : List En) : (ranE s l).length ≤ l.length := by
 have h1 := runY_len (ysU false ⟨#[]⟩) (vis false true s l) []
 have h2 := vis_len false true s l
 rw [List.length_nil] at h1
 unfold ranE
 omega
theorem range_t3 {w : World} {lo gp g gb gt : Nat} {ps : List (List UInt8)} {T : List Bool} {gm : Nat} {K : List Fr} {D : DataW Unit} {rd ht m : Nat} (P : PS w lo gp g gb gt 600 ps T gm 5 K D rd ht) (hT : T.length = 600) {root h : Nat} {l : List En} {d : Nd} (t : TreeK ps T root l h d) (hl : l.length ≤ 60) (hok : ∀ e ∈ l, e.ok) (hrd : rd ≤ m) (hht : ht ≤ m) (hm : m ≤ 1000) (hlo : lo ≤ w.heap.size) (hgm : gm < w.heap.size) (s : ByteArray) :
 Calls Tryz.prog 17 #[.pointer (some ⟨gp, 0, none⟩), .int .u32 (root : Int), .string s, .string ⟨#[]⟩, .bool false, .bool false] w (RetRg w lo gp g gb gt 600 ps T gm 5 K m 120 (ranE s l)) := by
 have ts := tree_small t hl
 have hL := t.L
 have hp := t.p
 subst hp
 have h0 := rangeU_any P (by omega) hrd hht (by omega) hlo hgm t.sub t.h2 (by rw [hL]; exact hok) t.nd (fun p hp => by have := lt_of_at (t.tk p hp); omega) (by rw [hL]; omega) s ⟨#[]⟩ false
 rw [hL] at h0
 refine h0.mono ?_
 rintro e w' ⟨A, c, K', D', rd', ht', h1, h2, h3, h4, h5, h6, h7⟩
 exact ⟨A, c, K', D', rd', ht', h1, h2, h3, by omega, by omega, h6, h7⟩
theorem PS.turn_row {w w' : World} {lo gp gd gb gt n : Nat} {ps : List (List UInt8)} {T : List Bool} {gm size : Nat} {K : List Fr} {D : DataW Unit} {rd ht : Nat} (h : PS w lo gp gd gb gt n ps T gm size K D rd ht) (t : Turn w w' lo gp gm K) {base k : Nat} {v : Value} {xs : List Value} (ho : w.ownsRow base 37 3 v k xs) : w'.ownsRow base 37 3 v k xs :=
 ownR_stays ho fun g cs _ hb => t.heap g hb.lt (hb.ne_ h.rg.pool (by decide)) (h.mp.ne_ hb) (fun j f hj => hb.ne_ (h.rg.fr j f hj).1 (by decide))
set_option maxRecDepth 100000 in
set_option maxHeartbeats 16000000 in
theorem order_any (A0 : Option Addr) (n0 c0 : Nat) (l0 : List En) (bz : Int) (hz1 : 0 ≤ bz) (hz2 : bz ≤ 255) (lo : ByteArray) (W : World)
 (s0 : Reads W W.heap.size 3 A0 n0 (vE l0)) (m0 : n0 ≤ c0) (x0 : c0 ≤ maxLen) (w0 : ∀ e ∈ l0, e.ok) :
 Calls Tryz.prog 6 #[.slice A0 n0 c0, .int .u8 bz, .string lo] W (RetB W (.bool true)) := by
 obtain ⟨b, rfl⟩ : ∃ b : Nat, bz = (b : Int) := ⟨bz.toNat, by omega⟩
 have hbI : (b : Int) ≤ 255 := hz2
 have FX := Lib.hid fun W => fixed11_any W
 have G0 := Lib.hid (greatE_any A0 n0 c0 l0 W W.heap.size s0 (fun v hv => (w0 v hv).1) (by omega))
 obtain ⟨g0, hg0⟩ : ∃ b, grE 0 l0 = b := ⟨_, rfl⟩
 rw [hg0] at G0
 have HG := Lib.hid hg0
 have h0n : l0.length = n0 := by have := s0.1; rw [vE_len] at this; omega
 have HA := Lib.hid (And.intro s0 (And.intro m0 (And.intro x0 (And.intro w0 h0n))))
 clear hg0 s0 m0 x0 w0 h0n hz1 hz2
 go_enter Tryz.func6, Tryz.ntmps6
 cases g0
 rotate_left
 · go_wp2_with fail
   refine G0.out.mono ?_
   rintro e w1 ⟨rfl, rfl⟩
   go_wp2_with fail
   refine (FX.out _).mono ?_
   rintro e w2 ⟨rfl, hb2⟩
   go_wp2_with fail
   go_ret
   exact ⟨rfl, hb2⟩
 by_cases hmo : 60 < n0
 · have hmI : (60 : Int) < (n0 : Int) := by omega
   go_wp2_with fail
   refine G0.out.mono ?_
   rintro e w1 ⟨rfl, rfl⟩
   go_wp2_with fail
   refine (FX.out _).mono ?_
   rintro e w2 ⟨rfl, hb2⟩
   go_wp2_with fail
   go_ret
   exact ⟨rfl, hb2⟩
 have hmI : (n0 : Int) ≤ 60 := by omega
 have hm1 : n0 ≤ 60 := by omega
 clear hmo
 by_cases hlo : 300 < lo.size
 · have hlI : (300 : Int) < (lo.size : Int) := by omega
   go_wp2_with fail
   refine G0.out.mono ?_
   rintro e w1 ⟨rfl, rfl⟩
   go_wp2_with fail
   refine (FX.out _).mono ?_
   rintro e w2 ⟨rfl, hb2⟩
   go_wp2_with fail
   go_ret
   exact ⟨rfl, hb2⟩
 have hlI : (lo.size : Int) ≤ 300 := by omega
 clear hlo
 go_wp2_with fail
 refine G0.out.mono ?_
 rintro e w1 ⟨rfl, rfl⟩
 have ND := Lib.hid (show Calls Tryz.prog 10 #[.int .i64 600] W (RetDP W 600 (pagesOf (zb 600) 600) (marksOf (zb 600) 600)) from newDP 600 (by omega) (by omega) W)
 have hpl := pagesOf_len (zb 600) 600
 have hTl := marks_len (zb 600) 600
 have hfr := free_new 600 (by omega)
 generalize pagesOf (zb 600) 600 = ps at *
 generalize marksOf (zb 600) 600 = T at *
 have hsm := sort_may l0
 have hsl : (sortP l0).length ≤ 60 := by
  have h1 := foldS_len l0 []
  have h2 := HA.out.2.2.2.2
  rw [sort_all (by omega)]
  rw [List.length_nil] at h1
  omega
 have hsk : ∀ e ∈ sortP l0, e.ok := fun e he => HA.out.2.2.2.1 e ((sort_ok l0).mem e he)
 have hsr := (sort_ok l0).rise
 obtain ⟨all, hall⟩ : ∃ x, sortP l0 = x := ⟨_, rfl⟩
 rw [hall] at hsm hsl hsk hsr
 have HS := Lib.hid (And.intro hall (And.intro hsm (And.intro hsk (And.intro hsr hsl))))
 have HPL := Lib.hid (And.intro hpl (And.intro hTl hfr))
 clear hsm hsk hsr hall hpl hTl hfr
 have dd1 : decide ((60 : Int) < (n0 : Int)) = false := by simp; omega
 have dd2 : decide (60 < n0) = false := by simp; omega
 have dd3 : decide ((300 : Int) < (lo.size : Int)) = false := by simp; omega
 have dd4 : decide (300 < lo.size) = false := by simp; omega
 go_wp2_with fail
 refine ND.out.mono ?_
 rintro e w2 ⟨g, gb, gt, rfl, hd, k1, k2, k3, hb2⟩
 have SO0 := Lib.hid (sorted_any A0 n0 c0 l0 w2 ((HA.out.1.below hb2).more hb2.size) (by omega))
 rw [HS.out.1] at SO0
 have H2 := Lib.hid (And.intro hd (And.intro hb2 (And.intro k2 k3)))
 clear hd hb2 k1 k2 k3 ND
 go_wp2_with fail
 refine SO0.out.mono ?_
 rintro e w3 ⟨A, c, rfl, o3, hb3⟩
 have hl2 := H2.out.1.lts
 have hApt : Apt A gb gt := fun ad e => by
  have h1 := own_hi o3 ad e
  exact ⟨by omega, by omega⟩
 obtain ⟨A', c', e1, hlc⟩ := own_form o3
 injection e1 with e11 _ e13
 subst e11; subst e13
 have BU := Lib.hid (build_any (H2.out.1.lower hb3) (by omega) (Reads.of_own o3) hApt HS.out.2.2.1 HS.out.2.1 (by omega) hlc (own_cap o3))
 have K1 := bd_ok HS.out.2.1 HS.out.2.2.1 (HPL.out.2.1.trans HPL.out.1.symm) (by rw [HPL.out.1]; omega)
 have C1 := fun root => bd_cnt2 (root := root) HS.out.2.1 HS.out.2.2.1 (HPL.out.2.1.trans HPL.out.1.symm) (by rw [HPL.out.1]; omega)
 have H3 := Lib.hid (And.intro (H2.out.2.1.trans (hb3.mono H2.out.2.1.size)) (And.intro H2.out.2.2.1 H2.out.2.2.2))
 clear o3 hApt hb3 hlc SO0 H2 hl2
 generalize bdP all ps T = R at *
 obtain ⟨P1, T1, r1⟩ := R
 have HK1 := Lib.hid (And.intro K1 C1)
 clear K1 C1
 go_wp2_with fail
 refine BU.out.mono ?_
 rintro e w4 ⟨hd4, hL4, hres⟩
 try simp only at hd4 hres
 rcases hres with ⟨ra, hra, rfl⟩ | ⟨hra, rfl⟩
 rotate_left
 · exfalso
   have h1 := HK1.out.1.no hra
   rw [HPL.out.2.2] at h1
   omega
 obtain ⟨ha, da, ta, ca, fa⟩ := HK1.out.2 ra hra
 try simp only at ta ca
 have lenP1 := HK1.out.1.len
 have lenT1 := HK1.out.1.lent
 try simp only at lenP1 lenT1
 have b4 := H3.out.1.trans (hL4.below W.heap.size H3.out.2.1 H3.out.2.2 H3.out.1.size)
 have BU2 := Lib.hid (build_any hd4 (by omega) (A := none) (m := 0) (c := 0) (l := []) Reads.none_ (fun ad e => by cases e) (fun e he => by cases he) rfl (by omega) (by omega) (by simp))
 have K2 := bd_ok (l := []) (ps := P1) (T := T1) rfl (fun e he => by cases he) (by rw [lenT1, lenP1, HPL.out.2.1, HPL.out.1]) (by rw [lenP1, HPL.out.1]; omega)
 have C2 := fun root => bd_cnt2 (root := root) (l := []) (ps := P1) (T := T1) rfl (fun e he => by cases he) (by rw [lenT1, lenP1, HPL.out.2.1, HPL.out.1]) (by rw [lenP1, HPL.out.1]; omega)
 have H4 := Lib.hid (And.intro b4 (And.intro ta (And.intro ca (And.intro fa (And.intro lenP1 lenT1)))))
 have HK1b := Lib.hid HK1.out.1.keep
 clear b4 ta ca fa lenP1 lenT1 hd4 hL4 BU HK1 hra
 generalize bdP [] P1 T1 = R at *
 obtain ⟨P2, T2, r2⟩ := R
 have HK2 := Lib.hid (And.intro K2 C2)
 clear K2 C2
 go_wp2_with fail
 refine BU2.out.mono ?_
 rintro e w5 ⟨hd5, hL5, hres⟩
 try simp only at hd5 hres
 have tsa := tree_small H4.out.2.1 hsl
 rcases hres with ⟨rb, hrb, rfl⟩ | ⟨hrb, rfl⟩
 rotate_left
 · exfalso
   have h1 := HK2.out.1.no hrb
   have h2 := H4.out.2.2.1
   rw [HPL.out.2.2] at h2
   simp only [List.length_nil] at h1
   omega
 obtain ⟨hb_, db, tb, cb, fb⟩ := HK2.out.2 rb hrb
 try simp only at tb cb
 have lenP2 := HK2.out.1.len
 have lenT2 := HK2.out.1.lent
 try simp only at lenP2 lenT2
 have b5 := H4.out.1.trans (hL5.below W.heap.size H3.out.2.1 H3.out.2.2 H4.out.1.size)
 have BU3 := Lib.hid (build_any hd5 (by omega) (A := none) (m := 0) (c := 0) (l := []) Reads.none_ (fun ad e => by cases e) (fun e he => by cases he) rfl (by omega) (by omega) (by simp))
 have K3 := bd_ok (l := []) (ps := P2) (T := T2) rfl (fun e he => by cases he) (by rw [lenT2, lenP2, H4.out.2.2.2.2.1, H4.out.2.2.2.2.2, HPL.out.2.1, HPL.out.1]) (by rw [lenP2, H4.out.2.2.2.2.1, HPL.out.1]; omega)
 have C3 := fun root => bd_cnt2 (root := root) (l := []) (ps := P2) (T := T2) rfl (fun e he => by cases he) (by rw [lenT2, lenP2, H4.out.2.2.2.2.1, H4.out.2.2.2.2.2, HPL.out.2.1, HPL.out.1]) (by rw [lenP2, H4.out.2.2.2.2.1, HPL.out.1]; omega)
 have H5 := Lib.hid (And.intro b5 (And.intro tb (And.intro cb fb)))
 have HK2b := Lib.hid HK2.out.1.keep
 clear b5 tb cb fb lenP2 lenT2 hd5 hL5 BU2 HK2 hrb
 generalize bdP [] P2 T2 = R at *
 obtain ⟨P3, T3_, r3⟩ := R
 have HK3 := Lib.hid (And.intro K3 C3)
 clear K3 C3
 go_wp2_with fail
 refine BU3.out.mono ?_
 rintro e w6 ⟨hd6, hL6, hres⟩
 try simp only at hd6 hres
 have tsb := tree_small H5.out.2.1 (by simp)
 rcases hres with ⟨rc, hrc, rfl⟩ | ⟨hrc, rfl⟩
 rotate_left
 · exfalso
   have h1 := HK3.out.1.no hrc
   have h2 := H4.out.2.2.1
   have h3 := H5.out.2.2.1
   rw [HPL.out.2.2] at h2
   simp only [List.length_nil] at h1
   omega
 obtain ⟨hc_, dc, tc, cc, fc⟩ := HK3.out.2 rc hrc
 try simp only at tc cc
 have b6 := H5.out.1.trans (hL6.below W.heap.size H3.out.2.1 H3.out.2.2 H5.out.1.size)
 have kp2 : ∀ p : Nat, T1[p]? = some true → P2[p]? = P1[p]? ∧ T2[p]? = some true := fun p h => HK2b.out p (by simp) h
 have kp3 : ∀ p : Nat, T2[p]? = some true → P3[p]? = P2[p]? ∧ T3_[p]? = some true := fun p h => HK3.out.1.keep p (by simp) h
 have ta3 : TreeK P3 T3_ ra all ha da := (H4.out.2.1.far_ (ps' := P2) (T' := T2) (fun p h => (kp2 p h).2) (fun p hp => (kp2 p (H4.out.2.1.tk p hp)).1)).far_ (fun p h => (kp3 p h).2) (fun p hp => (kp3 p (kp2 p (H4.out.2.1.tk p hp)).2).1)
 have tb3 : TreeK P3 T3_ rb [] hb_ db := H5.out.2.1.far_ (fun p h => (kp3 p h).2) (fun p hp => (kp3 p (H5.out.2.1.tk p hp)).1)
 have dab : ∀ p ∈ da.P, p ∉ db.P := fun p hp h => by have := H5.out.2.2.2 p h; rw [H4.out.2.1.tk p hp] at this; cases this
 have dac : ∀ p ∈ da.P, p ∉ dc.P := fun p hp h => by have := fc p h; rw [(kp2 p (H4.out.2.1.tk p hp)).2] at this; cases this
 have dbc : ∀ p ∈ db.P, p ∉ dc.P := fun p hp h => by have := fc p h; rw [H5.out.2.1.tk p hp] at this; cases this
 have L0 := Lib.hid (show LO W g gb gt P3 T3_ ra rb rc all [] [] w6 from ⟨hd6, ⟨ha, hb_, hc_, da, db, dc, ta3, tb3, tc, dab, dac, dbc, by have h1 := H4.out.2.2.1; have h2 := H5.out.2.2.1; rw [HPL.out.2.2] at h1; omega⟩, b6, H3.out.2.1, H3.out.2.2⟩)
 clear hd6 hL6 hrc tc cc fc b6 kp2 kp3 ta3 tb3 dab dac dbc BU3 HK3 HK2b HK1b H4 H5 H3 tsa tsb HPL
 go_wp2_with fail
 go_loopw [11, 13, 74] (fun v11 v13 v74 wr_ => ∃ (k : Nat) (ps : List (List UInt8)) (T : List Bool) (rb rc : Nat), v74 = .int .i64 (k : Int) ∧ k ≤ n0 ∧ v11 = .int .u32 (rb : Int) ∧ v13 = .int .u32 (rc : Int) ∧ LO W g gb gt ps T ra rb rc all ((l0.take k).foldl stepP []) ((rotL l0 b k).foldl stepP []) wr_) (fun _ _ v74 _ => n0 - (intOf v74).toNat)
 case atStart => exact ⟨0, P3, T3_, rb, rc, rfl, Nat.zero_le _, rfl, rfl, L0.out⟩
 case round =>
  rename World => wo
  obtain ⟨k, ps, T, rb, rc, rfl, hk, rfl, rfl, L⟩ := hrel
  clear dd1 dd2 dd3 dd4
  have q0 : (0 : Int) ≤ (k : Int) := by omega
  by_cases hlt : k < n0
  · have q1 : (k : Int) < (n0 : Int) := by omega
    have hnz : (n0 : Int) ≠ 0 := by omega
    obtain ⟨x, hx⟩ : ∃ x, l0[k]? = some x := ⟨_, List.getElem?_eq_getElem (by rw [HA.out.2.2.2.2]; exact hlt)⟩
    have hxo := HA.out.2.2.2.1 x (List.mem_of_getElem? hx)
    obtain ⟨j, hj⟩ : ∃ j, (k + b) % n0 = j := ⟨_, rfl⟩
    have hjl : j < n0 := by rw [← hj]; exact Nat.mod_lt _ (by omega)
    have hjI : ((k : Int) + (b : Int)) % (n0 : Int) = (j : Int) := by rw [← hj]; simp
    have hjT : ((k : Int) + (b : Int)).tmod (n0 : Int) = (j : Int) := by rw [Int.tmod_eq_emod_of_nonneg (by omega)]; exact hjI
    have q2 : (0 : Int) ≤ (j : Int) := by omega
    have q3 : (j : Int) < (n0 : Int) := by omega
    obtain ⟨y, hy⟩ : ∃ y, l0[j]? = some y := ⟨_, List.getElem?_eq_getElem (by rw [HA.out.2.2.2.2]; exact hjl)⟩
    have hyo := HA.out.2.2.2.1 y (List.mem_of_getElem? hy)
    have htk : l0.take (k + 1) = l0.take k ++ [x] := by rw [List.take_add_one, hx]; rfl
    have hrt : rotL l0 b (k + 1) = rotL l0 b k ++ [y] := by rw [rot_succ, HA.out.2.2.2.2, hj, List.getD_eq_getElem?_getD, hy]; rfl
    have hf1 : (l0.take (k + 1)).foldl stepP [] = stepP ((l0.take k).foldl stepP []) x := by rw [htk, List.foldl_append]; rfl
    have hf2 : (rotL l0 b (k + 1)).foldl stepP [] = stepP ((rotL l0 b k).foldl stepP []) y := by rw [hrt, List.foldl_append]; rfl
    have hb1 : ((l0.take k).foldl stepP []).length ≤ 60 := by have := foldS_len (l0.take k) []; rw [List.length_take, List.length_nil] at this; omega
    have hb3 : ((l0.take (k + 1)).foldl stepP []).length ≤ 60 := by have := foldS_len (l0.take (k + 1)) []; rw [List.length_take, List.length_nil] at this; omega
    have hb2 : ((rotL l0 b k).foldl stepP []).length ≤ 60 := by
     have h1 := foldS_len (rotL l0 b k) []
     have h2 : (rotL l0 b k).length = k := by unfold rotL; simp
     rw [List.length_nil] at h1; omega
    have hri1 := foldS_rise (l0.take k) [] List.Pairwise.nil
    have hri2 := foldS_rise (rotL l0 b k) [] List.Pairwise.nil
    rw [hf1] at hb3
    have HF := Lib.hid (And.intro hf1 hf2)
    clear hf1 hf2 hrt htk
    generalize (l0.take k).foldl stepP [] = B1 at *
    generalize (rotL l0 b k).foldl stepP [] = B2 at *
    have INS := Lib.hid (L.ins x hxo HS.out.2.2.2.2 hb1 hb2 hri1)
    obtain ⟨ax, hax, hab, _, HXX⟩ := ent_of ((HA.out.1.below L.bl).more L.bl.size) hx
    obtain ⟨u0, u1, u2⟩ := HXX wo (Below.refl _ _)
    have HB := Lib.hid (And.intro hb1 (And.intro hb2 (And.intro hb3 (And.intro hri2 (And.intro hyo hy)))))
    have Hax := Lib.hid hax
    clear L hx hxo HXX hb1 hb2 hb3 hri1 hri2 hax hj hjl hyo hy
    obtain ⟨xs, xp, xq⟩ := x
    unfold En.agg at INS
    simp only at u0 u1 u2 INS
    have hAi2 : A0 = some ax := Hax.out
    subst hAi2
    go_wp2_with fail
    refine INS.out.mono ?_
    rintro e w1 ⟨ps1, T1, r1, code1, bt1, rb1, rfl, hcd, hrt1, hrf1, L1, lf1⟩
    have hcd2 : (code1 == 0) = bt1 := hcd
    have HL1 := Lib.hid (And.intro L1 (And.intro hrt1 hrf1))
    clear L1 hrt1 hrf1 lf1 INS u0 u1 u2
    go_upto_if 88 with fail
    go_cut [11] (fun s11 wx => s11 = .int .u32 (rb1 : Int) ∧ wx = w1)
    case first =>
     cases bt1
     · have hq := Lib.hid (HL1.out.2.2 rfl)
       go_wp2_with fail
       go_meet
       case rel => exact ⟨by rw [hq.out], rfl⟩
     · have hq := Lib.hid (HL1.out.2.1 rfl)
       go_wp2_with fail
       go_meet
       case rel => exact ⟨by rw [hq.out], rfl⟩
    case rest =>
     obtain ⟨rfl, rfl⟩ := hcut
     clear hcd hcd2
     have L1 := HL1.out.1
     have IN2 := Lib.hid (L1.swap.ins y HB.out.2.2.2.2.1 HS.out.2.2.2.2 HB.out.2.1 HB.out.2.2.1 HB.out.2.2.2.1)
     obtain ⟨ay, hay, hab2, _, HYY⟩ := ent_of ((HA.out.1.below L1.bl).more L1.bl.size) HB.out.2.2.2.2.2
     obtain ⟨u0, u1, u2⟩ := HYY wc (Below.refl _ _)
     injection hay with hay
     subst hay
     clear L1 HYY
     obtain ⟨ys, yp, yq⟩ := y
     unfold En.agg at IN2
     simp only at u0 u1 u2 IN2
     go_wp2_with fail
     refine IN2.out.mono ?_
     rintro e w2 ⟨ps2, T2, r2, code2, bt2, rc2, rfl, hcd, hrt2, hrf2, L2, lf2⟩
     have hcd2 : (code2 == 0) = bt2 := hcd
     have HL2 := Lib.hid (And.intro L2.swap (And.intro hrt2 hrf2))
     clear L2 hrt2 hrf2 lf2 IN2 u0 u1 u2
     cases bt2
     · have hq := Lib.hid (HL2.out.2.2 rfl)
       go_wp2_with fail
       go_roundw
       case rel => exact ⟨k + 1, ps2, T2, rb1, rc2, by go_num, by omega, rfl, by rw [hq.out], by rw [HF.out.1, HF.out.2]; exact HL2.out.1⟩
       case measure => simp [intOf]; omega
     · have hq := Lib.hid (HL2.out.2.1 rfl)
       go_wp2_with fail
       go_roundw
       case rel => exact ⟨k + 1, ps2, T2, rb1, rc2, by go_num, by omega, rfl, by rw [hq.out], by rw [HF.out.1, HF.out.2]; exact HL2.out.1⟩
       case measure => simp [intOf]; omega
  · have hk' : k = n0 := by omega
    have q1 : (n0 : Int) ≤ (k : Int) := by omega
    have hta : l0.take k = l0 := List.take_of_length_le (by rw [HA.out.2.2.2.2]; omega)
    have hB1 : (l0.take k).foldl stepP [] = all := by rw [hta, ← sort_all (by rw [HA.out.2.2.2.2]; exact hm1)]; exact HS.out.1
    have hB2 : (rotL l0 b k).foldl stepP [] = all := by
     have h1 := rot_sort (l := l0) (by rw [HA.out.2.2.2.2]; exact hm1) b
     rw [HA.out.2.2.2.2, ← hk'] at h1
     rw [h1]; exact HS.out.1
    rw [hB1, hB2] at L
    clear hta hB1 hB2 hk'
    have hlts := L.dp.lts
    have PN := Lib.hid (pnew_any L.dp (size := 5) (by omega) (by omega))
    have HL := Lib.hid L
    clear L
    go_wp2_with fail
    refine PN.out.mono ?_
    rintro e w1 ⟨gp, gm, D, rfl, hP, hb1, hgp, hgm⟩
    obtain ⟨ha, hb_, hc_, da, db, dc, t3⟩ := HL.out.t3
    obtain ⟨RR, hRR⟩ : ∃ x, ranE lo all = x := ⟨_, rfl⟩
    have hRl : RR.length ≤ 60 := by rw [← hRR]; have := ran_len lo all; omega
    have hT600 := HL.out.dp.hT
    have R1 := Lib.hid (range_t3 (m := 0) hP hT600 t3.a hsl HS.out.2.2.1 (by omega) (by omega) (by omega) hb1.size hP.mp.lt lo)
    rw [hRR] at R1
    have HT3 := Lib.hid (And.intro t3 (And.intro hT600 hRR))
    have H1 := Lib.hid (And.intro hP (And.intro hb1 (And.intro hgp hgm)))
    clear t3 hT600 hRR hP hb1 hgp hgm PN hlts
    go_wp2_with fail
    refine R1.out.mono ?_
    rintro e w2 ⟨A2, c2, K2, D2, rd2, ht2, rfl, o2, P2, r2, t2, k2, T2⟩
    have R2 := Lib.hid (range_t3 (m := 120) P2 HT3.out.2.1 HT3.out.1.b hsl HS.out.2.2.1 (by omega) (by omega) (by omega) (Nat.le_trans H1.out.2.1.size T2.size) P2.mp.lt lo)
    rw [HT3.out.2.2] at R2
    have H2 := Lib.hid (And.intro o2 (And.intro P2 T2))
    clear o2 P2 r2 t2 k2 T2 R1
    go_wp2_with fail
    refine R2.out.mono ?_
    rintro e w3 ⟨A3, c3, K3, D3, rd3, ht3, rfl, o3, P3, r3, t3, k3, T3⟩
    have R3 := Lib.hid (range_t3 (m := 240) P3 HT3.out.2.1 HT3.out.1.c hsl HS.out.2.2.1 (by omega) (by omega) (by omega) (Nat.le_trans (Nat.le_trans H1.out.2.1.size H2.out.2.2.size) T3.size) P3.mp.lt lo)
    rw [HT3.out.2.2] at R3
    have H3 := Lib.hid (And.intro o3 (And.intro P3 (And.intro T3 (H2.out.2.1.turn_row T3 H2.out.1))))
    clear o3 P3 r3 t3 k3 T3 R2
    go_wp2_with fail
    refine R3.out.mono ?_
    rintro e w4 ⟨A4, c4, K4, D4, rd4, ht4, rfl, o4, P4, r4, t4, k4, T4⟩
    have b4 : Below W.heap.size W w4 := T4.below _ _ HL.out.bl.size (H3.out.2.2.1.below _ _ HL.out.bl.size (H2.out.2.2.below _ _ HL.out.bl.size (HL.out.bl.trans (H1.out.2.1.mono HL.out.bl.size))))
    have e2 := Reads.of_own (H3.out.2.1.turn_row T4 H3.out.2.2.2)
    have e3 := Reads.of_own (H3.out.2.1.turn_row T4 H3.out.1)
    have e4 := Reads.of_own o4
    have S1 := Lib.hid (fun (w5 : World) (hb : Below w4.heap.size w4 w5) => sameE_any A2 RR.length c2 A3 c3 RR w5 ((e2.below hb).more hb.size) ((e3.below hb).more hb.size) (by omega))
    have S2 := Lib.hid (fun (w5 : World) (hb : Below w4.heap.size w4 w5) => sameE_any A2 RR.length c2 A4 c4 RR w5 ((e2.below hb).more hb.size) ((e4.below hb).more hb.size) (by omega))
    have B4 := Lib.hid b4
    clear b4 e2 e3 e4 o4 P4 r4 t4 k4 T4 R3 H3 H2 H1 HT3
    go_wp2_with fail
    refine (FX.out _).mono ?_
    rintro e w5 ⟨rfl, hb5⟩
    have S1b := Lib.hid (S1.out _ hb5)
    have HB5 := Lib.hid hb5
    clear hb5
    go_wp2_with fail
    refine S1b.out.mono ?_
    rintro e w6 ⟨rfl, hb6⟩
    have S2b := Lib.hid (S2.out _ (bto0 HB5.out hb6))
    have HB6 := Lib.hid (bto0 HB5.out hb6)
    clear hb6
    go_wp2_with fail
    refine S2b.out.mono ?_
    rintro e w7 ⟨rfl, hb7⟩
    have HB7 := Lib.hid (B4.out.trans ((bto0 HB6.out hb7).mono B4.out.size))
    clear hb7
    go_wp2_with fail
    go_ret
    exact ⟨rfl, HB7.out⟩
end
end Go.Proofs.YtebobcbaloddaaaGreat
