/-
  B62 B65 B66 B67.
-/
import Derived.Test.YtebobcbaloddaaaGreatMfbw
import Derived.Test.YtebobcbaloddaaaGreatMfbf
import Derived.Test.YtebobcbaloddaaaGreatMfbs
import Derived.Test.YtebobcbaloddaaaGreatMfbu
import Derived.Deep.DeepCutAuto
import Derived.BigRegion
import Derived.BigQuiet
import Derived.Test.YtebobcbaloddaaaGreatMfzz
namespace Go.Proofs.YtebobcbaloddaaaGreat
section
set_option linter.unusedSimpArgs false
set_option linter.unusedVariables false
open Go.RowKit Go.Maps
theorem Tryz.infoSt : (Tryz.prog.info? 77).map (fun i => (i.zero, i.size, i.bytes)) = some (some (.agg #[.bool false, .int .u32 0, .slice none 0 0, .slice none 0 0, .int .u32 0, .int .i64 0]), 6, 72) := by kernel_rfl
def RetDesc (w : World) (frs : List Fr11) (lp N : Nat) (es : List En) (e : Ending) (w' : World) : Prop :=
 ∃ sL ss Bw cw zb, e = .returned (.tuple #[.slice (some ⟨Bw, 0, none⟩) (ss.length + 1) cw, .int .i64 0]) ∧ w'.ownsRow w.heap.size 77 6 (.slice (some ⟨Bw, 0, none⟩) (ss.length + 1) cw) (ss.length + 1) (vSt (sL :: ss).reverse) ∧
   WayR w' w.heap.size ss frs zb ∧ zb ≤ w'.heap.size ∧ StL w' zb sL lp N es ∧ (∀ g, sL.own g → g < w'.heap.size) ∧ Below w.heap.size w w'
theorem oth_way {w : World} {base n b : Nat} {v : Value} {xs : List Value} (ho : w.ownsRow base 77 6 v n xs) : Oth w (fun g => v.ownBlock = some g) b := fun g e => .inr (by
 obtain ⟨cs, hb⟩ := own_blk17 ho e
 exact ⟨_, cs, hb, by decide, by decide⟩)
theorem ds_push {w wB w6 : World} {g gb gt n k zb : Nat} {ps : List (List UInt8)} {T : List Bool} {o : Obj} {v8 : Value} {xs : List Value} {cs : Array Value} {ss : List Stp} {dn : List Fr11}
 (ho : wB.ownsRow w.heap.size 77 6 v8 k xs) (hg : (wB.alloc o).grownBy w6 v8.ownBlock) (hb : Below w.heap.size w wB) (hwr : WayR wB w.heap.size ss dn zb) (hxb : Blk wB w.heap.size 37 cs) (hdp : DP wB g gb gt n ps T) :
 EvT (fun g => v8.ownBlock = some g) wB w6 ∧ WayR w6 w.heap.size ss dn zb ∧ Blk w6 w.heap.size 37 cs ∧ DP w6 g gb gt n ps T ∧ Below w.heap.size w w6 := by
 have e1 : EvT (fun g => v8.ownBlock = some g) wB w6 := (EvT.of_below (O := fun g => v8.ownBlock = some g) (ball (Below.refl _ _) _)).trans (EvT.of_grown (O := fun g => v8.ownBlock = some g) hg fun g e => .inl e) fun g e => .inl e
 exact ⟨e1, hwr.stays e1 (oth_way ho), e1.blk hxb fun e => own_blk_ne ho hxb (by decide) e, hdp.push ho hg (by decide) (by decide) (by decide), e1.below hb hb.size fun g e => (World.ownsRow.lt ho g e).1⟩
theorem stepV (s : Stp) (ss : List Stp) : vSt ss.reverse ++ s.cells = vSt (s :: ss).reverse := by rw [List.reverse_cons]; exact vSt_snoc _ _
structure DsI (w : World) (g gb gt n : Nat) (ps : List (List UInt8)) (T : List Bool) (x : En) (frs : List Fr11) (lp N : Nat) (es : List En) (page : Nat) (f : Nat) (v8 : Value) (ss : List Stp) (dn : List Fr11) (zb : Nat) (W : World) : Prop where
 way : ∃ rem, wayP ps f page x = some (rem, lp, N, es) ∧ frs = rem ++ dn
 own : W.ownsRow w.heap.size 77 6 v8 ss.length (vSt ss.reverse)
 wy : WayR W w.heap.size ss dn zb
 zb : zb ≤ W.heap.size
 xb : Blk W w.heap.size 37 #[.string x.s, .int .u32 x.p, .int .u16 x.q]
 dp : DP W g gb gt n ps T
 bl : Below w.heap.size w W
 pg : page < 4294967296
theorem set6b {a W : World} {R : Nat} {v0 v1 v2 v3 v4 v5 : Value} (h : Below a.heap.size a W) (hg : a.heap.size ≤ R) : Below a.heap.size a ((((((W.setCell ⟨R, 0, none⟩ v0).setCell ⟨R, 1, none⟩ v1).setCell ⟨R, 2, none⟩ v2).setCell ⟨R, 3, none⟩ v3).setCell ⟨R, 4, none⟩ v4).setCell ⟨R, 5, none⟩ v5) :=
 (((((h.setCell (p := ⟨R, 0, none⟩) hg _).setCell (p := ⟨R, 1, none⟩) hg _).setCell (p := ⟨R, 2, none⟩) hg _).setCell (p := ⟨R, 3, none⟩) hg _).setCell (p := ⟨R, 4, none⟩) hg _).setCell (p := ⟨R, 5, none⟩) hg _
theorem num_at62 {w : World} {B n k x : Nat} {a : Addr} {l : List Nat} (hr : Reads w B 1 (some a) n (vN l)) (hk : l[k]? = some x) : w.cell? (a.add k) = some (.int .u32 (x : Int)) := by
 have hn := hr.num_len
 obtain ⟨ad, y, h1, _, h2, h3⟩ := hr.num (k := k) (by have := lt_of_at hk; omega)
 injection h1 with h1
 subst h1
 rw [hk] at h2
 injection h2 with h2
 subst h2
 exact h3
theorem ds_leaf {w W : World} {zb k N lp : Nat} {A6 : Option Addr} {c6 : Nat} {ss : List Stp} {dn : List Fr11} {s : Stp} {es : List En}
 (ho : W.ownsRow w.heap.size 77 6 (.slice A6 (k + 1) c6) (k + 1) (vSt ss.reverse ++ s.cells)) (hk : ss.length = k) (hw : WayR W w.heap.size ss dn zb) (hz : zb ≤ W.heap.size) (hs : StL W zb s lp N es) (hg : ∀ g, s.own g → g < W.heap.size) (hb : Below w.heap.size w W) :
 RetDesc w dn lp N es (.returned (.tuple #[.slice A6 (k + 1) c6, .int .i64 0])) W := by
 obtain ⟨Bw, hBw, hBb, _⟩ := own_some ho (by omega)
 subst hBw
 subst hk
 rw [stepV] at ho
 exact ⟨s, ss, Bw, c6, zb, rfl, ho, hw, hz, hs, hg, hb⟩
def slM : Value → Nat
 | .slice _ n _ => n
 | _ => 0
set_option maxRecDepth 100000 in
set_option maxHeartbeats 8000000 in
theorem descend_any {w : World} {g gb gt n : Nat} {ps : List (List UInt8)} {T : List Bool} (h : DP w g gb gt n ps T) (hn : n ≤ 10000) (root : Nat) (hroot : root < 4294967296) (x : En) {f : Nat} {frs : List Fr11} {lp N : Nat} {es : List En} (hw : wayP ps f root x = some (frs, lp, N, es)) (hf : frs.length + 1 ≤ 12) :
 Calls Tryz.prog 28 #[.pointer (some ⟨g, 0, none⟩), .int .u32 (root : Int), x.agg] w (RetDesc w frs lp N es) := by
 obtain ⟨i0, hi0, hz0, hs0, hy0⟩ := int_info8 Tryz.infoSt
 have hlts := h.lts
 have hb0 := ball (Below.refl w.heap.size w) (.cells #[.string x.s, .int .u32 x.p, .int .u16 x.q] 37)
 have X0 := Blk.new w 37 #[.string x.s, .int .u32 x.p, .int .u16 x.q]
 have HS := Lib.hid (show DsI w g gb gt n ps T x frs lp N es root f (.slice none 0 0) [] [] w.heap.size _ from ⟨⟨frs, hw, by simp⟩, World.ownsRow_nil _ _ _ _, Nat.le_refl _, by simp, X0, h.lower hb0, hb0, hroot⟩)
 have HF := Lib.hid hf
 have hfull := Lib.hid h.full
 clear h hb0 X0 hw hf
 obtain ⟨xs, xp, xq⟩ := x
 unfold En.agg
 simp only at HS ⊢
 go_enter Tryz.func28, Tryz.ntmps28
 go_wp2_with fail
 go_loopw [8, 9] (fun v8 v9 wr => ∃ (page f : Nat) (ss : List Stp) (dn : List Fr11) (zb : Nat), v9 = .int .u32 (page : Int) ∧ DsI w g gb gt n ps T ⟨xs, xp, xq⟩ frs lp N es page f v8 ss dn zb wr) (fun v8 _ _ => 13 - slM v8)
 case atStart => exact ⟨root, f, [], [], w.heap.size, rfl, HS.out⟩
 case round =>
  rename World => wo
  clear hroot
  obtain ⟨page, f', ss, dn, zb, rfl, D⟩ := hrel
  obtain ⟨⟨rem, hwy, hfr⟩, ho, hwr, hzb, hxb, hdp, hbl, hpg⟩ := D
  have HLen := Lib.hid hwr.len
  obtain ⟨k, hk⟩ : ∃ k, ss.length = k := ⟨_, rfl⟩
  rw [hk] at ho
  have Hk := Lib.hid hk
  have hkf : k + 1 ≤ 12 := by have h1 := HF.out; rw [hfr, List.length_append, ← HLen.out, hk] at h1; omega
  clear hk
  obtain ⟨f', rfl⟩ : ∃ k, f' = k + 1 := by
   cases f' with
   | zero => cases hwy
   | succ k => exact ⟨k, rfl⟩
  rw [wayP] at hwy
  split at hwy
  · cases hwy
  rename_i q hq
  have hql : q.length = 512 := hfull.out q (List.mem_of_getElem? hq)
  obtain ⟨Av, cv, rfl, hcv⟩ := own_form ho
  have RD := Lib.hid (read_ok hdp page q hq (by omega))
  have H0 := Lib.hid (And.intro ho (And.intro hwr (And.intro hdp (And.intro hbl hfr))))
  have hxb1 := Lib.hid hxb
  have hgl : w.heap.size < wo.heap.size := hxb.lt
  clear ho hwr hdp hbl hxb HS hfr
  go_wp2_with fail
  refine RD.out.mono ?_
  rintro e w1 ⟨rfl, hB1, hb1⟩
  have OP := Lib.hid (open_any (triF (some ⟨wo.heap.size, 0, none⟩) 512 512 q w1 (Own.new hB1 (by rw [hql]; decide) (Nat.zero_le _) hql.symm).reads.1 (by omega) (by omega)))
  have HTF := Lib.hid (triF (some ⟨wo.heap.size, 0, none⟩) 512 512 q w1 (Own.new hB1 (by rw [hql]; decide) (Nat.zero_le _) hql.symm).reads.1 (by omega) (by omega))
  unfold TriF at HTF
  have hkI : ((k : Int) == 12) = false := by simp; omega
  generalize rdPg q = RQ at *
  rcases RQ with _ | ⟨N', es'⟩ | ⟨c0, prs⟩
  · cases hwy
  · simp only at hwy HTF
    obtain ⟨m, hm⟩ : ∃ m, es'.length = m := ⟨_, rfl⟩
    have hmay := Lib.hid HTF.out
    have hwy := Lib.hid hwy
    have CHX : Hid (∀ (A4 : Option Addr) (c4 : Nat) (W : World), Reads W W.heap.size 3 A4 m (vE es') → Calls Tryz.prog 57 #[.slice A4 m c4, .agg #[.string xs, .int .u32 xp, .int .u16 xq]] W (RetB W (.int .i64 (chN es' ⟨xs, xp, xq⟩ : Nat)))) := Lib.hid fun A4 c4 W hr => child_any A4 m c4 es' ⟨xs, xp, xq⟩ W hr (by have := hmay.out.2.2.2.1; have := sumE_eq es'; omega)
    obtain ⟨ci, hci⟩ : ∃ ci, chN es' ⟨xs, xp, xq⟩ = ci := ⟨_, rfl⟩
    rw [hci] at CHX
    have Hm := Lib.hid hm
    have Hci := Lib.hid hci
    have hm1000 : m ≤ 1000 := by have := hmay.out.2.2.2.1; have := sumE_eq es'; omega
    clear hci
    go_wp2_with fail
    refine OP.out.mono ?_
    rintro e w2 ⟨A4, c4, rfl, hc4, o4, hb2⟩
    rw [hm] at hc4 o4 ⊢
    clear hm OP HTF
    have hzw2 := hb2.size
    have hzw1 := hb1.size
    have hb02 := bto0 hb1 hb2
    have xb2 := hxb1.out.below hb02 hgl
    have hb3 := ball hb02 (.cells #[.bool true, .int .u32 (N' : Int), .slice none 0 0, .slice A4 m c4] 75)
    have X3 := Blk.new w2 75 #[.bool true, .int .u32 (N' : Int), .slice none 0 0, .slice A4 m c4]
    have r4 := Reads.of_own (o4.alloc (.cells #[.bool true, .int .u32 (N' : Int), .slice none 0 0, .slice A4 m c4] 75))
    have xb3 := xb2.alloc (.cells #[.bool true, .int .u32 (N' : Int), .slice none 0 0, .slice A4 m c4] 75)
    have hz3 : (w2.alloc (.cells #[.bool true, .int .u32 (N' : Int), .slice none 0 0, .slice A4 m c4] 75)).heap.size = w2.heap.size + 1 := by simp
    have H2 := Lib.hid (And.intro o4 (And.intro hb02 hc4))
    clear o4 xb2 hb2 hb1 hc4 hb02
    go_upto_region 11 with fail
    obtain ⟨w3, hw3⟩ : ∃ w3, w2.alloc (.cells #[.bool true, .int .u32 (N' : Int), .slice none 0 0, .slice A4 m c4] 75) = w3 := ⟨_, rfl⟩
    rw [hw3] at X3 r4 xb3 hb3 hz3 ⊢
    have HW3 := Lib.hid hw3
    clear hw3
    have y0 : w3.cell? ⟨w2.heap.size, 0, none⟩ = some _ := X3.cell 0
    have y1 : w3.cell? ⟨w2.heap.size, 1, none⟩ = some _ := X3.cell 1
    have y2 : w3.cell? ⟨w2.heap.size, 2, none⟩ = some _ := X3.cell 2
    have y3 : w3.cell? ⟨w2.heap.size, 3, none⟩ = some _ := X3.cell 3
    have z0 : w3.cell? ⟨w.heap.size, 0, none⟩ = some (.string xs) := xb3.cell 0
    have z1 : w3.cell? ⟨w.heap.size, 1, none⟩ = some (.int .u32 xp) := xb3.cell 1
    have z2 : w3.cell? ⟨w.heap.size, 2, none⟩ = some (.int .u16 xq) := xb3.cell 2
    have CH3 : Hid (∀ W, Below w3.heap.size w3 W → Calls Tryz.prog 57 #[.slice A4 m c4, .agg #[.string xs, .int .u32 xp, .int .u16 xq]] W (RetB W (.int .i64 (ci : Int)))) := Lib.hid fun W hb => CHX.out A4 c4 W ((r4.below hb).more hb.size)
    have l2 : w2.heap.size < w3.heap.size := by omega
    have l0 : w.heap.size < w3.heap.size := by omega
    have H3 := Lib.hid (And.intro X3 (And.intro xb3 (And.intro hb3 hz3)))
    clear X3 r4 xb3 hb3 CHX hz3
    go_cut [13] (fun s13 wx => ∃ G, s13 = .pointer (some ⟨G, 0, none⟩) ∧ Blk wx G 77 #[.bool true, .int .u32 (N' : Int), .slice none 0 0, .slice A4 m c4, .int .u32 (page : Int), .int .i64 (ci : Int)] ∧ Below w3.heap.size w3 wx ∧ w3.heap.size ≤ G)
    case first =>
     have HSx : Hid (∀ W, Below w3.heap.size w3 W → W.cell? ⟨w2.heap.size, 0, none⟩ = some (.bool true) ∧ W.cell? ⟨w2.heap.size, 1, none⟩ = some (.int .u32 (N' : Int)) ∧ W.cell? ⟨w2.heap.size, 2, none⟩ = some (.slice none 0 0) ∧ W.cell? ⟨w2.heap.size, 3, none⟩ = some (.slice A4 m c4) ∧ W.cell? ⟨w.heap.size, 0, none⟩ = some (.string xs) ∧ W.cell? ⟨w.heap.size, 1, none⟩ = some (.int .u32 xp) ∧ W.cell? ⟨w.heap.size, 2, none⟩ = some (.int .u16 xq)) := Lib.hid fun W hb => by
      have Y := H3.out.1.below hb l2
      have V := H3.out.2.1.below hb l0
      exact ⟨Y.cell 0, Y.cell 1, Y.cell 2, Y.cell 3, V.cell 0, V.cell 1, V.cell 2⟩
     clear y0 y1 y2 y3 z0 z1 z2
     refine wp_region_held_drew (S := (fun W => W.cell? ⟨w2.heap.size, 0, none⟩ = some (.bool true) ∧ W.cell? ⟨w2.heap.size, 1, none⟩ = some (.int .u32 (N' : Int)) ∧ W.cell? ⟨w2.heap.size, 2, none⟩ = some (.slice none 0 0) ∧ W.cell? ⟨w2.heap.size, 3, none⟩ = some (.slice A4 m c4) ∧ W.cell? ⟨w.heap.size, 0, none⟩ = some (.string xs) ∧ W.cell? ⟨w.heap.size, 1, none⟩ = some (.int .u32 xp) ∧ W.cell? ⟨w.heap.size, 2, none⟩ = some (.int .u16 xq))) (by kernel_rfl) (HSx.out _ (Below.drew (Below.refl _ _))) (fun hHeld => ?_)
     try dsimp only at hHeld
     refine zt 0 ?_ rfl (by kernel_rfl) (fun _ _ _ h => h) ⟨rfl, ?_⟩ hHeld ?_
     rotate_left
     focus (intro wx hSw; (try dsimp only at hSw); (try go_split_ands); go_simp; (try with_reducible rfl))
     try simp only [Act.put, za1, za2, za3, za4, za5, za6]
     refine zt 1 ?_ rfl (by kernel_rfl) (fun _ _ _ h => h) ⟨rfl, ?_⟩ hHeld ?_
     rotate_left
     focus (intro wx hSw; (try dsimp only at hSw); (try go_split_ands); go_simp; (try with_reducible rfl))
     try simp only [Act.put, za1, za2, za3, za4, za5, za6]
     refine zt 2 ?_ rfl (by kernel_rfl) (fun _ _ _ h => h) ⟨rfl, ?_⟩ hHeld ?_
     rotate_left
     focus (intro wx hSw; (try dsimp only at hSw); (try go_split_ands); go_simp; (try with_reducible rfl))
     try simp only [Act.put, za1, za2, za3, za4, za5, za6]
     refine zt 3 ?_ rfl (by kernel_rfl) (fun _ _ _ h => h) ⟨rfl, ?_⟩ hHeld ?_
     rotate_left
     focus (intro wx hSw; (try dsimp only at hSw); (try go_split_ands); go_simp; (try with_reducible rfl))
     try simp only [Act.put, za1, za2, za3, za4, za5, za6]
     refine zt 4 ?_ rfl (by kernel_rfl) (fun _ _ _ h => h) ⟨rfl, ?_⟩ hHeld ?_
     rotate_left
     focus (intro wx hSw; (try dsimp only at hSw); (try go_split_ands); go_simp; (try with_reducible rfl))
     try simp only [Act.put, za1, za2, za3, za4, za5, za6]
     refine wpAnyH_ready (rs := [5, 7]) (by kernel_rfl) (by simp) (AllReadyH.cons rfl (fun K hK => ?_) (AllReadyH.cons rfl (fun K hK => ?_) AllReadyH.nil))
     · go_simp
       (go_at_call 57; (with_reducible refine (CH3.out _ (by with_reducible repeat (first | exact Below.refl _ _ | refine bdr ?_ _ | refine Below.drew ?_ | refine ball ?_ _))).mono ?_)); rintro e w5 ⟨rfl, hb5⟩
       have hw5 : Below w3.heap.size w3 w5 := (by with_reducible repeat (first | exact Below.refl _ _ | exact hb5 | refine bto0 ?_ hb5 | refine bdr ?_ _ | refine Below.drew ?_ | refine ball ?_ _ | refine set6b ?_ (Nat.le_refl _)))
       go_wp2_with fail
       refine hK.out _ _ ?_ (fun hHeld => ?_)
       · ((try dsimp only); (try dsimp only at hHeld); exact HSx.out _ (by with_reducible repeat (first | exact Below.refl _ _ | exact hb5 | refine bto0 ?_ hb5 | refine bdr ?_ _ | refine Below.drew ?_ | refine ball ?_ _ | refine set6b ?_ (Nat.le_refl _))))
       clear hK K
       try dsimp only at hHeld
       try simp only [Act.put, za1, za2, za3, za4, za5, za6]
       refine zt 6 ?_ rfl (by kernel_rfl) (fun _ _ _ h => h) ⟨rfl, ?_⟩ hHeld ?_
       rotate_left
       focus (intro wx hSw; (try dsimp only at hSw); (try go_split_ands); go_simp; (try with_reducible rfl))
       try simp only [Act.put, za1, za2, za3, za4, za5, za6]
       refine wpAnyH_ready (rs := [7]) (by kernel_rfl) (by simp) (AllReadyH.cons rfl (fun K hK => ?_) AllReadyH.nil)
       go_simp
       refine hK.out _ _ ?_ (fun hHeld => ?_)
       · ((try dsimp only); (try dsimp only at hHeld); exact HSx.out _ (by with_reducible repeat (first | exact Below.refl _ _ | exact hb5 | refine bto0 ?_ hb5 | refine bdr ?_ _ | refine Below.drew ?_ | refine ball ?_ _ | refine set6b ?_ (Nat.le_refl _))))
       clear hK K
       try dsimp only at hHeld
       try simp only [Act.put, za1, za2, za3, za4, za5, za6]
       refine wpAnyH_ready (rs := [8]) (by kernel_rfl) (by simp) (AllReadyH.cons rfl (fun K hK => ?_) AllReadyH.nil)
       go_simp
       refine hK.out _ _ ?_ (fun hHeld => ?_)
       · ((try dsimp only); (try dsimp only at hHeld); exact HSx.out _ (by with_reducible repeat (first | exact Below.refl _ _ | exact hb5 | refine bto0 ?_ hb5 | refine bdr ?_ _ | refine Below.drew ?_ | refine ball ?_ _ | refine set6b ?_ (Nat.le_refl _))))
       clear hK K
       try dsimp only at hHeld
       try simp only [Act.put, za1, za2, za3, za4, za5, za6]
       refine wpAnyH_done (by kernel_rfl) ?_ _
       go_wp2_with fail
       go_meet
       exact ⟨w5.heap.size, rfl, Blk.new w5 _ _, ball hw5 _, hw5.size⟩
     · go_simp
       refine hK.out _ _ ?_ (fun hHeld => ?_)
       · ((try dsimp only); (try dsimp only at hHeld); exact HSx.out _ (by with_reducible repeat (first | exact Below.refl _ _ | refine bdr ?_ _ | refine Below.drew ?_ | refine ball ?_ _ | refine set6b ?_ (Nat.le_refl _))))
       clear hK K
       try dsimp only at hHeld
       try simp only [Act.put, za1, za2, za3, za4, za5, za6]
       refine wpAnyH_ready (rs := [5]) (by kernel_rfl) (by simp) (AllReadyH.cons rfl (fun K hK => ?_) AllReadyH.nil)
       go_simp
       (go_at_call 57; (with_reducible refine (CH3.out _ (by with_reducible repeat (first | exact Below.refl _ _ | refine bdr ?_ _ | refine Below.drew ?_ | refine ball ?_ _))).mono ?_)); rintro e w5 ⟨rfl, hb5⟩
       have hw5 : Below w3.heap.size w3 w5 := (by with_reducible repeat (first | exact Below.refl _ _ | exact hb5 | refine bto0 ?_ hb5 | refine bdr ?_ _ | refine Below.drew ?_ | refine ball ?_ _ | refine set6b ?_ (Nat.le_refl _)))
       have S5 : Blk w5 w3.heap.size 77 #[.bool false, .int .u32 0, .slice none 0 0, .slice none 0 0, .int .u32 0, .int .i64 0] := (Blk.new w3 _ _).drew.below hb5 (by simp)
       have k50 : w5.cell? ⟨w3.heap.size, 0, none⟩ = some (.bool false) := S5.cell 0
       have f50 := S5.frozen 0
       have k51 : w5.cell? ⟨w3.heap.size, 1, none⟩ = some (.int .u32 0) := S5.cell 1
       have f51 := S5.frozen 1
       have k52 : w5.cell? ⟨w3.heap.size, 2, none⟩ = some (.slice none 0 0) := S5.cell 2
       have f52 := S5.frozen 2
       have k53 : w5.cell? ⟨w3.heap.size, 3, none⟩ = some (.slice none 0 0) := S5.cell 3
       have f53 := S5.frozen 3
       have k54 : w5.cell? ⟨w3.heap.size, 4, none⟩ = some (.int .u32 0) := S5.cell 4
       have f54 := S5.frozen 4
       have k55 : w5.cell? ⟨w3.heap.size, 5, none⟩ = some (.int .i64 0) := S5.cell 5
       have f55 := S5.frozen 5
       have l5 := S5.lt
       go_wp2_with fail
       refine hK.out _ _ ?_ (fun hHeld => ?_)
       · ((try dsimp only); (try dsimp only at hHeld); exact HSx.out _ (by with_reducible repeat (first | exact Below.refl _ _ | exact hb5 | refine bto0 ?_ hb5 | refine bdr ?_ _ | refine Below.drew ?_ | refine ball ?_ _ | refine set6b ?_ (Nat.le_refl _))))
       clear hK K
       try dsimp only at hHeld
       try simp only [Act.put, za1, za2, za3, za4, za5, za6]
       refine zt 6 ?_ rfl (by kernel_rfl) (fun _ _ _ h => h) ⟨rfl, ?_⟩ hHeld ?_
       rotate_left
       focus (intro wx hSw; (try dsimp only at hSw); (try go_split_ands); go_simp; (try with_reducible rfl))
       try simp only [Act.put, za1, za2, za3, za4, za5, za6]
       refine wpAnyH_ready (rs := [8]) (by kernel_rfl) (by simp) (AllReadyH.cons rfl (fun K hK => ?_) AllReadyH.nil)
       go_simp
       have B9 : Below w3.heap.size w3 ((((((w5.setCell ⟨w3.heap.size, 0, none⟩ (.bool true)).setCell ⟨w3.heap.size, 1, none⟩ (.int .u32 (N' : Int))).setCell ⟨w3.heap.size, 2, none⟩ (.slice none 0 0)).setCell ⟨w3.heap.size, 3, none⟩ (.slice A4 m c4)).setCell ⟨w3.heap.size, 4, none⟩ (.int .u32 (page : Int))).setCell ⟨w3.heap.size, 5, none⟩ (.int .i64 (ci : Int))) := set6b hw5 (Nat.le_refl _)
       have S9 : Blk ((((((w5.setCell ⟨w3.heap.size, 0, none⟩ (.bool true)).setCell ⟨w3.heap.size, 1, none⟩ (.int .u32 (N' : Int))).setCell ⟨w3.heap.size, 2, none⟩ (.slice none 0 0)).setCell ⟨w3.heap.size, 3, none⟩ (.slice A4 m c4)).setCell ⟨w3.heap.size, 4, none⟩ (.int .u32 (page : Int))).setCell ⟨w3.heap.size, 5, none⟩ (.int .i64 (ci : Int))) w3.heap.size 77 #[.bool true, .int .u32 (N' : Int), .slice none 0 0, .slice A4 m c4, .int .u32 (page : Int), .int .i64 (ci : Int)] := set6 S5
       obtain ⟨W9, hW9⟩ : ∃ W9, ((((((w5.setCell ⟨w3.heap.size, 0, none⟩ (.bool true)).setCell ⟨w3.heap.size, 1, none⟩ (.int .u32 (N' : Int))).setCell ⟨w3.heap.size, 2, none⟩ (.slice none 0 0)).setCell ⟨w3.heap.size, 3, none⟩ (.slice A4 m c4)).setCell ⟨w3.heap.size, 4, none⟩ (.int .u32 (page : Int))).setCell ⟨w3.heap.size, 5, none⟩ (.int .i64 (ci : Int))) = W9 := ⟨_, rfl⟩
       rw [hW9] at B9 S9 ⊢
       clear hW9
       refine hK.out _ _ ?_ (fun hHeld => ?_)
       · ((try dsimp only); (try dsimp only at hHeld); exact HSx.out _ B9)
       clear hK K
       try dsimp only at hHeld
       try simp only [Act.put, za1, za2, za3, za4, za5, za6]
       refine wpAnyH_done (by kernel_rfl) ?_ _
       go_wp2_with fail
       go_meet
       exact ⟨w3.heap.size, rfl, S9, B9, Nat.le_refl _⟩
    case rest =>
     obtain ⟨G, rfl, BG, bx, hG⟩ := hcut
     rename World => wB
     have hbB := bto0 H3.out.2.2.1 bx
     have b2B := bto0 (show Below w2.heap.size w2 w3 from HW3.out ▸ ball (Below.refl _ _) _) bx
     have ho1 := own_below H0.out.1 hbB
     have hwr1 := H0.out.2.1.below hbB
     have hdp1 := H0.out.2.2.1.lower hbB
     have hbw1 := bto0 H0.out.2.2.2.1 hbB
     have hxb1 := H3.out.2.1.below bx l0
     have X1 := H3.out.1.below bx l2
     have o41 := own_below H2.out.1 b2B
     have y0 : wB.cell? ⟨G, 0, none⟩ = some _ := BG.cell 0
     have y1 : wB.cell? ⟨G, 1, none⟩ = some _ := BG.cell 1
     have y2 : wB.cell? ⟨G, 2, none⟩ = some _ := BG.cell 2
     have y3 : wB.cell? ⟨G, 3, none⟩ = some _ := BG.cell 3
     have y4 : wB.cell? ⟨G, 4, none⟩ = some _ := BG.cell 4
     have y5 : wB.cell? ⟨G, 5, none⟩ = some _ := BG.cell 5
     have hzw : w.heap.size ≤ wB.heap.size := hbw1.size
     have hGl := BG.lt
     have hk9 : k + 1 ≤ 1000000000 := by omega
     have HB := Lib.hid (And.intro ho1 (And.intro hwr1 (And.intro hdp1 (And.intro hbw1 (And.intro hxb1 (And.intro X1 o41))))))
     clear ho1 hwr1 hdp1 hbw1 hxb1 X1 o41 hbB BG
     have hbx := Lib.hid (And.intro bx b2B)
     clear bx b2B
     go_wp2_with (at_builtin; go_loud (refine wpList_pushR (news := [.bool true, .int .u32 (N' : Int), .slice none 0 0, .slice A4 m c4, .int .u32 (page : Int), .int .i64 (ci : Int)]) rfl (.tmp 42) (.tmp 44) 69 rfl w.heap.size 77 i0 _ 6 72 Tryz.underlying69 hi0 hz0 hs0 hy0 rfl (by decide) _ k (vSt ss.reverse) rfl HB.out.1 rfl _ rfl rfl rfl (vSt_one (⟨true, N', ⟨none, 0, 0⟩, ⟨A4, m, c4⟩, page, ci⟩ : Stp)) hk9 (by omega) hzw ?_); intro v6 w6 ho6 hg6 hv6; obtain ⟨A6, c6, rfl, hc6⟩ := own_form ho6; have HP := Lib.hid (ds_push HB.out.1 hg6 HB.out.2.2.2.1 HB.out.2.1 HB.out.2.2.2.2.1 HB.out.2.2.1); have HO := Lib.hid (And.intro ho6 (HP.out.1.own HB.out.2.2.2.2.2.2 fun b e => by obtain ⟨cs, hb⟩ := own_blk17 HB.out.2.2.2.2.2.2 e; exact own_blk_ne HB.out.1 hb (by decide))); have X6 := HP.out.1.blk HB.out.2.2.2.2.2.1 fun e => own_blk_ne HB.out.1 HB.out.2.2.2.2.2.1 (by decide) e; have z6 := HP.out.1.size; have d0 : w6.cell? ⟨w2.heap.size, 0, none⟩ = some (.bool true) := X6.cell 0; clear X6 ho6 hg6 hv6)
     go_ret2
     obtain ⟨r1, r2, r3, r4⟩ : [] = rem ∧ page = lp ∧ N' = N ∧ es' = es := by simpa using hwy.out
     subst r1; subst r2; subst r3; subst r4
     have hfr := H0.out.2.2.2.2
     rw [List.nil_append] at hfr
     rw [hfr]
     exact ds_leaf (s := ⟨true, N', ⟨none, 0, 0⟩, ⟨A4, m, c4⟩, page, ci⟩) HO.out.1 Hk.out HP.out.2.1 (by omega) ⟨rfl, rfl, rfl, rfl, HO.out.2.mono (by omega)⟩ (fun g e => by
      rcases e with e | e
      · cases e
      · exact (World.ownsRow.lt HO.out.2 g e).2) HP.out.2.2.2.2
  · simp only at hwy HTF
    obtain ⟨m, hm⟩ : ∃ m, prs.length = m := ⟨_, rfl⟩
    have hmay := Lib.hid HTF.out
    have hwy := Lib.hid hwy
    have CHX : Hid (∀ (A4 : Option Addr) (c4 : Nat) (W : World), Reads W W.heap.size 3 A4 m (vE (prs.map Prod.fst)) → Calls Tryz.prog 57 #[.slice A4 m c4, .agg #[.string xs, .int .u32 xp, .int .u16 xq]] W (RetB W (.int .i64 (chN (prs.map Prod.fst) ⟨xs, xp, xq⟩ : Nat)))) := Lib.hid fun A4 c4 W hr => child_any A4 m c4 (prs.map Prod.fst) ⟨xs, xp, xq⟩ W hr (by have := hmay.out.2.2.2.1; omega)
    obtain ⟨ci, hci⟩ : ∃ ci, chN (prs.map Prod.fst) ⟨xs, xp, xq⟩ = ci := ⟨_, rfl⟩
    rw [hci] at CHX
    have Hm := Lib.hid hm
    have Hci := Lib.hid hci
    have hm1000 : m ≤ 1000 := by have := hmay.out.2.2.2.1; omega
    clear hci
    go_wp2_with fail
    refine OP.out.mono ?_
    rintro e w2 ⟨A3, c3, A4, c4, rfl, hc3, hc4, o3, o4, hb2⟩
    rw [hm] at hc3 hc4 o3 o4 ⊢
    clear hm OP HTF
    have hzw2 := hb2.size
    have hzw1 := hb1.size
    have hb02 := bto0 hb1 hb2
    have xb2 := hxb1.out.below hb02 hgl
    have hb3 := ball hb02 (.cells #[.bool false, .int .u32 0, .slice A3 (m + 1) c3, .slice A4 m c4] 75)
    have X3 := Blk.new w2 75 #[.bool false, .int .u32 0, .slice A3 (m + 1) c3, .slice A4 m c4]
    have r4 := Reads.of_own (o4.alloc (.cells #[.bool false, .int .u32 0, .slice A3 (m + 1) c3, .slice A4 m c4] 75))
    have xb3 := xb2.alloc (.cells #[.bool false, .int .u32 0, .slice A3 (m + 1) c3, .slice A4 m c4] 75)
    have hz3 : (w2.alloc (.cells #[.bool false, .int .u32 0, .slice A3 (m + 1) c3, .slice A4 m c4] 75)).heap.size = w2.heap.size + 1 := by simp
    have H2 := Lib.hid (And.intro o4 (And.intro hb02 (And.intro o3 (And.intro hc3 hc4))))
    clear o4 xb2 hb2 hb1 o3 hc3 hc4 hb02
    go_upto_region 11 with fail
    obtain ⟨w3, hw3⟩ : ∃ w3, w2.alloc (.cells #[.bool false, .int .u32 0, .slice A3 (m + 1) c3, .slice A4 m c4] 75) = w3 := ⟨_, rfl⟩
    rw [hw3] at X3 r4 xb3 hb3 hz3 ⊢
    have HW3 := Lib.hid hw3
    clear hw3
    have y0 : w3.cell? ⟨w2.heap.size, 0, none⟩ = some _ := X3.cell 0
    have y1 : w3.cell? ⟨w2.heap.size, 1, none⟩ = some _ := X3.cell 1
    have y2 : w3.cell? ⟨w2.heap.size, 2, none⟩ = some _ := X3.cell 2
    have y3 : w3.cell? ⟨w2.heap.size, 3, none⟩ = some _ := X3.cell 3
    have z0 : w3.cell? ⟨w.heap.size, 0, none⟩ = some (.string xs) := xb3.cell 0
    have z1 : w3.cell? ⟨w.heap.size, 1, none⟩ = some (.int .u32 xp) := xb3.cell 1
    have z2 : w3.cell? ⟨w.heap.size, 2, none⟩ = some (.int .u16 xq) := xb3.cell 2
    have CH3 : Hid (∀ W, Below w3.heap.size w3 W → Calls Tryz.prog 57 #[.slice A4 m c4, .agg #[.string xs, .int .u32 xp, .int .u16 xq]] W (RetB W (.int .i64 (ci : Int)))) := Lib.hid fun W hb => CHX.out A4 c4 W ((r4.below hb).more hb.size)
    have l2 : w2.heap.size < w3.heap.size := by omega
    have l0 : w.heap.size < w3.heap.size := by omega
    have H3 := Lib.hid (And.intro X3 (And.intro xb3 (And.intro hb3 hz3)))
    clear X3 r4 xb3 hb3 CHX hz3
    go_cut [13] (fun s13 wx => ∃ G, s13 = .pointer (some ⟨G, 0, none⟩) ∧ Blk wx G 77 #[.bool false, .int .u32 0, .slice A3 (m + 1) c3, .slice A4 m c4, .int .u32 (page : Int), .int .i64 (ci : Int)] ∧ Below w3.heap.size w3 wx ∧ w3.heap.size ≤ G)
    case first =>
     have HSx : Hid (∀ W, Below w3.heap.size w3 W → W.cell? ⟨w2.heap.size, 0, none⟩ = some (.bool false) ∧ W.cell? ⟨w2.heap.size, 1, none⟩ = some (.int .u32 0) ∧ W.cell? ⟨w2.heap.size, 2, none⟩ = some (.slice A3 (m + 1) c3) ∧ W.cell? ⟨w2.heap.size, 3, none⟩ = some (.slice A4 m c4) ∧ W.cell? ⟨w.heap.size, 0, none⟩ = some (.string xs) ∧ W.cell? ⟨w.heap.size, 1, none⟩ = some (.int .u32 xp) ∧ W.cell? ⟨w.heap.size, 2, none⟩ = some (.int .u16 xq)) := Lib.hid fun W hb => by
      have Y := H3.out.1.below hb l2
      have V := H3.out.2.1.below hb l0
      exact ⟨Y.cell 0, Y.cell 1, Y.cell 2, Y.cell 3, V.cell 0, V.cell 1, V.cell 2⟩
     clear y0 y1 y2 y3 z0 z1 z2
     refine wp_region_held_drew (S := (fun W => W.cell? ⟨w2.heap.size, 0, none⟩ = some (.bool false) ∧ W.cell? ⟨w2.heap.size, 1, none⟩ = some (.int .u32 0) ∧ W.cell? ⟨w2.heap.size, 2, none⟩ = some (.slice A3 (m + 1) c3) ∧ W.cell? ⟨w2.heap.size, 3, none⟩ = some (.slice A4 m c4) ∧ W.cell? ⟨w.heap.size, 0, none⟩ = some (.string xs) ∧ W.cell? ⟨w.heap.size, 1, none⟩ = some (.int .u32 xp) ∧ W.cell? ⟨w.heap.size, 2, none⟩ = some (.int .u16 xq))) (by kernel_rfl) (HSx.out _ (Below.drew (Below.refl _ _))) (fun hHeld => ?_)
     try dsimp only at hHeld
     refine zt 0 ?_ rfl (by kernel_rfl) (fun _ _ _ h => h) ⟨rfl, ?_⟩ hHeld ?_
     rotate_left
     focus (intro wx hSw; (try dsimp only at hSw); (try go_split_ands); go_simp; (try with_reducible rfl))
     try simp only [Act.put, za1, za2, za3, za4, za5, za6]
     refine zt 1 ?_ rfl (by kernel_rfl) (fun _ _ _ h => h) ⟨rfl, ?_⟩ hHeld ?_
     rotate_left
     focus (intro wx hSw; (try dsimp only at hSw); (try go_split_ands); go_simp; (try with_reducible rfl))
     try simp only [Act.put, za1, za2, za3, za4, za5, za6]
     refine zt 2 ?_ rfl (by kernel_rfl) (fun _ _ _ h => h) ⟨rfl, ?_⟩ hHeld ?_
     rotate_left
     focus (intro wx hSw; (try dsimp only at hSw); (try go_split_ands); go_simp; (try with_reducible rfl))
     try simp only [Act.put, za1, za2, za3, za4, za5, za6]
     refine zt 3 ?_ rfl (by kernel_rfl) (fun _ _ _ h => h) ⟨rfl, ?_⟩ hHeld ?_
     rotate_left
     focus (intro wx hSw; (try dsimp only at hSw); (try go_split_ands); go_simp; (try with_reducible rfl))
     try simp only [Act.put, za1, za2, za3, za4, za5, za6]
     refine zt 4 ?_ rfl (by kernel_rfl) (fun _ _ _ h => h) ⟨rfl, ?_⟩ hHeld ?_
     rotate_left
     focus (intro wx hSw; (try dsimp only at hSw); (try go_split_ands); go_simp; (try with_reducible rfl))
     try simp only [Act.put, za1, za2, za3, za4, za5, za6]
     refine wpAnyH_ready (rs := [5, 7]) (by kernel_rfl) (by simp) (AllReadyH.cons rfl (fun K hK => ?_) (AllReadyH.cons rfl (fun K hK => ?_) AllReadyH.nil))
     · go_simp
       (go_at_call 57; (with_reducible refine (CH3.out _ (by with_reducible repeat (first | exact Below.refl _ _ | refine bdr ?_ _ | refine Below.drew ?_ | refine ball ?_ _))).mono ?_)); rintro e w5 ⟨rfl, hb5⟩
       have hw5 : Below w3.heap.size w3 w5 := (by with_reducible repeat (first | exact Below.refl _ _ | exact hb5 | refine bto0 ?_ hb5 | refine bdr ?_ _ | refine Below.drew ?_ | refine ball ?_ _ | refine set6b ?_ (Nat.le_refl _)))
       go_wp2_with fail
       refine hK.out _ _ ?_ (fun hHeld => ?_)
       · ((try dsimp only); (try dsimp only at hHeld); exact HSx.out _ (by with_reducible repeat (first | exact Below.refl _ _ | exact hb5 | refine bto0 ?_ hb5 | refine bdr ?_ _ | refine Below.drew ?_ | refine ball ?_ _ | refine set6b ?_ (Nat.le_refl _))))
       clear hK K
       try dsimp only at hHeld
       try simp only [Act.put, za1, za2, za3, za4, za5, za6]
       refine zt 6 ?_ rfl (by kernel_rfl) (fun _ _ _ h => h) ⟨rfl, ?_⟩ hHeld ?_
       rotate_left
       focus (intro wx hSw; (try dsimp only at hSw); (try go_split_ands); go_simp; (try with_reducible rfl))
       try simp only [Act.put, za1, za2, za3, za4, za5, za6]
       refine wpAnyH_ready (rs := [7]) (by kernel_rfl) (by simp) (AllReadyH.cons rfl (fun K hK => ?_) AllReadyH.nil)
       go_simp
       refine hK.out _ _ ?_ (fun hHeld => ?_)
       · ((try dsimp only); (try dsimp only at hHeld); exact HSx.out _ (by with_reducible repeat (first | exact Below.refl _ _ | exact hb5 | refine bto0 ?_ hb5 | refine bdr ?_ _ | refine Below.drew ?_ | refine ball ?_ _ | refine set6b ?_ (Nat.le_refl _))))
       clear hK K
       try dsimp only at hHeld
       try simp only [Act.put, za1, za2, za3, za4, za5, za6]
       refine wpAnyH_ready (rs := [8]) (by kernel_rfl) (by simp) (AllReadyH.cons rfl (fun K hK => ?_) AllReadyH.nil)
       go_simp
       refine hK.out _ _ ?_ (fun hHeld => ?_)
       · ((try dsimp only); (try dsimp only at hHeld); exact HSx.out _ (by with_reducible repeat (first | exact Below.refl _ _ | exact hb5 | refine bto0 ?_ hb5 | refine bdr ?_ _ | refine Below.drew ?_ | refine ball ?_ _ | refine set6b ?_ (Nat.le_refl _))))
       clear hK K
       try dsimp only at hHeld
       try simp only [Act.put, za1, za2, za3, za4, za5, za6]
       refine wpAnyH_done (by kernel_rfl) ?_ _
       go_wp2_with fail
       go_meet
       exact ⟨w5.heap.size, rfl, Blk.new w5 _ _, ball hw5 _, hw5.size⟩
     · go_simp
       refine hK.out _ _ ?_ (fun hHeld => ?_)
       · ((try dsimp only); (try dsimp only at hHeld); exact HSx.out _ (by with_reducible repeat (first | exact Below.refl _ _ | refine bdr ?_ _ | refine Below.drew ?_ | refine ball ?_ _ | refine set6b ?_ (Nat.le_refl _))))
       clear hK K
       try dsimp only at hHeld
       try simp only [Act.put, za1, za2, za3, za4, za5, za6]
       refine wpAnyH_ready (rs := [5]) (by kernel_rfl) (by simp) (AllReadyH.cons rfl (fun K hK => ?_) AllReadyH.nil)
       go_simp
       (go_at_call 57; (with_reducible refine (CH3.out _ (by with_reducible repeat (first | exact Below.refl _ _ | refine bdr ?_ _ | refine Below.drew ?_ | refine ball ?_ _))).mono ?_)); rintro e w5 ⟨rfl, hb5⟩
       have hw5 : Below w3.heap.size w3 w5 := (by with_reducible repeat (first | exact Below.refl _ _ | exact hb5 | refine bto0 ?_ hb5 | refine bdr ?_ _ | refine Below.drew ?_ | refine ball ?_ _ | refine set6b ?_ (Nat.le_refl _)))
       have S5 : Blk w5 w3.heap.size 77 #[.bool false, .int .u32 0, .slice none 0 0, .slice none 0 0, .int .u32 0, .int .i64 0] := (Blk.new w3 _ _).drew.below hb5 (by simp)
       have k50 : w5.cell? ⟨w3.heap.size, 0, none⟩ = some (.bool false) := S5.cell 0
       have f50 := S5.frozen 0
       have k51 : w5.cell? ⟨w3.heap.size, 1, none⟩ = some (.int .u32 0) := S5.cell 1
       have f51 := S5.frozen 1
       have k52 : w5.cell? ⟨w3.heap.size, 2, none⟩ = some (.slice none 0 0) := S5.cell 2
       have f52 := S5.frozen 2
       have k53 : w5.cell? ⟨w3.heap.size, 3, none⟩ = some (.slice none 0 0) := S5.cell 3
       have f53 := S5.frozen 3
       have k54 : w5.cell? ⟨w3.heap.size, 4, none⟩ = some (.int .u32 0) := S5.cell 4
       have f54 := S5.frozen 4
       have k55 : w5.cell? ⟨w3.heap.size, 5, none⟩ = some (.int .i64 0) := S5.cell 5
       have f55 := S5.frozen 5
       have l5 := S5.lt
       go_wp2_with fail
       refine hK.out _ _ ?_ (fun hHeld => ?_)
       · ((try dsimp only); (try dsimp only at hHeld); exact HSx.out _ (by with_reducible repeat (first | exact Below.refl _ _ | exact hb5 | refine bto0 ?_ hb5 | refine bdr ?_ _ | refine Below.drew ?_ | refine ball ?_ _ | refine set6b ?_ (Nat.le_refl _))))
       clear hK K
       try dsimp only at hHeld
       try simp only [Act.put, za1, za2, za3, za4, za5, za6]
       refine zt 6 ?_ rfl (by kernel_rfl) (fun _ _ _ h => h) ⟨rfl, ?_⟩ hHeld ?_
       rotate_left
       focus (intro wx hSw; (try dsimp only at hSw); (try go_split_ands); go_simp; (try with_reducible rfl))
       try simp only [Act.put, za1, za2, za3, za4, za5, za6]
       refine wpAnyH_ready (rs := [8]) (by kernel_rfl) (by simp) (AllReadyH.cons rfl (fun K hK => ?_) AllReadyH.nil)
       go_simp
       have B9 : Below w3.heap.size w3 ((((((w5.setCell ⟨w3.heap.size, 0, none⟩ (.bool false)).setCell ⟨w3.heap.size, 1, none⟩ (.int .u32 0)).setCell ⟨w3.heap.size, 2, none⟩ (.slice A3 (m + 1) c3)).setCell ⟨w3.heap.size, 3, none⟩ (.slice A4 m c4)).setCell ⟨w3.heap.size, 4, none⟩ (.int .u32 (page : Int))).setCell ⟨w3.heap.size, 5, none⟩ (.int .i64 (ci : Int))) := set6b hw5 (Nat.le_refl _)
       have S9 : Blk ((((((w5.setCell ⟨w3.heap.size, 0, none⟩ (.bool false)).setCell ⟨w3.heap.size, 1, none⟩ (.int .u32 0)).setCell ⟨w3.heap.size, 2, none⟩ (.slice A3 (m + 1) c3)).setCell ⟨w3.heap.size, 3, none⟩ (.slice A4 m c4)).setCell ⟨w3.heap.size, 4, none⟩ (.int .u32 (page : Int))).setCell ⟨w3.heap.size, 5, none⟩ (.int .i64 (ci : Int))) w3.heap.size 77 #[.bool false, .int .u32 0, .slice A3 (m + 1) c3, .slice A4 m c4, .int .u32 (page : Int), .int .i64 (ci : Int)] := set6 S5
       obtain ⟨W9, hW9⟩ : ∃ W9, ((((((w5.setCell ⟨w3.heap.size, 0, none⟩ (.bool false)).setCell ⟨w3.heap.size, 1, none⟩ (.int .u32 0)).setCell ⟨w3.heap.size, 2, none⟩ (.slice A3 (m + 1) c3)).setCell ⟨w3.heap.size, 3, none⟩ (.slice A4 m c4)).setCell ⟨w3.heap.size, 4, none⟩ (.int .u32 (page : Int))).setCell ⟨w3.heap.size, 5, none⟩ (.int .i64 (ci : Int))) = W9 := ⟨_, rfl⟩
       rw [hW9] at B9 S9 ⊢
       clear hW9
       refine hK.out _ _ ?_ (fun hHeld => ?_)
       · ((try dsimp only); (try dsimp only at hHeld); exact HSx.out _ B9)
       clear hK K
       try dsimp only at hHeld
       try simp only [Act.put, za1, za2, za3, za4, za5, za6]
       refine wpAnyH_done (by kernel_rfl) ?_ _
       go_wp2_with fail
       go_meet
       exact ⟨w3.heap.size, rfl, S9, B9, Nat.le_refl _⟩
    case rest =>
     obtain ⟨G, rfl, BG, bx, hG⟩ := hcut
     rename World => wB
     have hbB := bto0 H3.out.2.2.1 bx
     have b2B := bto0 (show Below w2.heap.size w2 w3 from HW3.out ▸ ball (Below.refl _ _) _) bx
     have ho1 := own_below H0.out.1 hbB
     have hwr1 := H0.out.2.1.below hbB
     have hdp1 := H0.out.2.2.1.lower hbB
     have hbw1 := bto0 H0.out.2.2.2.1 hbB
     have hxb1 := H3.out.2.1.below bx l0
     have X1 := H3.out.1.below bx l2
     have o41 := own_below H2.out.1 b2B
     have o31 := own_below H2.out.2.2.1 b2B
     have hciN : ci < m + 1 := by have := List.countP_le_length (p := fun s => decide (cmpE s ⟨xs, xp, xq⟩ ≤ 0)) (l := prs.map Prod.fst); have e := Hci.out; unfold chN at e; have e2 := Hm.out; rw [List.length_map] at this; omega
     obtain ⟨a3, kid, hA3, _, hkid, _⟩ := (Reads.of_own o31).num (k := ci) hciN
     subst hA3
     have Hkid := Lib.hid hkid
     have gi0 : (0 : Int) ≤ (ci : Int) := by omega
     have gi1 : (ci : Int) < (m : Int) + 1 := by omega
     have BGl := Lib.hid (And.intro BG hG)
     clear hciN hkid
     have y0 : wB.cell? ⟨G, 0, none⟩ = some _ := BG.cell 0
     have y1 : wB.cell? ⟨G, 1, none⟩ = some _ := BG.cell 1
     have y2 : wB.cell? ⟨G, 2, none⟩ = some _ := BG.cell 2
     have y3 : wB.cell? ⟨G, 3, none⟩ = some _ := BG.cell 3
     have y4 : wB.cell? ⟨G, 4, none⟩ = some _ := BG.cell 4
     have y5 : wB.cell? ⟨G, 5, none⟩ = some _ := BG.cell 5
     have hzw : w.heap.size ≤ wB.heap.size := hbw1.size
     have hGl := BG.lt
     have hk9 : k + 1 ≤ 1000000000 := by omega
     have HB := Lib.hid (And.intro ho1 (And.intro hwr1 (And.intro hdp1 (And.intro hbw1 (And.intro hxb1 (And.intro X1 o41))))))
     have HB3 := Lib.hid o31
     clear ho1 hwr1 hdp1 hbw1 hxb1 X1 o41 hbB BG o31
     have hbx := Lib.hid (And.intro bx b2B)
     clear bx b2B
     go_wp2_with (at_builtin; go_loud (refine wpList_pushR (news := [.bool false, .int .u32 0, .slice (some a3) (m + 1) c3, .slice A4 m c4, .int .u32 (page : Int), .int .i64 (ci : Int)]) rfl (.tmp 42) (.tmp 44) 69 rfl w.heap.size 77 i0 _ 6 72 Tryz.underlying69 hi0 hz0 hs0 hy0 rfl (by decide) _ k (vSt ss.reverse) rfl HB.out.1 rfl _ rfl rfl rfl (vSt_one (⟨false, 0, ⟨some a3, m + 1, c3⟩, ⟨A4, m, c4⟩, page, ci⟩ : Stp)) hk9 (by omega) hzw ?_); intro v6 w6 ho6 hg6 hv6; obtain ⟨A6, c6, rfl, hc6⟩ := own_form ho6; have HP := Lib.hid (ds_push HB.out.1 hg6 HB.out.2.2.2.1 HB.out.2.1 HB.out.2.2.2.2.1 HB.out.2.2.1); have HO := Lib.hid (And.intro ho6 (HP.out.1.own HB.out.2.2.2.2.2.2 fun b e => by obtain ⟨cs, hb⟩ := own_blk17 HB.out.2.2.2.2.2.2 e; exact own_blk_ne HB.out.1 hb (by decide))); have X6 := HP.out.1.blk HB.out.2.2.2.2.2.1 fun e => own_blk_ne HB.out.1 HB.out.2.2.2.2.2.1 (by decide) e; have z6 := HP.out.1.size; have d0 : w6.cell? ⟨w2.heap.size, 0, none⟩ = some (.bool false) := X6.cell 0; have o36 := HP.out.1.own HB3.out (fun b e => by obtain ⟨cs, hb⟩ := own_blk17 HB3.out e; exact own_blk_ne HB.out.1 hb (by decide)); have HO3 := Lib.hid o36; clear o36; have d2 : w6.cell? ⟨w2.heap.size, 2, none⟩ = some (.slice (some a3) (m + 1) c3) := X6.cell 2; have X5 := HP.out.1.blk BGl.out.1 (fun e => by have := (World.ownsRow.lt H0.out.1 G e).2; have := BGl.out.2; have := H3.out.2.2.1.size; omega); have d5 : w6.cell? ⟨G, 5, none⟩ = some (.int .i64 (ci : Int)) := X5.cell 5; have ck := num_at62 (Reads.of_own HO3.out) Hkid.out; clear X5 X6 ho6 hg6 hv6)
     have hw0 := hwy.out
     rw [Hci.out] at hw0
     cases hwd : wayP ps f' kid ⟨xs, xp, xq⟩ with
     | none =>
       exfalso
       have : (c0 :: prs.map Prod.snd).getD ci 0 = kid := by rw [List.getD_eq_getElem?_getD, Hkid.out]; rfl
       rw [this, hwd] at hw0
       cases hw0
     | some r =>
       have hg : (c0 :: prs.map Prod.snd).getD ci 0 = kid := by rw [List.getD_eq_getElem?_getD, Hkid.out]; rfl
       rw [hg, hwd] at hw0
       obtain ⟨rem', lp', N2, es2⟩ := r
       obtain ⟨r1, r2, r3, r4⟩ : rem' ++ [⟨page, c0 :: prs.map Prod.snd, prs.map Prod.fst, ci⟩] = rem ∧ lp' = lp ∧ N2 = N ∧ es2 = es := by simpa using hw0
       subst r1; subst r2; subst r3; subst r4
       have hfr := H0.out.2.2.2.2
       have hz0 := H3.out.2.2.1.size
       refine ⟨⟨kid, f', ⟨false, 0, ⟨some a3, m + 1, c3⟩, ⟨A4, m, c4⟩, page, ci⟩ :: ss, ⟨page, c0 :: prs.map Prod.snd, prs.map Prod.fst, ci⟩ :: dn, w6.heap.size, rfl, ⟨⟨rem', hwd, by rw [hfr]; simp⟩, ?_, ⟨zb, by omega, ⟨rfl, rfl, rfl, rfl, HO3.out.mono (by omega), HO.out.2.mono (by omega)⟩, fun g e => ?_, HP.out.2.1⟩, Nat.le_refl _, HP.out.2.2.1, HP.out.2.2.2.1, HP.out.2.2.2.2, ?_⟩⟩, ?_⟩
       · rw [List.length_cons, Hk.out, ← stepV]
         exact HO.out.1
       · rcases e with e | e
         · exact (World.ownsRow.lt HO3.out g e).2
         · exact (World.ownsRow.lt HO.out.2 g e).2
       · have hin := List.mem_of_getElem? Hkid.out
         have h7 := hmay.out
         rcases List.mem_cons.1 hin with e | e
         · rw [e]; exact h7.2.2.2.2.2.2.1
         · obtain ⟨pr, hpr, rfl⟩ := List.mem_map.1 e
           exact (h7.2.2.2.2.2.1 pr hpr).2
       · simp [slM]; omega
end
end Go.Proofs.YtebobcbaloddaaaGreat
namespace Go.Proofs.YtebobcbaloddaaaGreat
section
set_option linter.unusedSimpArgs false
set_option linter.unusedVariables false
open Go.RowKit Go.Maps
structure SetB (w0 : World) (Bw Bc g gb gt n z a m : Nat) (ps : List (List UInt8)) (i : Nat) (ss : List Stp) (fs : List Fr11) (T : List Bool) (P Y : S11) (wr : List (Nat × List UInt8)) (cs : Array Value) (W : World) : Prop where
 blk : Blk W Bw 77 cs
 up : ∀ (j : Nat) (s : Stp), ss.reverse[j]? = some s → ∀ t, t < 6 → cs[j * 6 + t]? = s.cells[t]?
 ssl : ss.length = i
 wy : WayR W a ss fs m
 ch : ChS W z Bc g P Y (wr.map Prod.fst) (wr.map Prod.snd)
 dp : DP W g gb gt n ps T
 mz : m ≤ z
 zW : z ≤ W.heap.size
 bw : a ≤ Bw ∧ Bw < z
 lf : Lf w0 W gb gt
 a0 : w0.heap.size ≤ a
 dk : g < a ∧ gb < a ∧ gt < a
section
variable {w0 W W' : World} {Bw Bc g gb gt n z a m : Nat} {ps : List (List UInt8)} {i : Nat} {ss : List Stp} {fs : List Fr11} {T T' : List Bool} {P Y P' Y' : S11} {wr wr' : List (Nat × List UInt8)} {cs cs' : Array Value} {O : Nat → Prop}
theorem SetB.am (h : SetB w0 Bw Bc g gb gt n z a m ps i ss fs T P Y wr cs W) : a ≤ m := h.wy.le
theorem Lf.evt (h : Lf w0 W gb gt) (hv : EvT O W W') (hO : ∀ b, O b → w0.heap.size ≤ b) : Lf w0 W' gb gt := by
 have k : ∀ g, g < w0.heap.size → W'.heap[g]? = W.heap[g]? := fun g hg => hv.block g (Nat.lt_of_lt_of_le hg h.size) fun e => by have := hO g e; omega
 exact ⟨fun B h1 h2 h3 => by
  have b := h.below B h1 h2 h3
  exact ⟨hv.os.trans b.os, hv.tape.trans b.tape, hv.output.trans b.output, Nat.le_trans b.size hv.size, fun k' hk => (k k' (Nat.lt_of_lt_of_le hk h3)).trans (b.block k' hk)⟩,
  fun g' h1 h2 h3 => (k g' h1).trans (h.heap g' h1 h2 h3), Nat.le_trans h.size hv.size⟩
theorem DP.evt (h : DP W g gb gt n ps T) (hv : EvT O W W') (h1 : ¬ O g) (h2 : ¬ O gb) (h3 : ¬ O gt) : DP W' g gb gt n ps T :=
 h.same_ (hv.block _ h.dk.d.lt h1) (hv.block _ h.dk.b.lt h2) (hv.block _ h.dk.t.lt h3)
theorem SetB.evt (h : SetB w0 Bw Bc g gb gt n z a m ps i ss fs T P Y wr cs W) (hv : EvT O W W') (hO : ∀ b, O b → m ≤ b ∧ b < z ∧ b ≠ Bw) : SetB w0 Bw Bc g gb gt n z a m ps i ss fs T P Y wr cs W' := by
 have am := h.am
 have hd := h.dk
 exact ⟨hv.blk h.blk fun e => (hO _ e).2.2 rfl, h.up, h.ssl, h.wy.stays hv fun b e => .inl (hO b e).1, h.ch.stays hv (fun b e => (hO b e).2.1) h.zW, h.dp.evt hv (fun e => by have := (hO _ e).1; omega) (fun e => by have := (hO _ e).1; omega) (fun e => by have := (hO _ e).1; omega), h.mz, Nat.le_trans h.zW hv.size, h.bw, h.lf.evt hv fun b e => by have := (hO _ e).1; have := h.a0; omega, h.a0, h.dk⟩
theorem SetB.below (h : SetB w0 Bw Bc g gb gt n z a m ps i ss fs T P Y wr cs W) (hb : Below W.heap.size W W') : SetB w0 Bw Bc g gb gt n z a m ps i ss fs T P Y wr cs W' :=
 h.evt (EvT.of_below (O := fun _ => False) hb) fun _ e => e.elim
theorem SetB.put (h : SetB w0 Bw Bc g gb gt n z a m ps i ss fs T P Y wr cs W) (hv : EvT (ChO Bc P Y) W W') (hc : ChS W' z Bc g P' Y' (wr'.map Prod.fst) (wr'.map Prod.snd)) : SetB w0 Bw Bc g gb gt n z a m ps i ss fs T P' Y' wr' cs W' := by
 have am := h.am
 have hd := h.dk
 have hO : ∀ b, ChO Bc P Y b → z ≤ b := by
  obtain ⟨ys, k1, _⟩ := h.ch.by_
  rintro b (e | e | e)
  · rw [e]; exact h.ch.hz
  · exact (World.ownsRow.lt h.ch.pg b e).1
  · exact (World.ownsRow.lt k1 b e).1
 have hmz := h.mz
 exact ⟨hv.blk h.blk fun e => by have := hO _ e; have := h.bw; omega, h.up, h.ssl, h.wy.stays hv fun b e => .inl (by have := hO b e; omega), hc, h.dp.evt hv (fun e => by have := hO _ e; omega) (fun e => by have := hO _ e; omega) (fun e => by have := hO _ e; omega), h.mz, Nat.le_trans h.zW hv.size, h.bw, h.lf.evt hv fun b e => by have := hO _ e; have := h.a0; omega, h.a0, h.dk⟩
theorem SetB.way (h : SetB w0 Bw Bc g gb gt n z a m ps i ss fs T P Y wr cs W) (hv : EvT (fun b => b = Bw) W W') (hB : Blk W' Bw 77 cs') (hc : ∀ j, j < i * 6 → cs'[j]? = cs[j]?) : SetB w0 Bw Bc g gb gt n z a m ps i ss fs T P Y wr cs' W' := by
 have hd := h.dk
 have hb := h.bw
 refine ⟨hB, fun j s hs t ht => ?_, h.ssl, h.wy.stays hv fun b e => .inr ⟨_, cs, e ▸ h.blk, by decide, by decide⟩, h.ch.stays hv (fun b e => by omega) h.zW, h.dp.evt hv (fun e => by omega) (fun e => by omega) (fun e => by omega), h.mz, Nat.le_trans h.zW hv.size, h.bw, h.lf.evt hv fun b e => by have := h.a0; omega, h.a0, h.dk⟩
 have hj : j < i := by have := lt_of_at hs; rw [List.length_reverse, h.ssl] at this; exact this
 rw [hc _ (by omega)]
 exact h.up j s hs t ht
theorem SetB.take (h : SetB w0 Bw Bc g gb gt n z a m ps i ss fs T P Y wr cs W) (hL : Lf W W' gb gt) (hv : EvT (fun b => b = gt) W W') (hd : DP W' g gb gt n ps T') : SetB w0 Bw Bc g gb gt n z a m ps i ss fs T' P Y wr cs W' := by
 have hk := h.dk
 have hb := h.bw
 exact ⟨hv.blk h.blk fun e => by omega, h.up, h.ssl, h.wy.stays hv fun b e => .inr ⟨_, _, e ▸ h.dp.dk.t, by decide, by decide⟩, h.ch.stays hv (fun b e => by omega) h.zW, hd, h.mz, Nat.le_trans h.zW hv.size, h.bw, h.lf.trans hL, h.a0, h.dk⟩
theorem SetB.evw (h : SetB w0 Bw Bc g gb gt n z a m ps i ss fs T P Y wr cs W) (hv : EvT O W W') (hO : ∀ b, O b → m ≤ b ∧ b < z ∨ b = Bw) (hB : Blk W' Bw 77 cs') (hc : ∀ j, j < i * 6 → cs'[j]? = cs[j]?) : SetB w0 Bw Bc g gb gt n z a m ps i ss fs T P Y wr cs' W' := by
 have hd := h.dk
 have hb := h.bw
 have am := h.am
 refine ⟨hB, fun j s hs t ht => ?_, h.ssl, h.wy.stays hv fun b e => ?_, h.ch.stays hv (fun b e => by have := hO b e; omega) h.zW, h.dp.evt hv (fun e => by have := hO _ e; omega) (fun e => by have := hO _ e; omega) (fun e => by have := hO _ e; omega), h.mz, Nat.le_trans h.zW hv.size, h.bw, h.lf.evt hv fun b e => by have := hO b e; have := h.a0; omega, h.a0, h.dk⟩
 · have hj : j < i := by have := lt_of_at hs; rw [List.length_reverse, h.ssl] at this; exact this
   rw [hc _ (by omega)]
   exact h.up j s hs t ht
 · rcases hO b e with k | k
   · exact .inl k.1
   · exact .inr ⟨_, cs, k ▸ h.blk, by decide, by decide⟩
theorem SetB.pop {s : Stp} {f : Fr11} {i' : Nat} (h : SetB w0 Bw Bc g gb gt n z a m ps i (s :: ss) (f :: fs) T P Y wr cs W) (hi : i = i' + 1) : ∃ m', SetB w0 Bw Bc g gb gt n z a m' ps i' ss fs T P Y wr cs W ∧ StI W m' s f ∧ (∀ b, s.own b → m' ≤ b ∧ b < z ∧ b ≠ Bw) ∧ ∀ t, t < 6 → cs[i' * 6 + t]? = s.cells[t]? := by
 obtain ⟨m', h1, h2, h3, h4⟩ := h.wy
 subst hi
 have hl : ss.length = i' := by have := h.ssl; rw [List.length_cons] at this; omega
 have hmz := h.mz
 refine ⟨m', ⟨h.blk, fun j s' hs => h.up j s' ?_, hl, h4, h.ch, h.dp, by omega, h.zW, h.bw, h.lf, h.a0, h.dk⟩, h2, fun b hb => ⟨?_, by have := h3 b hb; omega, ?_⟩, h.up i' s ?_⟩
 · rw [List.reverse_cons, List.getElem?_append_left (lt_of_at hs)]; exact hs
 · rcases hb with hb | hb
   · exact (World.ownsRow.lt h2.k b hb).1
   · exact (World.ownsRow.lt h2.e b hb).1
 · intro e
   subst e
   rcases hb with hb | hb
   · exact own_blk_ne h2.k h.blk (by decide) hb
   · exact own_blk_ne h2.e h.blk (by decide) hb
 · rw [List.reverse_cons, List.getElem?_append_right (by rw [List.length_reverse]; omega), List.length_reverse, hl]
   simp
end
theorem pgB_eq {lf : Bool} {N N' : Nat} (h : lf = true → N = N') (kids : List Nat) (l : List En) : pgB lf N kids l = pgB lf N' kids l := by
 cases lf with
 | true => rw [h rfl]
 | false => rfl
theorem vE_one66 (l : List En) : ∀ u ∈ vE l, u.oneCell' = true := by
 intro u hu
 obtain ⟨e, _, he⟩ := List.mem_flatMap.1 hu
 simp only [En.cells, List.mem_cons, List.not_mem_nil, or_false] at he
 rcases he with rfl | rfl | rfl <;> rfl
theorem vN_one66 (l : List Nat) : ∀ u ∈ vN l, u.oneCell' = true := by
 intro u hu
 obtain ⟨e, _, rfl⟩ := List.mem_map.1 hu
 rfl
theorem far_own66 {w : World} {base size n b : Nat} {e t : TypeId} {v : Value} {xs : List Value} {cs : Array Value} (ho : w.ownsRow base e size v n xs) (hb : Blk w b t cs) (hne : e ≠ t) (i : Nat) (u : Value) : (w.setCell ⟨b, i, none⟩ u).ownsRow base e size v n xs := own_far ho hb hne i u
theorem vE_ins (l : List En) (i : Nat) (x : En) : (vE l).take (i * 3) ++ x.cells ++ (vE l).drop (i * 3) = vE (insI l i x) := by
 rw [vE_take64, vE_drop64]
 unfold insI vE
 simp
theorem vE_ins3 (l : List En) (i : Nat) (xs : ByteArray) (xp xq : Int) : (vE l).take (i * 3) ++ [.string xs, .int .u32 xp, .int .u16 xq] ++ (vE l).drop (i * 3) = vE (insI l i ⟨xs, xp, xq⟩) := vE_ins l i ⟨xs, xp, xq⟩
theorem set_ne66 {cs : Array Value} {i j : Nat} {u : Value} (h : i ≠ j) : (cs.setIfInBounds i u)[j]? = cs[j]? := Array.getElem?_setIfInBounds_ne h
theorem vN_ins (l : List Nat) (i q : Nat) : (vN l).take i ++ [.int .u32 (q : Int)] ++ (vN l).drop i = vN (insI l i q) := by
 rw [← vN_take64, ← vN_drop64]
 unfold insI vN
 simp
theorem kidL_len {kids : List Nat} {l : List En} (h : sumE l + 4 * l.length ≤ 500) (hk : kids.length = l.length + 1) : (kidL kids l).length = 512 := by
 unfold kidL
 have hf : (l.zip kids.tail).map Prod.fst = l := List.map_fst_zip (by rw [List.length_tail]; omega)
 have hl : (l.zip kids.tail).length = l.length := by rw [← List.length_map (f := Prod.fst), hf]
 exact innL_len _ _ _ (by rw [hf, hl]; exact h)
theorem pgB_len {lf : Bool} {N : Nat} {kids : List Nat} {l : List En} (hf : fitP lf l = true) (hk : lf = false → kids.length = l.length + 1) : (pgB lf N kids l).length = 512 := by
 cases lf with
 | true => exact leafL_len N l (by simpa [fitP] using hf)
 | false => exact kidL_len (by simpa [fitP] using hf) (hk rfl)
theorem CurOk.left {lf : Bool} {N : Nat} {kids : List Nat} {l : List En} (h : CurOk lf N kids l) (hf : fitP lf l ≠ true) :
 (∀ x ∈ l.take (cutW lf l), x.ok) ∧ mayEn (l.take (cutW lf l)) = true ∧ fitP lf (l.take (cutW lf l)) = true ∧ (lf = false → (kids.take (cutW lf l + 1)).length = (l.take (cutW lf l)).length + 1 ∧ (∀ x ∈ kids.take (cutW lf l + 1), x < 4294967296) ∧ l.take (cutW lf l) ≠ []) := by
 obtain ⟨q1, q2, q3, q4⟩ := h.cut hf
 refine ⟨fun x hx => h.ok x (List.mem_of_mem_take hx), may_take h.may _, q3, fun e => ?_⟩
 obtain ⟨k1, k2, k3⟩ := h.kid e
 refine ⟨by rw [List.length_take, List.length_take]; omega, fun x hx => k2 x (List.mem_of_mem_take hx), fun e2 => ?_⟩
 have := congrArg List.length e2
 rw [List.length_take, List.length_nil] at this
 omega
theorem CurOk.right {lf : Bool} {N : Nat} {kids : List Nat} {l : List En} (h : CurOk lf N kids l) (hf : fitP lf l ≠ true) :
 (∀ x ∈ l.drop (cutW lf l + gap lf), x.ok) ∧ mayEn (l.drop (cutW lf l + gap lf)) = true ∧ fitP lf (l.drop (cutW lf l + gap lf)) = true ∧ (lf = false → (kids.drop (cutW lf l + 1)).length = (l.drop (cutW lf l + gap lf)).length + 1 ∧ (∀ x ∈ kids.drop (cutW lf l + 1), x < 4294967296) ∧ l.drop (cutW lf l + gap lf) ≠ []) := by
 obtain ⟨q1, q2, q3, q4⟩ := h.cut hf
 refine ⟨fun x hx => h.ok x (List.mem_of_mem_drop hx), may_drop h.may _, q4, fun e => ?_⟩
 obtain ⟨k1, k2, k3⟩ := h.kid e
 have hg : gap lf = 1 := by subst e; rfl
 refine ⟨by rw [List.length_drop, List.length_drop]; omega, fun x hx => k2 x (List.mem_of_mem_drop hx), fun e2 => ?_⟩
 have := congrArg List.length e2
 rw [List.length_drop, List.length_nil] at this
 omega
theorem CurOk.sep {lf : Bool} {N : Nat} {kids : List Nat} {l : List En} (h : CurOk lf N kids l) (hf : fitP lf l ≠ true) : (l.getD (cutW lf l) enZ).ok ∧ (l.getD (cutW lf l) enZ).s.size ≤ 200 := by
 obtain ⟨q1, q2, q3, q4⟩ := h.cut hf
 have hlt : cutW lf l < l.length := by omega
 have : l.getD (cutW lf l) enZ = l[cutW lf l] := by rw [List.getD_eq_getElem?_getD, List.getElem?_eq_getElem hlt]; rfl
 rw [this]
 have hm : l[cutW lf l] ∈ l := List.getElem_mem hlt
 exact ⟨h.ok _ hm, (may_parts.1 h.may).1 _ hm⟩
theorem or2_any (W : World) : Calls Tryz.prog 68 #[.slice (some ⟨W.heap.size, 0, none⟩) 2 2] (W.alloc (.cells #[.int .i64 0, .int .i64 0] 27)) (fun e w' => e = .returned (.int .i64 0) ∧ (W.alloc (.cells #[.int .i64 0, .int .i64 0] 27)) = w') := by
 have hr : Reads (W.alloc (.cells #[.int .i64 0, .int .i64 0] 27)) (W.heap.size + 1) 1 (some ⟨W.heap.size, 0, none⟩) 2 [.int .i64 0, .int .i64 0] := reads_new W #[.int .i64 0, .int .i64 0] 27 (xs := [.int .i64 0, .int .i64 0]) rfl rfl
 exact orE_any (some ⟨W.heap.size, 0, none⟩) 2 2 _ [0, 0] _ hr (by decide)
theorem Reads.of_blk {w : World} {b n size : Nat} {t : TypeId} {cs : Array Value} {xs : List Value} (h : Blk w b t cs) (hx : xs = cs.toList) (hl : xs.length = n * size) : Reads w w.heap.size size (some ⟨b, 0, none⟩) n xs := by
 subst hx
 refine ⟨hl, fun _ => ⟨_, rfl, h.lt, fun j u hj => ?_⟩⟩
 rw [add_head]
 exact (h.cell j).trans (by simpa using hj)
theorem put_root {w : World} {z Bc g : Nat} {P Y : S11} {ns : List Nat} {bs : List (List UInt8)} (h : ChS w z Bc g P Y ns bs) (hns : ns.length ≤ 1000) (hbs : bs.length ≤ 1000) (hz : z ≤ w.heap.size) (r : Nat) {kb eb p q : Nat} {x : En}
 (hk : Blk w kb 30 #[.int .u32 (p : Int), .int .u32 (q : Int)]) (he : Blk w eb 37 #[.string x.s, .int .u32 x.p, .int .u16 x.q]) (hok : x.ok) (hs : x.s.size ≤ 200) (hp : p < 4294967296) (hq : q < 4294967296) :
 Calls Tryz.prog 65 #[.pointer (some ⟨Bc, 0, none⟩), .int .u32 (r : Int), .agg #[.bool false, .int .u32 0, .slice (some ⟨kb, 0, none⟩) 2 2, .slice (some ⟨eb, 0, none⟩) 1 1]] w (RetPut w z Bc g P Y (ns ++ [r]) (bs ++ [kidL [p, q] [x]])) := by
 have := put_any (lf := false) (N := 0) (k := ⟨some ⟨kb, 0, none⟩, 2, 2⟩) (e := ⟨some ⟨eb, 0, none⟩, 1, 1⟩) (kids := [p, q]) (l := [x]) h hns hbs hz r (by decide) ⟨Reads.of_blk he rfl rfl, fun _ => Reads.of_blk hk rfl rfl, fun e => by cases e⟩ (fun y hy => by rw [List.mem_singleton] at hy; rw [hy]; exact hok) (may_parts.2 ⟨fun y hy => by rw [List.mem_singleton] at hy; rw [hy]; exact hs, List.pairwise_singleton _ _⟩) (by simp [fitP, sumE]; omega) (fun _ => ⟨rfl, fun y hy => by simp only [List.mem_cons, List.not_mem_nil, or_false] at hy; rcases hy with rfl | rfl <;> assumption, by simp⟩)
 exact this
theorem setR_up12 {way root q : Nat} {wr : List (Nat × List UInt8)} {T : List Bool} {sep : En} (h : way = 12) : setR way root (.up wr T sep q) = (none, T) := by unfold setR; simp only; rw [if_pos h]
theorem setR_upN {way root q : Nat} {wr : List (Nat × List UInt8)} {T : List Bool} {sep : En} (h : way ≠ 12) (hf : freeI T = none) : setR way root (.up wr T sep q) = (none, T) := by unfold setR; simp only; rw [if_neg h, hf]
theorem setR_upS {way root q r : Nat} {wr : List (Nat × List UInt8)} {T : List Bool} {sep : En} (h : way ≠ 12) (hf : freeI T = some r) : setR way root (.up wr T sep q) = (some (wr ++ [(r, kidL [root, q] [sep])], r), T.set r true) := by unfold setR; simp only; rw [if_neg h, hf]
def topP : Nat → List Fr11 → Nat
 | p, [] => p
 | _, f :: fs => topP f.p fs
theorem topP_snoc : ∀ (fs : List Fr11) (p : Nat) (f : Fr11), topP p (fs ++ [f]) = f.p
 | [], _, _ => rfl
 | a :: r, p, f => topP_snoc r a.p f
def RetSet (w0 : World) (Bc g gb gt n z : Nat) (ps : List (List UInt8)) (way root : Nat) (st : Stt) (e : Ending) (w' : World) : Prop :=
 DP w' g gb gt n ps (setR way root st).2 ∧ Lf w0 w' gb gt ∧ match (setR way root st).1 with
  | none => e = .returned (.tuple #[.int .u32 0, .int .i64 7])
  | some (wr, r) => e = .returned (.tuple #[.int .u32 (r : Int), .int .i64 0]) ∧ (∃ P Y, ChS w' z Bc g P Y (wr.map Prod.fst) (wr.map Prod.snd)) ∧ (∀ q ∈ wr, q.2.length = 512) ∧ wr.length ≤ 100
end
end Go.Proofs.YtebobcbaloddaaaGreat
namespace Go.Proofs.YtebobcbaloddaaaGreat
section
set_option linter.unusedSimpArgs false
set_option linter.unusedVariables false
open Go.RowKit Go.Maps
structure SetJ (w0 : World) (Bw Bc g gb gt n z a m : Nat) (ps : List (List UInt8)) (i : Nat) (ss : List Stp) (fs : List Fr11) (T : List Bool) (P Y : S11) (wr : List (Nat × List UInt8)) (cs : Array Value) (lf : Bool) (p N : Nat) (kids : List Nat) (l : List En) (k e : S11) (way root : Nat) (st : Stt) (W : World) : Prop where
 b : SetB w0 Bw Bc g gb gt n z a m ps i ss fs T P Y wr cs W
 c0 : cs[i * 6]? = some (.bool lf)
 c1 : cs[i * 6 + 1]? = some (.int .u32 (N : Int))
 c2 : cs[i * 6 + 2]? = some k.v
 c3 : cs[i * 6 + 3]? = some e.v
 c4 : cs[i * 6 + 4]? = some (.int .u32 (p : Int))
 cur : CurR W m lf k e kids l
 nk : ∀ b, k.own b → ¬ P.own b
 ok : CurOk lf N kids l
 so : StepsOk fs (curSt lf wr p N kids l T)
 eq : fs.foldl (fun s fr => frSt fr s) (curSt lf wr p N kids l T) = st
 wl : wr.length + 2 * i ≤ 30
 w5 : ∀ q ∈ wr, q.2.length = 512
 iw : i < way
 pn : p < 4294967296
 tp : topP p fs = root
theorem cell66 {W : World} {b j : Nat} {t : TypeId} {cs : Array Value} {v : Value} (h : Blk W b t cs) (hj : cs[j]? = some v) : W.cell? ⟨b, j, none⟩ = some v := (h.cell j).trans hj
theorem map_fst_snoc (wr : List (Nat × List UInt8)) (p : Nat) (L : List UInt8) : (wr ++ [(p, L)]).map Prod.fst = wr.map Prod.fst ++ [p] := by simp
theorem map_snd_snoc (wr : List (Nat × List UInt8)) (p : Nat) (L : List UInt8) : (wr ++ [(p, L)]).map Prod.snd = wr.map Prod.snd ++ [L] := by simp
set_option maxRecDepth 100000 in
set_option maxHeartbeats 8000000 in
theorem settle_any {w0 w : World} {Bw cw Bc g gb gt n z a m root way : Nat} {ps : List (List UInt8)} {i0 : Nat} {ss : List Stp} {fs : List Fr11} {T : List Bool} {P Y : S11} {cs : Array Value} {lf : Bool} {p N : Nat} {kids : List Nat} {l : List En} {k e : S11} {st : Stt}
 (h : SetJ w0 Bw Bc g gb gt n z a m ps i0 ss fs T P Y [] cs lf p N kids l k e way root st w) (hi0 : i0 + 1 = way) (hway : way ≤ 12) (hn : n ≤ 10000) (hroot : root < 4294967296) :
 Calls Tryz.prog 32 #[.pointer (some ⟨Bc, 0, none⟩), .slice (some ⟨Bw, 0, none⟩) way cw, .int .u32 (root : Int)] w (RetSet w0 Bc g gb gt n z ps way root st) := by
 have H0 := Lib.hid h
 have hiw : (way : Int) - 1 = (i0 : Int) := by omega
 clear h
 go_enter Tryz.func32, Tryz.ntmps32
 go_wp2_with fail
 go_loopw [2, 8] (fun v2 v8 wr_ => v2 = .int .u32 (root : Int) ∧ ∃ (i m : Nat) (ss : List Stp) (fs : List Fr11) (T : List Bool) (P Y : S11) (wr : List (Nat × List UInt8)) (cs : Array Value) (lf : Bool) (p N : Nat) (kids : List Nat) (l : List En) (k e : S11), v8 = .int .i64 (i : Int) ∧ SetJ w0 Bw Bc g gb gt n z a m ps i ss fs T P Y wr cs lf p N kids l k e way root st wr_) (fun _ v8 _ => (intOf v8).toNat)
 case atStart => exact ⟨rfl, i0, m, ss, fs, T, P, Y, [], cs, lf, p, N, kids, l, k, e, by go_num, H0.out⟩
 case round =>
  rename World => wo
  clear H0 hiw hi0
  obtain ⟨rfl, i, m, ss, fs, T, P, Y, wr, cs, lf, p, N, kids, l, k, e, rfl, J⟩ := hrel
  have iw := J.iw
  have q0 : (0 : Int) ≤ (i : Int) := by omega
  have q1 : (i : Int) < (way : Int) := by omega
  have q2 : (i : Int) ≤ 12 := by omega
  have u0 := cell66 J.b.blk J.c0
  have u3 := cell66 J.b.blk J.c3
  have hsz : sumE l ≤ 72000 := by
   have := J.ok.sz
   cases lf with
   | true => have this : sumE l ≤ 712 := this; omega
   | false => have this : sumE l + 4 * l.length ≤ 712 := this; omega
  have FT := Lib.hid (fits_any u0 u3 J.cur.part.re hsz)
  have HJ := Lib.hid J
  clear J u0 u3 hsz
  by_cases hf : fitP lf l = true
  · rw [hf] at FT
    have Hf := Lib.hid hf
    clear hf
    go_wp2_with fail
    refine FT.out.mono ?_
    rintro e1 w1 ⟨rfl, hb1⟩
    have JB := HJ.out.b.below hb1
    have JC := HJ.out.cur.stays (EvT.of_below (O := fun _ => False) hb1) (fun _ _ e => e) (fun _ _ e => e)
    have u0 := cell66 JB.blk HJ.out.c0
    have u1 := cell66 JB.blk HJ.out.c1
    have u2 := cell66 JB.blk HJ.out.c2
    have u3 := cell66 JB.blk HJ.out.c3
    have u4 := cell66 JB.blk HJ.out.c4
    have PT := Lib.hid (show ∀ W, Below w1.heap.size w1 W → Calls Tryz.prog 65 #[.pointer (some ⟨Bc, 0, none⟩), .int .u32 (p : Int), .agg #[.bool lf, .int .u32 (N : Int), .slice k.A k.n k.c, .slice e.A e.n e.c]] W (RetPut W z Bc g P Y (wr.map Prod.fst ++ [p]) (wr.map Prod.snd ++ [pgB lf N kids l])) from fun W hb => put_any (JB.below hb).ch (by rw [List.length_map]; have := HJ.out.wl; omega) (by rw [List.length_map]; have := HJ.out.wl; omega) (JB.below hb).zW p HJ.out.ok.N (JC.part.stays (EvT.of_below (O := fun _ => False) hb) (fun _ _ e => e) (fun _ _ e => e)) HJ.out.ok.ok HJ.out.ok.may Hf.out HJ.out.ok.kid)
    have HB := Lib.hid (And.intro JB JC)
    clear JB JC
    go_wp2_with fail
    have PW := Lib.hid (PT.out w1.drew (Below.drew (Below.refl _ _)))
    go_region_with (refine PW.out.mono ?_; rintro e2 w2 ⟨P2, Y2, rfl, ch2, ev2, ne2⟩; have H2 := Lib.hid (And.intro ch2 (And.intro ev2 ne2)); clear ch2 ev2 ne2)
    all_goals (
     go_wp2_with fail
     go_ret2
     have he := HJ.out.eq
     rw [curSt, if_pos Hf.out, st_done] at he
     rw [← he]
     have hev := (EvT.of_below (O := ChO Bc P Y) (Below.drew (Below.refl _ _))).trans H2.out.2.1 (fun b e => .inl e)
     have ch2 := H2.out.1
     rw [← map_fst_snoc wr p (pgB lf N kids l), ← map_snd_snoc wr p (pgB lf N kids l)] at ch2
     have JB2 := HB.out.1.put hev ch2
     refine ⟨JB2.dp, JB2.lf, rfl, ⟨P2, Y2, JB2.ch⟩, fun q hq => ?_, ?_⟩
     · rcases List.mem_append.1 hq with hq | hq
       · exact HJ.out.w5 q hq
       · rw [List.mem_singleton] at hq
         rw [hq]
         exact pgB_len Hf.out fun e => (HJ.out.ok.kid e).1
     · rw [List.length_append, List.length_singleton]
       have := HJ.out.wl
       omega)
  · have Hf := Lib.hid hf
    have hf' : fitP lf l = false := by simpa using hf
    rw [hf'] at FT
    clear hf hf'
    go_wp2_with fail
    refine FT.out.mono ?_
    rintro e1 w1 ⟨rfl, hb1⟩
    have JB := HJ.out.b.below hb1
    have JC := HJ.out.cur.stays (EvT.of_below (O := fun _ => False) hb1) (fun _ _ e => e) (fun _ _ e => e)
    have SP := Lib.hid (split_any (o := i * 6) JB.blk HJ.out.c0 HJ.out.c1 HJ.out.c2 HJ.out.c3 JC HJ.out.ok Hf.out (by decide) (by decide))
    have HB := Lib.hid (And.intro JB JC)
    clear JB JC
    go_wp2_with fail
    refine SP.out.mono ?_
    rintro e2 w2 ⟨x, sk, se, rk, re, rN, cs1, rfl, hrN, hrl, hx, hB1, hcs1, hce, d2, d3, ev2, pl, pr, oe1, oe2, ok1, ok2⟩
    have B2 := HB.out.1.way ev2 hB1 (fun j hj => hce j (by omega))
    have c0' : cs1[i * 6]? = some (.bool lf) := (hce _ (.inl (by omega))).trans HJ.out.c0
    have c1' : cs1[i * 6 + 1]? = some (.int .u32 (N : Int)) := (hce _ (.inl (by omega))).trans HJ.out.c1
    have c4' : cs1[i * 6 + 4]? = some (.int .u32 (p : Int)) := (hce _ (.inr (by omega))).trans HJ.out.c4
    have oE : ∀ g', e.own g' → m ≤ g' ∧ g' < w2.heap.size ∧ ∃ cs, Blk w2 g' 37 cs := fun g' hg' => by
     have ho := ev2.own HB.out.2.re (fun b hb e3 => own_blk_ne HB.out.2.re (e3 ▸ HB.out.1.blk) (by decide) hb)
     have := World.ownsRow.lt ho g' hg'
     exact ⟨this.1, this.2, own_blk17 ho hg'⟩
    have oK : ∀ g', k.own g' → m ≤ g' ∧ g' < w2.heap.size ∧ ∃ cs, Blk w2 g' 30 cs := fun g' hg' => by
     by_cases hlf : lf = true
     · rw [HB.out.2.rz hlf] at hg'; exact (S110.own_ _ hg').elim
     · have hlf : lf = false := by simpa using hlf
       have ho := ev2.own (HB.out.2.rk hlf) (fun b hb e3 => own_blk_ne (HB.out.2.rk hlf) (e3 ▸ HB.out.1.blk) (by decide) hb)
       have := World.ownsRow.lt ho g' hg'
       exact ⟨this.1, this.2, own_blk17 ho hg'⟩
    obtain ⟨xs, xp, xq⟩ := x
    have H2 := Lib.hid (And.intro B2 (And.intro pl (And.intro pr (And.intro c0' (And.intro c1' (And.intro d2 (And.intro d3 c4')))))))
    have HO := Lib.hid (And.intro oE (And.intro oK (And.intro oe1 (And.intro oe2 (And.intro ok1 ok2)))))
    have HX := Lib.hid (And.intro hx (And.intro hrN hrl))
    clear B2 pl pr c0' c1' d2 d3 c4' oE oK oe1 oe2 ok1 ok2 hx hrl hB1 ev2 hce hrN
    simp only [En.agg]
    go_upto_region 8 with fail
    have hb3 := ball (ball (Below.refl w2.heap.size w2) (.cells #[.string xs, .int .u32 xp, .int .u16 xq] 37)) (.cells #[.bool lf, .int .u32 (rN : Int), rk.v, re.v] 75)
    have X10 := (Blk.new w2 37 #[.string xs, .int .u32 xp, .int .u16 xq]).alloc (.cells #[.bool lf, .int .u32 (rN : Int), rk.v, re.v] 75)
    have X11 := Blk.new (w2.alloc (.cells #[.string xs, .int .u32 xp, .int .u16 xq] 37)) 75 #[.bool lf, .int .u32 (rN : Int), rk.v, re.v]
    rw [alloc_size] at X11
    obtain ⟨W3, hW3⟩ : ∃ W3, (w2.alloc (.cells #[.string xs, .int .u32 xp, .int .u16 xq] 37)).alloc (.cells #[.bool lf, .int .u32 (rN : Int), rk.v, re.v] 75) = W3 := ⟨_, rfl⟩
    rw [hW3] at hb3 X10 X11 ⊢
    clear hW3
    have B3 := H2.out.1.below hb3
    have pl3 := H2.out.2.1.stays (EvT.of_below (O := fun _ => False) hb3) (fun _ _ e => e) (fun _ _ e => e)
    have pr3 := H2.out.2.2.1.stays (EvT.of_below (O := fun _ => False) hb3) (fun _ _ e => e) (fun _ _ e => e)
    have v0 : W3.cell? ⟨Bc, 0, none⟩ = some (.pointer (some ⟨g, 0, none⟩)) := B3.ch.blk.cell 0
    have TK := Lib.hid (takeF B3.dp (by omega))
    have hz2 := H2.out.1.zW
    have hz3 := hb3.size
    have HC := Lib.hid (And.intro B3 (And.intro pl3 (And.intro pr3 (And.intro X10 X11))))
    clear B3 pl3 pr3 X10 X11 hb3
    unfold RetTkF at TK
    cases hfr : freeI T with
    | none =>
      rw [hfr] at TK
      simp only at TK
      go_wp2_with fail
      refine TK.out.mono ?_
      rintro e3 w3 ⟨rfl, rfl⟩
      go_wp2_with fail
      go_ret2
      have he := HJ.out.eq
      rw [curSt, if_neg Hf.out, hfr] at he
      simp only at he
      rw [st_no] at he
      rw [← he]
      exact ⟨HC.out.1.dp, HC.out.1.lf, rfl⟩
    | some q =>
      rw [hfr] at TK
      simp only at TK
      have Hfr := Lib.hid hfr
      clear hfr
      go_wp2_with fail
      refine TK.out.mono ?_
      rintro e3 w4 ⟨rfl, dp4, lf4, ev4, hq⟩
      have B4 := HC.out.1.take lf4 ev4 dp4
      have hgm : gt < m := by have := HC.out.1.am; have := HC.out.1.dk; omega
      have hgz : gt < w2.heap.size := by have := HC.out.1.mz; omega
      have pl4 := HC.out.2.1.stays ev4 (fun ad h e => by have := (HO.out.1 _ (HO.out.2.2.1 ad h)).1; omega) (fun ad h e => by have := (HO.out.2.1 _ (HO.out.2.2.2.2.1 ad h)).1; omega)
      have pr4 := HC.out.2.2.1.stays ev4 (fun ad h e => by have := (HO.out.1 _ (HO.out.2.2.2.1 ad h)).1; omega) (fun ad h e => by have := (HO.out.2.1 _ (HO.out.2.2.2.2.2 ad h)).1; omega)
      have X10 := ev4.blk HC.out.2.2.2.1 (fun e => by omega)
      have X11 := ev4.blk HC.out.2.2.2.2 (fun e => by omega)
      have hz4 := ev4.size
      have u0 := cell66 B4.blk H2.out.2.2.2.1
      have u1 := cell66 B4.blk H2.out.2.2.2.2.1
      have f1 := B4.blk.frozen (i * 6 + 1)
      have m1 := B4.blk.lt
      have hq32 : q < 4294967296 := by omega
      have HD := Lib.hid (And.intro B4 (And.intro pl4 (And.intro pr4 (And.intro X10 X11))))
      clear B4 pl4 pr4 X10 X11 ev4 dp4 lf4 TK v0
      go_upto_if 63 with fail
      go_cut [] (fun wx => ∃ (N2 : Nat) (cs2 : Array Value), (lf = true → N2 = q) ∧ N2 < 4294967296 ∧ Blk wx Bw 77 cs2 ∧ (∀ j, j ≠ i * 6 + 1 → cs2[j]? = cs1[j]?) ∧ cs2[i * 6 + 1]? = some (.int .u32 (N2 : Int)) ∧ EvT (fun b => b = Bw) w4 wx)
      case first =>
       have HB4 := Lib.hid HD.out.1.blk
       have HC1 := Lib.hid H2.out.2.2.2.2.1
       have hN := Lib.hid HJ.out.ok.N
       clear HD H2 HX HO HC HB HJ FT SP Hfr Hf
       cases lf with
       | true =>
         go_wp2_with fail
         go_meet
         refine ⟨q, cs1.setIfInBounds (i * 6 + 1) (.int .u32 (q : Int)), fun _ => rfl, hq32, HB4.out.set_ _ _, fun j hj => Array.getElem?_setIfInBounds_ne (by omega), ?_, (EvT.refl (fun b => b = Bw) w4).store (p := ⟨Bw, i * 6 + 1, none⟩) (.inr rfl) _⟩
         have := (Array.getElem?_eq_some_iff.1 HC1.out).1
         rw [Array.getElem?_setIfInBounds_self_of_lt this]
       | false =>
         go_wp2_with fail
         go_meet
         exact ⟨N, cs1, fun e => (by cases e), hN.out, HB4.out, fun _ _ => rfl, HC1.out, EvT.refl _ _⟩
      case rest =>
       obtain ⟨N2, cs2, hN2, hN3, hB5, hc2, hc21, ev5⟩ := hcut
       rename World => w5
       have B5 := HD.out.1.way ev5 hB5 (fun j hj => hc2 j (by omega))
       have neB : ∀ g' t' cs', Blk w2 g' t' cs' → t' ≠ 77 → g' ≠ Bw := fun g' t' cs' hb ht => Blk.ne_ hb H2.out.1.blk ht
       have neE : ∀ g', e.own g' → g' ≠ Bw := fun g' h => by obtain ⟨_, _, cs', hb⟩ := HO.out.1 g' h; exact neB _ _ _ hb (by decide)
       have neK : ∀ g', k.own g' → g' ≠ Bw := fun g' h => by obtain ⟨_, _, cs', hb⟩ := HO.out.2.1 g' h; exact neB _ _ _ hb (by decide)
       have pl5 := HD.out.2.1.stays ev5 (fun ad h => neE _ (HO.out.2.2.1 ad h)) (fun ad h => neK _ (HO.out.2.2.2.2.1 ad h))
       have pr5 := HD.out.2.2.1.stays ev5 (fun ad h => neE _ (HO.out.2.2.2.1 ad h)) (fun ad h => neK _ (HO.out.2.2.2.2.2 ad h))
       have hbz : Bw < w2.heap.size := by have := H2.out.1.bw; omega
       have X10 := ev5.blk HD.out.2.2.2.1 (fun e => by omega)
       have X11 := ev5.blk HD.out.2.2.2.2 (fun e => by omega)
       have hz5 := ev5.size
       have x0 := cell66 B5.blk ((hc2 _ (by omega)).trans H2.out.2.2.2.1)
       have x1 := cell66 B5.blk hc21
       have x2 := cell66 B5.blk ((hc2 _ (by omega)).trans H2.out.2.2.2.2.2.1)
       have x3 := cell66 B5.blk ((hc2 _ (by omega)).trans H2.out.2.2.2.2.2.2.1)
       have x4 := cell66 B5.blk ((hc2 _ (by omega)).trans H2.out.2.2.2.2.2.2.2)
       have chE : ∀ g', e.own g' → ¬ (ChO Bc P Y g' ∨ w5.heap.size ≤ g') := fun g' h hh => by
        have := (HO.out.1 g' h).2.1
        rcases hh with hh | hh
        · obtain ⟨cs', hb⟩ := own_blk17 HJ.out.cur.re h
          exact HJ.out.b.ch.ne hb (by decide) (by decide) (by decide) hh
        · omega
       have chK : ∀ g', k.own g' → ¬ (ChO Bc P Y g' ∨ w5.heap.size ≤ g') := fun g' h hh => by
        have := (HO.out.2.1 g' h).2.1
        rcases hh with (hh | hh | hh) | hh
        · obtain ⟨cs', hb⟩ := (HO.out.2.1 g' h).2.2
          subst hh
          exact absurd (hb.ty H2.out.1.ch.blk) (by decide)
        · exact HJ.out.nk g' h hh
        · obtain ⟨cs', hb⟩ := (HO.out.2.1 g' h).2.2
          obtain ⟨ys, k1, _⟩ := H2.out.1.ch.by_
          exact own_blk_ne k1 hb (by decide) hh
        · omega
       have hS : Hid (∀ W, EvT (fun b => ChO Bc P Y b ∨ w5.heap.size ≤ b) w5 W → W.cell? ⟨Bw, i * 6, none⟩ = some (.bool lf) ∧ W.cell? ⟨Bw, i * 6 + 1, none⟩ = some (.int .u32 (N2 : Int)) ∧ W.cell? ⟨Bw, i * 6 + 2, none⟩ = some sk.v ∧ W.cell? ⟨Bw, i * 6 + 3, none⟩ = some se.v ∧ W.cell? ⟨Bw, i * 6 + 4, none⟩ = some (.int .u32 (p : Int)) ∧ W.cell? ⟨w2.heap.size + 1, 0, none⟩ = some (.bool lf) ∧ W.cell? ⟨w2.heap.size + 1, 1, none⟩ = some (.int .u32 (rN : Int)) ∧ W.cell? ⟨w2.heap.size + 1, 2, none⟩ = some rk.v ∧ W.cell? ⟨w2.heap.size + 1, 3, none⟩ = some re.v) := Lib.hid fun W hW => by
        have Y1 := hW.blk B5.blk (fun h => by
         rcases h with h | h
         · exact B5.ch.ne B5.blk (by decide) (by decide) (by decide) h
         · omega)
        have Y2 := hW.blk X11 (fun h => by
         rcases h with h | h
         · exact B5.ch.ne X11 (by decide) (by decide) (by decide) h
         · have := X11.lt; omega)
        exact ⟨cell66 Y1 ((hc2 _ (by omega)).trans H2.out.2.2.2.1), cell66 Y1 hc21, cell66 Y1 ((hc2 _ (by omega)).trans H2.out.2.2.2.2.2.1), cell66 Y1 ((hc2 _ (by omega)).trans H2.out.2.2.2.2.2.2.1), cell66 Y1 ((hc2 _ (by omega)).trans H2.out.2.2.2.2.2.2.2), Y2.cell 0, Y2.cell 1, Y2.cell 2, Y2.cell 3⟩
       obtain ⟨lk1, lk2, lk3, lk4⟩ := HJ.out.ok.left Hf.out
       obtain ⟨rk1, rk2, rk3, rk4⟩ := HJ.out.ok.right Hf.out
       have hwl := HJ.out.wl
       have PT1 := Lib.hid (show ∀ W, Below w5.heap.size w5 W → Calls Tryz.prog 65 #[.pointer (some ⟨Bc, 0, none⟩), .int .u32 (p : Int), .agg #[.bool lf, .int .u32 (N2 : Int), sk.v, se.v]] W (RetPut W z Bc g P Y (wr.map Prod.fst ++ [p]) (wr.map Prod.snd ++ [pgB lf N2 (kids.take (cutW lf l + 1)) (l.take (cutW lf l))])) from fun W hb => put_any (B5.below hb).ch (by rw [List.length_map]; omega) (by rw [List.length_map]; omega) (B5.below hb).zW p hN3 (pl5.stays (EvT.of_below (O := fun _ => False) hb) (fun _ _ e => e) (fun _ _ e => e)) lk1 lk2 lk3 lk4)
       have PT2 := Lib.hid (show ∀ W P1 Y1, EvT (fun b => ChO Bc P Y b ∨ w5.heap.size ≤ b) w5 W → ChS W z Bc g P1 Y1 (wr.map Prod.fst ++ [p]) (wr.map Prod.snd ++ [pgB lf N2 (kids.take (cutW lf l + 1)) (l.take (cutW lf l))]) → Calls Tryz.prog 65 #[.pointer (some ⟨Bc, 0, none⟩), .int .u32 (q : Int), .agg #[.bool lf, .int .u32 (rN : Int), rk.v, re.v]] W (RetPut W z Bc g P1 Y1 ((wr.map Prod.fst ++ [p]) ++ [q]) ((wr.map Prod.snd ++ [pgB lf N2 (kids.take (cutW lf l + 1)) (l.take (cutW lf l))]) ++ [pgB lf rN (kids.drop (cutW lf l + 1)) (l.drop (cutW lf l + gap lf))])) from fun W P1 Y1 hW hc => put_any hc (by rw [List.length_append, List.length_map, List.length_singleton]; omega) (by rw [List.length_append, List.length_map, List.length_singleton]; omega) (by have := B5.zW; have := hW.size; omega) q HX.out.2.1 (pr5.stays hW (fun ad h => chE _ (HO.out.2.2.2.1 ad h)) (fun ad h => chK _ (HO.out.2.2.2.2.2 ad h))) rk1 rk2 rk3 rk4)
       have OR := Lib.hid fun (W : World) => or2_any W
       have HE := Lib.hid (And.intro B5 (And.intro X10 X11))
       have HF := Lib.hid hc2
       have E50 : Hid (EvT (fun b => ChO Bc P Y b ∨ w5.heap.size ≤ b) w5 w5.drew) := Lib.hid (EvT.of_below (Below.drew (Below.refl _ _)))
       clear B5 neB neE neK pl5 pr5 X10 X11 chE chK lk1 lk2 lk3 lk4 rk1 rk2 rk3 rk4 hB5 hc2 hc21 ev5 u0 u1 f1 HD HC FT SP
       go_upto_region 13 with fail
       refine wp_region_held_drew (S := (fun W => W.cell? ⟨Bw, i * 6, none⟩ = some (.bool lf) ∧ W.cell? ⟨Bw, i * 6 + 1, none⟩ = some (.int .u32 (N2 : Int)) ∧ W.cell? ⟨Bw, i * 6 + 2, none⟩ = some sk.v ∧ W.cell? ⟨Bw, i * 6 + 3, none⟩ = some se.v ∧ W.cell? ⟨Bw, i * 6 + 4, none⟩ = some (.int .u32 (p : Int)) ∧ W.cell? ⟨w2.heap.size + 1, 0, none⟩ = some (.bool lf) ∧ W.cell? ⟨w2.heap.size + 1, 1, none⟩ = some (.int .u32 (rN : Int)) ∧ W.cell? ⟨w2.heap.size + 1, 2, none⟩ = some rk.v ∧ W.cell? ⟨w2.heap.size + 1, 3, none⟩ = some re.v)) (by kernel_rfl) (by exact hS.out _ E50.out) (fun hHeld => ?_)
       try dsimp only at hHeld
       refine zt 0 ?_ rfl (by kernel_rfl) (fun _ _ _ h => h) ⟨rfl, ?_⟩ hHeld ?_
       rotate_left
       focus (intro wx hSw; (try dsimp only at hSw); (try go_split_ands); go_simp; (try with_reducible rfl))
       try simp only [Act.put, za1, za2, za3, za4, za5, za6]
       refine zt 1 ?_ rfl (by kernel_rfl) (fun _ _ _ h => h) ⟨rfl, ?_⟩ hHeld ?_
       rotate_left
       focus (intro wx hSw; (try dsimp only at hSw); (try go_split_ands); go_simp; (try with_reducible rfl))
       try simp only [Act.put, za1, za2, za3, za4, za5, za6]
       refine zt 2 ?_ rfl (by kernel_rfl) (fun _ _ _ h => h) ⟨rfl, ?_⟩ hHeld ?_
       rotate_left
       focus (intro wx hSw; (try dsimp only at hSw); (try go_split_ands); go_simp; (try with_reducible rfl))
       try simp only [Act.put, za1, za2, za3, za4, za5, za6]
       refine zt 3 ?_ rfl (by kernel_rfl) (fun _ _ _ h => h) ⟨rfl, ?_⟩ hHeld ?_
       rotate_left
       focus (intro wx hSw; (try dsimp only at hSw); (try go_split_ands); go_simp; (try with_reducible rfl))
       try simp only [Act.put, za1, za2, za3, za4, za5, za6]
       refine zt 4 ?_ rfl (by kernel_rfl) (fun _ _ _ h => h) ⟨rfl, ?_⟩ hHeld ?_
       rotate_left
       focus (intro wx hSw; (try dsimp only at hSw); (try go_split_ands); go_simp; (try with_reducible rfl))
       try simp only [Act.put, za1, za2, za3, za4, za5, za6]
       refine zt 5 ?_ rfl (by kernel_rfl) (fun _ _ _ h => h) ⟨rfl, ?_⟩ hHeld ?_
       rotate_left
       focus (intro wx hSw; (try dsimp only at hSw); (try go_split_ands); go_simp; (try with_reducible rfl))
       try simp only [Act.put, za1, za2, za3, za4, za5, za6]
       refine zt 6 ?_ rfl (by kernel_rfl) (fun _ _ _ h => h) ⟨rfl, ?_⟩ hHeld ?_
       rotate_left
       focus (intro wx hSw; (try dsimp only at hSw); (try go_split_ands); go_simp; (try with_reducible rfl))
       try simp only [Act.put, za1, za2, za3, za4, za5, za6]
       refine zt 7 ?_ rfl (by kernel_rfl) (fun _ _ _ h => h) ⟨rfl, ?_⟩ hHeld ?_
       rotate_left
       focus (intro wx hSw; (try dsimp only at hSw); (try go_split_ands); go_simp; (try with_reducible rfl))
       try simp only [Act.put, za1, za2, za3, za4, za5, za6]
       refine zt 8 ?_ rfl (by kernel_rfl) (fun _ _ _ h => h) ⟨rfl, ?_⟩ hHeld ?_
       rotate_left
       focus (intro wx hSw; (try dsimp only at hSw); (try go_split_ands); go_simp; (try with_reducible rfl))
       try simp only [Act.put, za1, za2, za3, za4, za5, za6]
       refine zt 10 ?_ rfl (by kernel_rfl) (fun _ _ _ h => h) ⟨rfl, ?_⟩ hHeld ?_
       rotate_left
       focus (intro wx hSw; (try dsimp only at hSw); (try go_split_ands); go_simp; (try with_reducible rfl))
       try simp only [Act.put, za1, za2, za3, za4, za5, za6]
       refine zt 11 ?_ rfl (by kernel_rfl) (fun _ _ _ h => h) ⟨rfl, ?_⟩ hHeld ?_
       rotate_left
       focus (intro wx hSw; (try dsimp only at hSw); (try go_split_ands); go_simp; (try with_reducible rfl))
       try simp only [Act.put, za1, za2, za3, za4, za5, za6]
       refine zt 12 ?_ rfl (by kernel_rfl) (fun _ _ _ h => h) ⟨rfl, ?_⟩ hHeld ?_
       rotate_left
       focus (intro wx hSw; (try dsimp only at hSw); (try go_split_ands); go_simp; (try with_reducible rfl))
       try simp only [Act.put, za1, za2, za3, za4, za5, za6]
       refine wpAnyH_ready (rs := [9]) (by kernel_rfl) (by simp) (AllReadyH.cons rfl (fun K hK => ?_) AllReadyH.nil)
       go_simp
       refine (PT1.out _ (Below.drew (Below.refl _ _))).mono ?_; rintro e6 w6 ⟨P1, Y1, rfl, ch6, ev6, ne6⟩; have E6 : Hid (EvT (fun b => ChO Bc P Y b ∨ w5.heap.size ≤ b) w5 w6) := Lib.hid (E50.out.trans ev6 (fun b e => .inl (.inl e))); have H6 := Lib.hid (And.intro ch6 ne6); clear ch6 ev6 ne6
       go_wp2_with fail
       refine hK.out _ _ ?_ (fun hHeld => ?_)
       · ((try dsimp only); (try dsimp only at hHeld); (first | exact hS.out _ E8.out | exact hS.out _ E7.out | exact hS.out _ E6.out))
       clear hK K
       try dsimp only at hHeld
       try simp only [Act.put, za1, za2, za3, za4, za5, za6]
       refine wpAnyH_ready (rs := [13]) (by kernel_rfl) (by simp) (AllReadyH.cons rfl (fun K hK => ?_) AllReadyH.nil)
       go_simp
       refine (PT2.out _ P1 Y1 E6.out H6.out.1).mono ?_; rintro e7 w7 ⟨P2, Y2, rfl, ch7, ev7, ne7⟩; have E7 : Hid (EvT (fun b => ChO Bc P Y b ∨ w5.heap.size ≤ b) w5 w7) := Lib.hid (E6.out.trans ev7 (fun b e => .inl ((H6.out.2 b e).imp id (fun k => by have := E50.out.size; omega)))); have E8 : Hid (EvT (fun b => ChO Bc P Y b ∨ w5.heap.size ≤ b) w5 (w7.alloc (.cells #[.int .i64 0, .int .i64 0] 27))) := Lib.hid (E7.out.trans (O' := fun _ => False) (EvT.of_below (ball (Below.refl _ _) _)) (fun b e => e.elim)); have H7 := Lib.hid (And.intro ch7 (show ∀ b, ChO Bc P2 Y2 b → ChO Bc P Y b ∨ w5.heap.size ≤ b from fun b e => (ne7 b e).elim (fun k => H6.out.2 b k) (fun k => .inr (by have := E6.out.size; omega)))); clear ch7 ev7 ne7
       go_wp2_with fail
       refine hK.out _ _ ?_ (fun hHeld => ?_)
       · ((try dsimp only); (try dsimp only at hHeld); (first | exact hS.out _ E8.out | exact hS.out _ E7.out | exact hS.out _ E6.out))
       clear hK K
       try dsimp only at hHeld
       try simp only [Act.put, za1, za2, za3, za4, za5, za6]
       refine wpAnyH_ready (rs := [14]) (by kernel_rfl) (by simp) (AllReadyH.cons rfl (fun K hK => ?_) AllReadyH.nil)
       go_simp
       refine hK.out _ _ ?_ (fun hHeld => ?_)
       · ((try dsimp only); (try dsimp only at hHeld); (first | exact hS.out _ E8.out | exact hS.out _ E7.out | exact hS.out _ E6.out))
       clear hK K
       try dsimp only at hHeld
       try simp only [Act.put, za1, za2, za3, za4, za5, za6]
       refine wpAnyH_ready (rs := [15]) (by kernel_rfl) (by simp) (AllReadyH.cons rfl (fun K hK => ?_) AllReadyH.nil)
       go_simp
       refine (OR.out w7).mono ?_; rintro e8 w8 ⟨rfl, rfl⟩
       go_wp2_with fail
       refine hK.out _ _ ?_ (fun hHeld => ?_)
       · ((try dsimp only); (try dsimp only at hHeld); (first | exact hS.out _ E8.out | exact hS.out _ E7.out | exact hS.out _ E6.out))
       clear hK K
       try dsimp only at hHeld
       try simp only [Act.put, za1, za2, za3, za4, za5, za6]
       refine zt 16 ?_ rfl (by kernel_rfl) (fun _ _ _ h => h) ⟨rfl, ?_⟩ hHeld ?_
       rotate_left
       focus (intro wx hSw; (try dsimp only at hSw); (try go_split_ands); go_simp; (try with_reducible rfl))
       try simp only [Act.put, za1, za2, za3, za4, za5, za6]
       refine wpAnyH_done (by kernel_rfl) ?_ _
       have hx := HX.out.1
       have hpg1 := pgB_eq hN2 (kids.take (cutW lf l + 1)) (l.take (cutW lf l))
       have hpg2 := pgB_eq HX.out.2.2 (kids.drop (cutW lf l + 1)) (l.drop (cutW lf l + gap lf))
       have hw5' : ∀ qq ∈ wr ++ [(p, pgB lf q (kids.take (cutW lf l + 1)) (l.take (cutW lf l))), (q, pgB lf N (kids.drop (cutW lf l + 1)) (l.drop (cutW lf l + gap lf)))], qq.2.length = 512 := fun qq hqq => by
        have L := HJ.out.ok.left Hf.out
        have R := HJ.out.ok.right Hf.out
        rcases List.mem_append.1 hqq with h | h
        · exact HJ.out.w5 qq h
        · simp only [List.mem_cons, List.not_mem_nil, or_false] at h
          rcases h with rfl | rfl
          · exact pgB_len L.2.2.1 fun e => (L.2.2.2 e).1
          · exact pgB_len R.2.2.1 fun e => (R.2.2.2 e).1
       have hso := HJ.out.so
       have he := HJ.out.eq
       have hcu : curSt lf wr p N kids l T = .up (wr ++ [(p, pgB lf q (kids.take (cutW lf l + 1)) (l.take (cutW lf l))), (q, pgB lf N (kids.drop (cutW lf l + 1)) (l.drop (cutW lf l + gap lf)))]) (T.set q true) ⟨xs, xp, xq⟩ q := by rw [curSt, if_neg Hf.out, Hfr.out, ← hx]
       rw [hcu] at hso he
       have ch8 := H7.out.1.stays (EvT.of_below (O := fun _ => False) (ball (Below.refl w7.heap.size w7) (.cells #[.int .i64 0, .int .i64 0] 27))) (fun _ e => e.elim) (by have := E7.out.size; have := HE.out.1.zW; omega)
       rw [hpg1, hpg2, show (wr.map Prod.fst ++ [p]) ++ [q] = (wr ++ [(p, pgB lf q (kids.take (cutW lf l + 1)) (l.take (cutW lf l))), (q, pgB lf N (kids.drop (cutW lf l + 1)) (l.drop (cutW lf l + gap lf)))]).map Prod.fst from by simp, show (wr.map Prod.snd ++ [pgB lf q (kids.take (cutW lf l + 1)) (l.take (cutW lf l))]) ++ [pgB lf N (kids.drop (cutW lf l + 1)) (l.drop (cutW lf l + gap lf))] = (wr ++ [(p, pgB lf q (kids.take (cutW lf l + 1)) (l.take (cutW lf l))), (q, pgB lf N (kids.drop (cutW lf l + 1)) (l.drop (cutW lf l + gap lf)))]).map Prod.snd from by simp] at ch8
       have B8 := HE.out.1.put (E8.out.mono (fun b e => e)) ch8
       have X10 := E8.out.blk HE.out.2.1 (fun h => by
        rcases h with h | h
        · exact HE.out.1.ch.ne HE.out.2.1 (by decide) (by decide) (by decide) h
        · have := HE.out.2.1.lt; omega)
       have hwl2 : (wr ++ [(p, pgB lf q (kids.take (cutW lf l + 1)) (l.take (cutW lf l))), (q, pgB lf N (kids.drop (cutW lf l + 1)) (l.drop (cutW lf l + gap lf)))]).length + 2 * i ≤ 32 := by rw [List.length_append]; simp only [List.length_cons, List.length_nil]; omega
       have hz8 := E8.out.size
       have hxok := HJ.out.ok.sep Hf.out
       rw [hx] at hxok
       have htp := HJ.out.tp
       have hpn := HJ.out.pn
       have hc4 : cs2[i * 6 + 4]? = some (.int .u32 (p : Int)) := (HF.out _ (by omega)).trans H2.out.2.2.2.2.2.2.2
       clear hpg1 hpg2 hcu hx ch8 E50 E6 E7 E8 H6 H7 OR PT1 PT2 hS HE x0 x1 x2 x3 x4
       obtain ⟨wr2, hwr2⟩ : ∃ x, wr ++ [(p, pgB lf q (kids.take (cutW lf l + 1)) (l.take (cutW lf l))), (q, pgB lf N (kids.drop (cutW lf l + 1)) (l.drop (cutW lf l + gap lf)))] = x := ⟨_, rfl⟩
       obtain ⟨w8, hw8⟩ : ∃ x, w7.alloc (.cells #[.int .i64 0, .int .i64 0] 27) = x := ⟨_, rfl⟩
       rw [hwr2] at hw5' hso he B8 hwl2
       rw [hw8] at B8 X10 hz8 ⊢
       clear hwr2 hw8
       have HG := Lib.hid (And.intro B8 (And.intro X10 (And.intro hw5' (And.intro hso (And.intro he (And.intro hwl2 (And.intro hxok (And.intro htp (And.intro hpn hc4)))))))))
       have hbw8 := B8.blk.lt
       clear B8 X10 hw5' hso he hwl2 hxok htp hpn hc4 HF
       by_cases hi : i = 0
       ·
        have hid0 : decide ((0 : Int) < (i : Int)) = false := by simp; omega
        have hid1 : decide (0 < i) = false := by simp; omega
        have Hi := Lib.hid hi
        clear hi
        have hfs : fs = [] := by
         have h1 := HG.out.1.wy.len
         have h2 := HG.out.1.ssl
         rw [Hi.out] at h2
         cases fs with
         | nil => rfl
         | cons a r => rw [List.length_cons] at h1; omega
        have he := HG.out.2.2.2.2.1
        rw [hfs] at he
        have he : .up wr2 (T.set q true) ⟨xs, xp, xq⟩ q = st := he
        have htp := HG.out.2.2.2.2.2.2.2.1
        rw [hfs] at htp
        have htp : p = root := htp
        subst he
        subst htp
        have v0 : w8.cell? ⟨Bc, 0, none⟩ = some (.pointer (some ⟨g, 0, none⟩)) := HG.out.1.ch.blk.cell 0
        have hlc := HG.out.1.ch.blk.lt
        by_cases h12 : way = 12
        · have hw12 : ((way : Int) == 12) = true := by simp; omega
          have H12 := Lib.hid h12
          clear h12
          go_wp2_with fail
          go_ret2
          unfold RetSet
          rw [setR_up12 H12.out]
          exact ⟨HG.out.1.dp, HG.out.1.lf, rfl⟩
        · have hw12 : ((way : Int) == 12) = false := by simp; omega
          have H12 := Lib.hid h12
          clear h12
          have TK := Lib.hid (takeF HG.out.1.dp (by omega))
          unfold RetTkF at TK
          cases hfr2 : freeI (T.set q true) with
          | none =>
            rw [hfr2] at TK
            simp only at TK
            have Hfr2 := Lib.hid hfr2
            clear hfr2
            go_wp2_with fail
            refine TK.out.mono ?_
            rintro e9 w9 ⟨rfl, rfl⟩
            go_wp2_with fail
            go_ret2
            unfold RetSet
            rw [setR_upN H12.out Hfr2.out]
            exact ⟨HG.out.1.dp, HG.out.1.lf, rfl⟩
          | some r =>
            rw [hfr2] at TK
            simp only at TK
            have Hfr2 := Lib.hid hfr2
            clear hfr2
            go_wp2_with fail
            refine TK.out.mono ?_
            rintro e9 w9 ⟨rfl, dp9, lf9, ev9, hr⟩
            have B9 := HG.out.1.take lf9 ev9 dp9
            have X19 := ev9.blk HG.out.2.1 (fun e => by have := HG.out.1.dk; have := HG.out.1.am; have := HG.out.1.mz; omega)
            have hz9 := ev9.size
            have hr32 : r < 4294967296 := by omega
            have PTR := Lib.hid (show ∀ W kb eb, Below w9.heap.size w9 W → Blk W kb 30 #[.int .u32 (p : Int), .int .u32 (q : Int)] → Blk W eb 37 #[.string xs, .int .u32 xp, .int .u16 xq] → Calls Tryz.prog 65 #[.pointer (some ⟨Bc, 0, none⟩), .int .u32 (r : Int), .agg #[.bool false, .int .u32 0, .slice (some ⟨kb, 0, none⟩) 2 2, .slice (some ⟨eb, 0, none⟩) 1 1]] W (RetPut W z Bc g P2 Y2 (wr2.map Prod.fst ++ [r]) (wr2.map Prod.snd ++ [kidL [p, q] [⟨xs, xp, xq⟩]])) from fun W kb eb hb hk he => put_root (B9.below hb).ch (by rw [List.length_map]; have := HG.out.2.2.2.2.2.1; omega) (by rw [List.length_map]; have := HG.out.2.2.2.2.2.1; omega) (B9.below hb).zW r hk he HG.out.2.2.2.2.2.2.1.1 HG.out.2.2.2.2.2.2.1.2 HG.out.2.2.2.2.2.2.2.2.1 hq32)
            have y4 := cell66 B9.blk HG.out.2.2.2.2.2.2.2.2.2
            have KS := Lib.hid (show ∀ W, Below w9.heap.size w9 W → W.cell? ⟨Bw, i * 6 + 4, none⟩ = some (.int .u32 (p : Int)) ∧ W.cell? ⟨w2.heap.size, 0, none⟩ = some (.string xs) ∧ W.cell? ⟨w2.heap.size, 1, none⟩ = some (.int .u32 xp) ∧ W.cell? ⟨w2.heap.size, 2, none⟩ = some (.int .u16 xq) from fun W hb => by
             have b1 := B9.blk.below hb B9.blk.lt
             have b2 := X19.below hb X19.lt
             exact ⟨cell66 b1 HG.out.2.2.2.2.2.2.2.2.2, b2.cell 0, b2.cell 1, b2.cell 2⟩)
            have HP9 := Lib.hid (And.intro B9 X19)
            clear B9 X19 ev9 dp9 lf9 TK v0 y4
            go_upto_region 25 with fail
            refine wp_region_held_drew (S := (fun W => W.cell? ⟨Bw, i * 6 + 4, none⟩ = some (.int .u32 (p : Int)) ∧ W.cell? ⟨w2.heap.size, 0, none⟩ = some (.string xs) ∧ W.cell? ⟨w2.heap.size, 1, none⟩ = some (.int .u32 xp) ∧ W.cell? ⟨w2.heap.size, 2, none⟩ = some (.int .u16 xq))) (by kernel_rfl) (by exact KS.out _ (Below.drew (Below.refl _ _))) (fun hHeld => ?_)
            try dsimp only at hHeld
            refine zt 0 ?_ rfl (by kernel_rfl) (fun _ _ _ h => h) ⟨rfl, ?_⟩ hHeld ?_
            rotate_left
            focus (intro wx hSw; (try dsimp only at hSw); (try go_split_ands); go_simp; (try with_reducible rfl))
            try simp only [Act.put, za1, za2, za3, za4, za5, za6]
            refine zt 1 ?_ rfl (by kernel_rfl) (fun _ _ _ h => h) ⟨rfl, ?_⟩ hHeld ?_
            rotate_left
            focus (intro wx hSw; (try dsimp only at hSw); (try go_split_ands); go_simp; (try with_reducible rfl))
            try simp only [Act.put, za1, za2, za3, za4, za5, za6]
            refine zt 2 ?_ rfl (by kernel_rfl) (fun _ _ _ h => h) ⟨rfl, ?_⟩ hHeld ?_
            rotate_left
            focus (intro wx hSw; (try dsimp only at hSw); (try go_split_ands); go_simp; (try with_reducible rfl))
            try simp only [Act.put, za1, za2, za3, za4, za5, za6]
            refine zt 3 ?_ rfl (by kernel_rfl) (fun _ _ _ h => h) ⟨rfl, ?_⟩ hHeld ?_
            rotate_left
            focus (intro wx hSw; (try dsimp only at hSw); (try go_split_ands); go_simp; (try with_reducible rfl))
            try simp only [Act.put, za1, za2, za3, za4, za5, za6]
            refine zt 4 ?_ rfl (by kernel_rfl) (fun _ _ _ h => h) ⟨rfl, ?_⟩ hHeld ?_
            rotate_left
            focus (intro wx hSw; (try dsimp only at hSw); (try go_split_ands); go_simp; (try with_reducible rfl))
            try simp only [Act.put, za1, za2, za3, za4, za5, za6]
            refine zt 5 ?_ rfl (by kernel_rfl) (fun _ _ _ h => h) ⟨rfl, ?_⟩ hHeld ?_
            rotate_left
            focus (intro wx hSw; (try dsimp only at hSw); (try go_split_ands); go_simp; (try with_reducible rfl))
            try simp only [Act.put, za1, za2, za3, za4, za5, za6]
            refine zt 6 ?_ rfl (by kernel_rfl) (fun _ _ _ h => h) ⟨rfl, ?_⟩ hHeld ?_
            rotate_left
            focus (intro wx hSw; (try dsimp only at hSw); (try go_split_ands); go_simp; (try with_reducible rfl))
            try simp only [Act.put, za1, za2, za3, za4, za5, za6]
            refine zt 7 ?_ rfl (by kernel_rfl) (fun _ _ _ h => h) ⟨rfl, ?_⟩ hHeld ?_
            rotate_left
            focus (intro wx hSw; (try dsimp only at hSw); (try go_split_ands); go_simp; (try with_reducible rfl))
            try simp only [Act.put, za1, za2, za3, za4, za5, za6]
            refine zt 9 ?_ rfl (by kernel_rfl) (fun _ _ _ h => h) ⟨rfl, ?_⟩ hHeld ?_
            rotate_left
            focus (intro wx hSw; (try dsimp only at hSw); (try go_split_ands); go_simp; (try with_reducible rfl))
            try simp only [Act.put, za1, za2, za3, za4, za5, za6]
            refine wpAnyH_ready (rs := [8, 10]) (by kernel_rfl) (by simp) (AllReadyH.cons rfl (fun K hK => ?_) (AllReadyH.cons rfl (fun K hK => ?_) AllReadyH.nil))
            · go_simp
              refine hK.out _ _ ?_ (fun hHeld => ?_)
              · ((try dsimp only); (try dsimp only at hHeld); exact KS.out _ (by with_reducible repeat (first | exact Below.refl _ _ | refine bdr ?_ _ | refine Below.drew ?_ | refine ball ?_ _)))
              clear hK K
              try dsimp only at hHeld
              try simp only [Act.put, za1, za2, za3, za4, za5, za6]
              refine wpAnyH_ready (rs := [10]) (by kernel_rfl) (by simp) (AllReadyH.cons rfl (fun K hK => ?_) AllReadyH.nil)
              go_simp
              refine hK.out _ _ ?_ (fun hHeld => ?_)
              · ((try dsimp only); (try dsimp only at hHeld); exact KS.out _ (by with_reducible repeat (first | exact Below.refl _ _ | refine bdr ?_ _ | refine Below.drew ?_ | refine ball ?_ _)))
              clear hK K
              try dsimp only at hHeld
              try simp only [Act.put, za1, za2, za3, za4, za5, za6]
              refine zt 11 ?_ rfl (by kernel_rfl) (fun _ _ _ h => h) ⟨rfl, ?_⟩ hHeld ?_
              rotate_left
              focus (intro wx hSw; (try dsimp only at hSw); (try go_split_ands); go_simp; (try with_reducible rfl))
              try simp only [Act.put, za1, za2, za3, za4, za5, za6]
              refine wpAnyH_ready (rs := [12]) (by kernel_rfl) (by simp) (AllReadyH.cons rfl (fun K hK => ?_) AllReadyH.nil)
              go_simp
              have PW := Lib.hid (PTR.out ((w9.drew.alloc (.cells #[.int .u32 (p : Int), .int .u32 (q : Int)] 30)).alloc (.cells #[.string xs, .int .u32 xp, .int .u16 xq] 37)) (w9.heap.size) (w9.heap.size + 1) (ball (ball (Below.drew (Below.refl _ _)) _) _) ((Blk.new w9.drew _ _).alloc _) (by have := Blk.new (w9.drew.alloc (.cells #[.int .u32 (p : Int), .int .u32 (q : Int)] 30)) 37 #[.string xs, .int .u32 xp, .int .u16 xq]; rw [alloc_size] at this; exact this))
              refine PW.out.mono ?_
              rintro e10 w10 ⟨P3, Y3, rfl, ch10, ev10, ne10⟩
              have E10 : Hid (EvT (ChO Bc P2 Y2) w9 w10) := Lib.hid ((EvT.of_below (O := ChO Bc P2 Y2) (ball (ball (Below.drew (Below.refl w9.heap.size w9)) (.cells #[.int .u32 (p : Int), .int .u32 (q : Int)] 30)) (.cells #[.string xs, .int .u32 xp, .int .u16 xq] 37))).trans ev10 (fun b e => .inl e))
              have KS10 := Lib.hid (And.intro (cell66 (E10.out.blk HP9.out.1.blk (HP9.out.1.ch.ne HP9.out.1.blk (by decide) (by decide) (by decide))) HG.out.2.2.2.2.2.2.2.2.2) (have b2 := E10.out.blk HP9.out.2 (HP9.out.1.ch.ne HP9.out.2 (by decide) (by decide) (by decide)); And.intro (b2.cell 0) (And.intro (b2.cell 1) (b2.cell 2))))
              have C10 := Lib.hid ch10
              clear ch10 ev10 ne10
              go_wp2_with fail
              refine hK.out _ _ ?_ (fun hHeld => ?_)
              · ((try dsimp only); (try dsimp only at hHeld); exact KS10.out)
              clear hK K
              try dsimp only at hHeld
              try simp only [Act.put, za1, za2, za3, za4, za5, za6]
              refine zt 13 ?_ rfl (by kernel_rfl) (fun _ _ _ h => h) ⟨rfl, ?_⟩ hHeld ?_
              rotate_left
              focus (intro wx hSw; (try dsimp only at hSw); (try go_split_ands); go_simp; (try with_reducible rfl))
              try simp only [Act.put, za1, za2, za3, za4, za5, za6]
              refine zt 14 ?_ rfl (by kernel_rfl) (fun _ _ _ h => h) ⟨rfl, ?_⟩ hHeld ?_
              rotate_left
              focus (intro wx hSw; (try dsimp only at hSw); (try go_split_ands); go_simp; (try with_reducible rfl))
              try simp only [Act.put, za1, za2, za3, za4, za5, za6]
              refine wpAnyH_done (by kernel_rfl) ?_ _
              go_wp2_with fail
              go_ret2
              have ch10 := C10.out
              rw [← map_fst_snoc wr2 r (kidL [p, q] [⟨xs, xp, xq⟩]), ← map_snd_snoc wr2 r (kidL [p, q] [⟨xs, xp, xq⟩])] at ch10
              have B10 := HP9.out.1.put E10.out ch10
              unfold RetSet
              rw [setR_upS H12.out Hfr2.out]
              refine ⟨B10.dp, B10.lf, rfl, ⟨P3, Y3, B10.ch⟩, fun qq hqq => ?_, ?_⟩
              · rcases List.mem_append.1 hqq with h | h
                · exact HG.out.2.2.1 qq h
                · rw [List.mem_singleton] at h
                  rw [h]
                  have : xs.size ≤ 200 := HG.out.2.2.2.2.2.2.1.2
                  exact kidL_len (by simp [sumE]; omega) rfl
              · rw [List.length_append, List.length_singleton]
                have := HG.out.2.2.2.2.2.1
                omega
            · go_simp
              refine hK.out _ _ ?_ (fun hHeld => ?_)
              · ((try dsimp only); (try dsimp only at hHeld); exact KS.out _ (by with_reducible repeat (first | exact Below.refl _ _ | refine bdr ?_ _ | refine Below.drew ?_ | refine ball ?_ _)))
              clear hK K
              try dsimp only at hHeld
              try simp only [Act.put, za1, za2, za3, za4, za5, za6]
              refine wpAnyH_ready (rs := [8]) (by kernel_rfl) (by simp) (AllReadyH.cons rfl (fun K hK => ?_) AllReadyH.nil)
              go_simp
              refine hK.out _ _ ?_ (fun hHeld => ?_)
              · ((try dsimp only); (try dsimp only at hHeld); exact KS.out _ (by with_reducible repeat (first | exact Below.refl _ _ | refine bdr ?_ _ | refine Below.drew ?_ | refine ball ?_ _)))
              clear hK K
              try dsimp only at hHeld
              try simp only [Act.put, za1, za2, za3, za4, za5, za6]
              refine zt 11 ?_ rfl (by kernel_rfl) (fun _ _ _ h => h) ⟨rfl, ?_⟩ hHeld ?_
              rotate_left
              focus (intro wx hSw; (try dsimp only at hSw); (try go_split_ands); go_simp; (try with_reducible rfl))
              try simp only [Act.put, za1, za2, za3, za4, za5, za6]
              refine wpAnyH_ready (rs := [12]) (by kernel_rfl) (by simp) (AllReadyH.cons rfl (fun K hK => ?_) AllReadyH.nil)
              go_simp
              have PW := Lib.hid (PTR.out ((w9.drew.alloc (.cells #[.string xs, .int .u32 xp, .int .u16 xq] 37)).alloc (.cells #[.int .u32 (p : Int), .int .u32 (q : Int)] 30)) (w9.heap.size + 1) (w9.heap.size) (ball (ball (Below.drew (Below.refl _ _)) _) _) (by have := Blk.new (w9.drew.alloc (.cells #[.string xs, .int .u32 xp, .int .u16 xq] 37)) 30 #[.int .u32 (p : Int), .int .u32 (q : Int)]; rw [alloc_size] at this; exact this) ((Blk.new w9.drew _ _).alloc _))
              refine PW.out.mono ?_
              rintro e10 w10 ⟨P3, Y3, rfl, ch10, ev10, ne10⟩
              have E10 : Hid (EvT (ChO Bc P2 Y2) w9 w10) := Lib.hid ((EvT.of_below (O := ChO Bc P2 Y2) (ball (ball (Below.drew (Below.refl w9.heap.size w9)) (.cells #[.string xs, .int .u32 xp, .int .u16 xq] 37)) (.cells #[.int .u32 (p : Int), .int .u32 (q : Int)] 30))).trans ev10 (fun b e => .inl e))
              have KS10 := Lib.hid (And.intro (cell66 (E10.out.blk HP9.out.1.blk (HP9.out.1.ch.ne HP9.out.1.blk (by decide) (by decide) (by decide))) HG.out.2.2.2.2.2.2.2.2.2) (have b2 := E10.out.blk HP9.out.2 (HP9.out.1.ch.ne HP9.out.2 (by decide) (by decide) (by decide)); And.intro (b2.cell 0) (And.intro (b2.cell 1) (b2.cell 2))))
              have C10 := Lib.hid ch10
              clear ch10 ev10 ne10
              go_wp2_with fail
              refine hK.out _ _ ?_ (fun hHeld => ?_)
              · ((try dsimp only); (try dsimp only at hHeld); exact KS10.out)
              clear hK K
              try dsimp only at hHeld
              try simp only [Act.put, za1, za2, za3, za4, za5, za6]
              refine zt 13 ?_ rfl (by kernel_rfl) (fun _ _ _ h => h) ⟨rfl, ?_⟩ hHeld ?_
              rotate_left
              focus (intro wx hSw; (try dsimp only at hSw); (try go_split_ands); go_simp; (try with_reducible rfl))
              try simp only [Act.put, za1, za2, za3, za4, za5, za6]
              refine zt 14 ?_ rfl (by kernel_rfl) (fun _ _ _ h => h) ⟨rfl, ?_⟩ hHeld ?_
              rotate_left
              focus (intro wx hSw; (try dsimp only at hSw); (try go_split_ands); go_simp; (try with_reducible rfl))
              try simp only [Act.put, za1, za2, za3, za4, za5, za6]
              refine wpAnyH_done (by kernel_rfl) ?_ _
              go_wp2_with fail
              go_ret2
              have ch10 := C10.out
              rw [← map_fst_snoc wr2 r (kidL [p, q] [⟨xs, xp, xq⟩]), ← map_snd_snoc wr2 r (kidL [p, q] [⟨xs, xp, xq⟩])] at ch10
              have B10 := HP9.out.1.put E10.out ch10
              unfold RetSet
              rw [setR_upS H12.out Hfr2.out]
              refine ⟨B10.dp, B10.lf, rfl, ⟨P3, Y3, B10.ch⟩, fun qq hqq => ?_, ?_⟩
              · rcases List.mem_append.1 hqq with h | h
                · exact HG.out.2.2.1 qq h
                · rw [List.mem_singleton] at h
                  rw [h]
                  have : xs.size ≤ 200 := HG.out.2.2.2.2.2.2.1.2
                  exact kidL_len (by simp [sumE]; omega) rfl
              · rw [List.length_append, List.length_singleton]
                have := HG.out.2.2.2.2.2.1
                omega
       ·
        obtain ⟨i', hi'⟩ : ∃ i', i = i' + 1 := ⟨i - 1, by omega⟩
        have hid0 : decide ((0 : Int) < (i : Int)) = true := by simp; omega
        have hid1 : decide (0 < i) = true := by simp; omega
        have hi1 : (i : Int) - 1 = (i' : Int) := by omega
        have g0 : (0 : Int) ≤ (i' : Int) := by omega
        have g1 : (i' : Int) < (way : Int) := by omega
        obtain ⟨s, ss', hss⟩ : ∃ s ss', ss = s :: ss' := by
         cases ss with
         | nil => have := HG.out.1.ssl; rw [List.length_nil] at this; omega
         | cons a r => exact ⟨a, r, rfl⟩
        obtain ⟨f, fs', hfs⟩ : ∃ f fs', fs = f :: fs' := by
         cases fs with
         | nil => have := HG.out.1.wy.len; rw [hss] at this; simp at this
         | cons a r => exact ⟨a, r, rfl⟩
        subst hss
        subst hfs
        obtain ⟨m', BP, SI, hso, hsc⟩ := HG.out.1.pop hi'
        obtain ⟨sp1, sp2, sp3⟩ := HG.out.2.2.2.1
        obtain ⟨sq1, sq2, sq3⟩ := sp2 _ _ _ _ rfl
        have Hi := Lib.hid (And.intro hi hi')
        clear hi hi' sp2
        obtain ⟨slf, sN, sk2, se2, spp, si⟩ := s
        obtain ⟨e1, e2, e3, e4, e5, e6⟩ := SI
        simp only at e1 e2 e3 e4 e5 e6
        subst e1; subst e2; subst e3; subst e4
        have t3 : cs2[i' * 6 + 3]? = some (.slice se2.A se2.n se2.c) := hsc 3 (by decide)
        have t2 : cs2[i' * 6 + 2]? = some (.slice sk2.A sk2.n sk2.c) := hsc 2 (by decide)
        have t5 : cs2[i' * 6 + 5]? = some (.int .i64 (f.i : Int)) := hsc 5 (by decide)
        have t0 : cs2[i' * 6 + 0]? = some (.bool false) := hsc 0 (by decide)
        have t1 : cs2[i' * 6 + 1]? = some (.int .u32 0) := hsc 1 (by decide)
        have t4 : cs2[i' * 6 + 4]? = some (.int .u32 (f.p : Int)) := hsc 4 (by decide)
        rw [Nat.add_zero] at t0
        have hkn : sk2.n = f.seps.length + 1 := by have := e5.1; rw [vN_len] at this; omega
        have hen : se2.n = f.seps.length := by have := e6.1; rw [vE_len] at this; omega
        have hsl : f.seps.length ≤ 712 := by
         have h7 := sq3.sz
         have h7 : sumE (insI f.seps f.i ⟨xs, xp, xq⟩) + 4 * (insI f.seps f.i ⟨xs, xp, xq⟩).length ≤ 712 := h7
         rw [insI_len _ _ _ sq1] at h7
         omega
        have y3 := cell66 BP.blk t3
        have y2 := cell66 BP.blk t2
        have y5 := cell66 BP.blk t5
        have f3 := BP.blk.frozen (i' * 6 + 3)
        have IE := Lib.hid (insE_any (w := w8.drew.alloc (.cells #[.string xs, .int .u32 xp, .int .u16 xq] 37)) (base := m') (n := se2.n) (c := se2.c) (g := w8.heap.size) (i := f.i) (A := se2.A) (xs := vE f.seps) (news := [.string xs, .int .u32 xp, .int .u16 xq]) (own_below e6 (ball (Below.drew (Below.refl _ _)) _)) (by omega) (by rw [alloc_size]; show m' ≤ w8.heap.size + 1; have := BP.mz; have := BP.zW; omega) (by omega) (Blk.new w8.drew _ _) rfl (fun u hu => by
         rcases List.mem_append.1 hu with hu | hu
         · exact vE_one66 _ u hu
         · exact vE_one66 [⟨xs, xp, xq⟩] u hu) (fun e => by
         have h1 : se2.own w8.heap.size := by
          show (Value.slice se2.A se2.n se2.c).ownBlock = _
          rw [ownB]; exact e
         have := (World.ownsRow.lt e6 _ h1).2
         omega))
        have KS := Lib.hid (show ∀ W, Below w8.heap.size w8 W → W.cell? ⟨Bw, i' * 6 + 5, none⟩ = some (.int .i64 (f.i : Int)) ∧ W.cell? ⟨w2.heap.size, 0, none⟩ = some (.string xs) ∧ W.cell? ⟨w2.heap.size, 1, none⟩ = some (.int .u32 xp) ∧ W.cell? ⟨w2.heap.size, 2, none⟩ = some (.int .u16 xq) from fun W hb => by
         have b1 := BP.blk.below hb BP.blk.lt
         have b2 := HG.out.2.1.below hb HG.out.2.1.lt
         exact ⟨cell66 b1 t5, b2.cell 0, b2.cell 1, b2.cell 2⟩)
        have HQ := Lib.hid (And.intro BP (And.intro e5 (And.intro e6 (And.intro hso (And.intro sq1 (And.intro sq2 (And.intro sq3 sp3)))))))
        have HT := Lib.hid (And.intro t0 (And.intro t1 (And.intro t2 (And.intro t3 (And.intro t4 t5)))))
        have HL := Lib.hid (And.intro hkn (And.intro hen (And.intro hsl sp1)))
        clear BP e5 e6 hso sq1 sq2 sq3 sp3 t0 t1 t2 t3 t4 t5 hkn hen hsl sp1 hsc
        go_upto_region 18 with fail
        go_cut [] (fun wx => ∃ e2 : S11, Blk wx Bw 77 (cs2.setIfInBounds (i' * 6 + 3) e2.v) ∧ wx.ownsRow m' 37 3 e2.v e2.n (vE (insI f.seps f.i ⟨xs, xp, xq⟩)) ∧ EvT (fun b => se2.own b ∨ b = Bw) w8 wx ∧ ∀ b, e2.own b → se2.own b ∨ w8.heap.size ≤ b)
        case first =>
         refine wp_region_held_drew (S := (fun W => W.cell? ⟨Bw, i' * 6 + 5, none⟩ = some (.int .i64 (f.i : Int)) ∧ W.cell? ⟨w2.heap.size, 0, none⟩ = some (.string xs) ∧ W.cell? ⟨w2.heap.size, 1, none⟩ = some (.int .u32 xp) ∧ W.cell? ⟨w2.heap.size, 2, none⟩ = some (.int .u16 xq))) (by kernel_rfl) (by exact KS.out _ (Below.drew (Below.refl _ _))) (fun hHeld => ?_)
         try dsimp only at hHeld
         refine zt 0 ?_ rfl (by kernel_rfl) (fun _ _ _ h => h) ⟨rfl, ?_⟩ hHeld ?_
         rotate_left
         focus (intro wx hSw; (try dsimp only at hSw); (try go_split_ands); go_simp; (try with_reducible rfl))
         try simp only [Act.put, za1, za2, za3, za4, za5, za6]
         refine zt 1 ?_ rfl (by kernel_rfl) (fun _ _ _ h => h) ⟨rfl, ?_⟩ hHeld ?_
         rotate_left
         focus (intro wx hSw; (try dsimp only at hSw); (try go_split_ands); go_simp; (try with_reducible rfl))
         try simp only [Act.put, za1, za2, za3, za4, za5, za6]
         refine zt 2 ?_ rfl (by kernel_rfl) (fun _ _ _ h => h) ⟨rfl, ?_⟩ hHeld ?_
         rotate_left
         focus (intro wx hSw; (try dsimp only at hSw); (try go_split_ands); go_simp; (try with_reducible rfl))
         try simp only [Act.put, za1, za2, za3, za4, za5, za6]
         refine zt 3 ?_ rfl (by kernel_rfl) (fun _ _ _ h => h) ⟨rfl, ?_⟩ hHeld ?_
         rotate_left
         focus (intro wx hSw; (try dsimp only at hSw); (try go_split_ands); go_simp; (try with_reducible rfl))
         try simp only [Act.put, za1, za2, za3, za4, za5, za6]
         refine zt 4 ?_ rfl (by kernel_rfl) (fun _ _ _ h => h) ⟨rfl, ?_⟩ hHeld ?_
         rotate_left
         focus (intro wx hSw; (try dsimp only at hSw); (try go_split_ands); go_simp; (try with_reducible rfl))
         try simp only [Act.put, za1, za2, za3, za4, za5, za6]
         refine zt 6 ?_ rfl (by kernel_rfl) (fun _ _ _ h => h) ⟨rfl, ?_⟩ hHeld ?_
         rotate_left
         focus (intro wx hSw; (try dsimp only at hSw); (try go_split_ands); go_simp; (try with_reducible rfl))
         try simp only [Act.put, za1, za2, za3, za4, za5, za6]
         refine zt 7 ?_ rfl (by kernel_rfl) (fun _ _ _ h => h) ⟨rfl, ?_⟩ hHeld ?_
         rotate_left
         focus (intro wx hSw; (try dsimp only at hSw); (try go_split_ands); go_simp; (try with_reducible rfl))
         try simp only [Act.put, za1, za2, za3, za4, za5, za6]
         refine zt 8 ?_ rfl (by kernel_rfl) (fun _ _ _ h => h) ⟨rfl, ?_⟩ hHeld ?_
         rotate_left
         focus (intro wx hSw; (try dsimp only at hSw); (try go_split_ands); go_simp; (try with_reducible rfl))
         try simp only [Act.put, za1, za2, za3, za4, za5, za6]
         refine zt 9 ?_ rfl (by kernel_rfl) (fun _ _ _ h => h) ⟨rfl, ?_⟩ hHeld ?_
         rotate_left
         focus (intro wx hSw; (try dsimp only at hSw); (try go_split_ands); go_simp; (try with_reducible rfl))
         try simp only [Act.put, za1, za2, za3, za4, za5, za6]
         refine zt 10 ?_ rfl (by kernel_rfl) (fun _ _ _ h => h) ⟨rfl, ?_⟩ hHeld ?_
         rotate_left
         focus (intro wx hSw; (try dsimp only at hSw); (try go_split_ands); go_simp; (try with_reducible rfl))
         try simp only [Act.put, za1, za2, za3, za4, za5, za6]
         refine wpAnyH_ready (rs := [5, 11]) (by kernel_rfl) (by simp) (AllReadyH.cons rfl (fun K hK => ?_) (AllReadyH.cons rfl (fun K hK => ?_) AllReadyH.nil))
         · go_simp
           refine hK.out _ _ ?_ (fun hHeld => ?_)
           · ((try dsimp only); (try dsimp only at hHeld); exact KS.out _ (by with_reducible repeat (first | exact Below.refl _ _ | refine bdr ?_ _ | refine Below.drew ?_ | refine ball ?_ _)))
           clear hK K
           try dsimp only at hHeld
           try simp only [Act.put, za1, za2, za3, za4, za5, za6]
           refine wpAnyH_ready (rs := [11]) (by kernel_rfl) (by simp) (AllReadyH.cons rfl (fun K hK => ?_) AllReadyH.nil)
           go_simp
           refine hK.out _ _ ?_ (fun hHeld => ?_)
           · ((try dsimp only); (try dsimp only at hHeld); exact KS.out _ (by with_reducible repeat (first | exact Below.refl _ _ | refine bdr ?_ _ | refine Below.drew ?_ | refine ball ?_ _)))
           clear hK K
           try dsimp only at hHeld
           try simp only [Act.put, za1, za2, za3, za4, za5, za6]
           refine wpAnyH_ready (rs := [12]) (by kernel_rfl) (by simp) (AllReadyH.cons rfl (fun K hK => ?_) AllReadyH.nil)
           go_simp
           refine IE.out.mono ?_
           rintro e10 w10 ⟨A10, c10, rfl, ho10, ev10, nb10⟩
           have E10 : EvT se2.own w8 w10 := (EvT.of_below (O := se2.own) (ball (Below.drew (Below.refl w8.heap.size w8)) (.cells #[.string xs, .int .u32 xp, .int .u16 xq] 37))).trans (ev10.mono (O' := se2.own) fun b hb => .inl (by show (Value.slice _ _ _).ownBlock = _; rw [ownB]; exact hb)) (fun b e => .inl e)
           have hnB : ¬ se2.own Bw := own_blk_ne HQ.out.2.2.1 HQ.out.1.blk (by decide)
           have b10 := E10.blk HQ.out.1.blk hnB
           have x10 := E10.blk HG.out.2.1 (fun h => by have := (HQ.out.2.2.2.1 _ (.inr h)).2.1; have := H2.out.1.zW; omega)
           have KS10 := Lib.hid (And.intro (cell66 b10 HT.out.2.2.2.2.2) (And.intro (x10.cell 0) (And.intro (x10.cell 1) (x10.cell 2))))
           have KS11 := Lib.hid (fun (u : Value) => And.intro (cell66 (j := i' * 6 + 5) (b10.set_ (i' * 6 + 3) u) ((set_ne66 (by omega)).trans HT.out.2.2.2.2.2)) (have x11 := x10.far (p := ⟨Bw, i' * 6 + 3, none⟩) (fun h => by have h : w2.heap.size = Bw := h; have := H2.out.1.bw; have := H2.out.1.zW; omega) u; And.intro (x11.cell 0) (And.intro (x11.cell 1) (x11.cell 2))))
           have d10 := cell66 b10 HT.out.2.2.2.1
           have f10 := b10.frozen (i' * 6 + 3)
           have l10 := b10.lt
           have C10 := Lib.hid (And.intro b10 (And.intro ho10 (And.intro E10 nb10)))
           clear b10 ho10 E10 ev10 nb10 hnB x10
           go_wp2_with fail
           refine hK.out _ _ ?_ (fun hHeld => ?_)
           · ((try dsimp only); (try dsimp only at hHeld); exact KS10.out)
           clear hK K
           try dsimp only at hHeld
           try simp only [Act.put, za1, za2, za3, za4, za5, za6]
           refine zt 13 ?_ rfl (by kernel_rfl) (fun _ _ _ h => h) ⟨rfl, ?_⟩ hHeld ?_
           rotate_left
           focus (intro wx hSw; (try dsimp only at hSw); (try go_split_ands); go_simp; (try with_reducible rfl))
           try simp only [Act.put, za1, za2, za3, za4, za5, za6]
           refine zt 14 ?_ rfl (by kernel_rfl) (fun _ _ _ h => h) ⟨rfl, ?_⟩ hHeld ?_
           rotate_left
           focus (intro wx hSw; (try dsimp only at hSw); (try go_split_ands); go_simp; (try with_reducible rfl))
           try simp only [Act.put, za1, za2, za3, za4, za5, za6]
           refine zt 15 ?_ rfl (by kernel_rfl) (fun _ _ _ h => h) ⟨rfl, ?_⟩ hHeld ?_
           rotate_left
           focus (intro wx hSw; (try dsimp only at hSw); (try go_split_ands); go_simp; (try with_reducible rfl))
           try simp only [Act.put, za1, za2, za3, za4, za5, za6]
           refine wpAnyH_ready (rs := [16]) (by kernel_rfl) (by simp) (AllReadyH.cons rfl (fun K hK => ?_) AllReadyH.nil)
           go_simp
           refine hK.out _ _ ?_ (fun hHeld => ?_)
           · ((try dsimp only); (try dsimp only at hHeld); exact KS11.out _)
           clear hK K
           try dsimp only at hHeld
           try simp only [Act.put, za1, za2, za3, za4, za5, za6]
           refine wpAnyH_done (by kernel_rfl) ?_ _
           go_wp2_with fail
           go_meet
           refine ⟨⟨A10, se2.n + 1, c10⟩, C10.out.1.set_ _ _, (by have h := C10.out.2.1; rw [vE_ins3 f.seps f.i xs xp xq] at h; exact far_own66 h C10.out.1 (by decide) _ _), (C10.out.2.2.1.mono (O' := fun b => se2.own b ∨ b = Bw) fun b e => .inl (.inl e)).store (p := ⟨Bw, i' * 6 + 3, none⟩) (.inr (.inr rfl)) _, fun b hb => ?_⟩
           have hb : (Value.slice A10 (se2.n + 1) c10).ownBlock = some b := hb
           rw [ownB] at hb
           rcases C10.out.2.2.2 b hb with h | h
           · left; show (Value.slice _ _ _).ownBlock = _; rw [ownB]; exact h
           · right; rw [alloc_size] at h; have h : w8.heap.size + 1 ≤ b := h; omega
         · go_simp
           refine hK.out _ _ ?_ (fun hHeld => ?_)
           · ((try dsimp only); (try dsimp only at hHeld); exact KS.out _ (by with_reducible repeat (first | exact Below.refl _ _ | refine bdr ?_ _ | refine Below.drew ?_ | refine ball ?_ _)))
           clear hK K
           try dsimp only at hHeld
           try simp only [Act.put, za1, za2, za3, za4, za5, za6]
           refine wpAnyH_ready (rs := [5]) (by kernel_rfl) (by simp) (AllReadyH.cons rfl (fun K hK => ?_) AllReadyH.nil)
           go_simp
           refine hK.out _ _ ?_ (fun hHeld => ?_)
           · ((try dsimp only); (try dsimp only at hHeld); exact KS.out _ (by with_reducible repeat (first | exact Below.refl _ _ | refine bdr ?_ _ | refine Below.drew ?_ | refine ball ?_ _)))
           clear hK K
           try dsimp only at hHeld
           try simp only [Act.put, za1, za2, za3, za4, za5, za6]
           refine wpAnyH_ready (rs := [12]) (by kernel_rfl) (by simp) (AllReadyH.cons rfl (fun K hK => ?_) AllReadyH.nil)
           go_simp
           refine IE.out.mono ?_
           rintro e10 w10 ⟨A10, c10, rfl, ho10, ev10, nb10⟩
           have E10 : EvT se2.own w8 w10 := (EvT.of_below (O := se2.own) (ball (Below.drew (Below.refl w8.heap.size w8)) (.cells #[.string xs, .int .u32 xp, .int .u16 xq] 37))).trans (ev10.mono (O' := se2.own) fun b hb => .inl (by show (Value.slice _ _ _).ownBlock = _; rw [ownB]; exact hb)) (fun b e => .inl e)
           have hnB : ¬ se2.own Bw := own_blk_ne HQ.out.2.2.1 HQ.out.1.blk (by decide)
           have b10 := E10.blk HQ.out.1.blk hnB
           have x10 := E10.blk HG.out.2.1 (fun h => by have := (HQ.out.2.2.2.1 _ (.inr h)).2.1; have := H2.out.1.zW; omega)
           have KS10 := Lib.hid (And.intro (cell66 b10 HT.out.2.2.2.2.2) (And.intro (x10.cell 0) (And.intro (x10.cell 1) (x10.cell 2))))
           have KS11 := Lib.hid (fun (u : Value) => And.intro (cell66 (j := i' * 6 + 5) (b10.set_ (i' * 6 + 3) u) ((set_ne66 (by omega)).trans HT.out.2.2.2.2.2)) (have x11 := x10.far (p := ⟨Bw, i' * 6 + 3, none⟩) (fun h => by have h : w2.heap.size = Bw := h; have := H2.out.1.bw; have := H2.out.1.zW; omega) u; And.intro (x11.cell 0) (And.intro (x11.cell 1) (x11.cell 2))))
           have d10 := cell66 b10 HT.out.2.2.2.1
           have f10 := b10.frozen (i' * 6 + 3)
           have l10 := b10.lt
           have C10 := Lib.hid (And.intro b10 (And.intro ho10 (And.intro E10 nb10)))
           clear b10 ho10 E10 ev10 nb10 hnB x10
           go_wp2_with fail
           refine hK.out _ _ ?_ (fun hHeld => ?_)
           · ((try dsimp only); (try dsimp only at hHeld); exact KS10.out)
           clear hK K
           try dsimp only at hHeld
           try simp only [Act.put, za1, za2, za3, za4, za5, za6]
           refine zt 13 ?_ rfl (by kernel_rfl) (fun _ _ _ h => h) ⟨rfl, ?_⟩ hHeld ?_
           rotate_left
           focus (intro wx hSw; (try dsimp only at hSw); (try go_split_ands); go_simp; (try with_reducible rfl))
           try simp only [Act.put, za1, za2, za3, za4, za5, za6]
           refine zt 14 ?_ rfl (by kernel_rfl) (fun _ _ _ h => h) ⟨rfl, ?_⟩ hHeld ?_
           rotate_left
           focus (intro wx hSw; (try dsimp only at hSw); (try go_split_ands); go_simp; (try with_reducible rfl))
           try simp only [Act.put, za1, za2, za3, za4, za5, za6]
           refine zt 15 ?_ rfl (by kernel_rfl) (fun _ _ _ h => h) ⟨rfl, ?_⟩ hHeld ?_
           rotate_left
           focus (intro wx hSw; (try dsimp only at hSw); (try go_split_ands); go_simp; (try with_reducible rfl))
           try simp only [Act.put, za1, za2, za3, za4, za5, za6]
           refine wpAnyH_ready (rs := [16]) (by kernel_rfl) (by simp) (AllReadyH.cons rfl (fun K hK => ?_) AllReadyH.nil)
           go_simp
           refine hK.out _ _ ?_ (fun hHeld => ?_)
           · ((try dsimp only); (try dsimp only at hHeld); exact KS11.out _)
           clear hK K
           try dsimp only at hHeld
           try simp only [Act.put, za1, za2, za3, za4, za5, za6]
           refine wpAnyH_done (by kernel_rfl) ?_ _
           go_wp2_with fail
           go_meet
           refine ⟨⟨A10, se2.n + 1, c10⟩, C10.out.1.set_ _ _, (by have h := C10.out.2.1; rw [vE_ins3 f.seps f.i xs xp xq] at h; exact far_own66 h C10.out.1 (by decide) _ _), (C10.out.2.2.1.mono (O' := fun b => se2.own b ∨ b = Bw) fun b e => .inl (.inl e)).store (p := ⟨Bw, i' * 6 + 3, none⟩) (.inr (.inr rfl)) _, fun b hb => ?_⟩
           have hb : (Value.slice A10 (se2.n + 1) c10).ownBlock = some b := hb
           rw [ownB] at hb
           rcases C10.out.2.2.2 b hb with h | h
           · left; show (Value.slice _ _ _).ownBlock = _; rw [ownB]; exact h
           · right; rw [alloc_size] at h; have h : w8.heap.size + 1 ≤ b := h; omega
        case rest =>
         obtain ⟨e2, hB9, ho9, ev9, nb9⟩ := hcut
         rename World => w9
         have hO9 : ∀ b, se2.own b ∨ b = Bw → m' ≤ b ∧ b < z ∨ b = Bw := fun b hb => hb.imp (fun k => ⟨(HQ.out.2.2.2.1 b (.inr k)).1, (HQ.out.2.2.2.1 b (.inr k)).2.1⟩) id
         have B9 := HQ.out.1.evw ev9 hO9 hB9 (fun j hj => Array.getElem?_setIfInBounds_ne (by omega))
         have ok9 := ev9.own HQ.out.2.1 (fun b hb h => by
          rcases h with h | h
          · obtain ⟨cs', hb'⟩ := own_blk17 HQ.out.2.1 hb
            exact own_blk_ne HQ.out.2.2.1 hb' (by decide) h
          · exact (HQ.out.2.2.2.1 b (.inl hb)).2.2 h)
         have hz9 := ev9.size
         have hcz : cs2.size = (cs2.setIfInBounds (i' * 6 + 3) e2.v).size := by simp
         have t2' : (cs2.setIfInBounds (i' * 6 + 3) e2.v)[i' * 6 + 2]? = some (.slice sk2.A sk2.n sk2.c) := by rw [Array.getElem?_setIfInBounds_ne (by omega)]; exact HT.out.2.2.1
         have t5' : (cs2.setIfInBounds (i' * 6 + 3) e2.v)[i' * 6 + 5]? = some (.int .i64 (f.i : Int)) := by rw [Array.getElem?_setIfInBounds_ne (by omega)]; exact HT.out.2.2.2.2.2
         have t3' : (cs2.setIfInBounds (i' * 6 + 3) e2.v)[i' * 6 + 3]? = some e2.v := by
          have := (Array.getElem?_eq_some_iff.1 HT.out.2.2.2.1).1
          rw [Array.getElem?_setIfInBounds_self_of_lt this]
         obtain ⟨cs3, hcs3⟩ : ∃ x, cs2.setIfInBounds (i' * 6 + 3) e2.v = x := ⟨_, rfl⟩
         have hc3 : ∀ j, j ≠ i' * 6 + 3 → cs3[j]? = cs2[j]? := fun j hj => by rw [← hcs3]; exact Array.getElem?_setIfInBounds_ne (fun e => hj e.symm)
         rw [hcs3] at B9 hB9 t2' t5' t3'
         clear hcs3 hcz hO9
         clear y2 y5 f3 KS IE y3
         have y2 := cell66 B9.blk t2'
         have y5 := cell66 B9.blk t5'
         have f2 := B9.blk.frozen (i' * 6 + 2)
         have l9 := B9.blk.lt
         have IN := Lib.hid (insN_any (w := w9.drew.alloc (.cells #[.int .u32 (q : Int)] 30)) (base := m') (n := sk2.n) (c := sk2.c) (g := w9.heap.size) (i := f.i + 1) (A := sk2.A) (xs := vN f.kids) (news := [.int .u32 (q : Int)]) (own_below ok9 (ball (Below.drew (Below.refl _ _)) _)) (by have := HL.out; omega) (by rw [alloc_size]; show m' ≤ w9.heap.size + 1; have := B9.mz; have := B9.zW; omega) (by have := HL.out; have := HQ.out.2.2.2.2.1; omega) (Blk.new w9.drew _ _) rfl (fun u hu => by
          rcases List.mem_append.1 hu with hu | hu
          · exact vN_one66 _ u hu
          · exact vN_one66 [q] u hu) (fun e => by
          have h1 : sk2.own w9.heap.size := by
           show (Value.slice sk2.A sk2.n sk2.c).ownBlock = _
           rw [ownB]; exact e
          have := (World.ownsRow.lt ok9 _ h1).2
          omega))
         have gi1 : (f.i : Int) ≤ 712 := by have := HL.out; have := HQ.out.2.2.2.2.1; omega
         have gi : IntKind.i64.wrap ((f.i : Int) + 1) = (f.i : Int) + 1 := IntWalk.i64_in _ ⟨by omega, by omega⟩
         clear gi1
         have KN := Lib.hid (show ∀ W, Below w9.heap.size w9 W → W.cell? ⟨Bw, i' * 6 + 5, none⟩ = some (.int .i64 (f.i : Int)) from fun W hb => cell66 (B9.blk.below hb B9.blk.lt) t5')
         have HR := Lib.hid (And.intro B9 (And.intro ok9 (And.intro ho9 (And.intro nb9 (And.intro t3' hc3)))))
         have HTT := Lib.hid (And.intro t2' t5')
         clear B9 ok9 ho9 nb9 t3' hc3 t2' t5' hB9 ev9
         go_upto_region 19 with fail
         go_cut [] (fun wx => ∃ k2 : S11, Blk wx Bw 77 (cs3.setIfInBounds (i' * 6 + 2) k2.v) ∧ wx.ownsRow m' 30 1 k2.v k2.n (vN (insI f.kids (f.i + 1) q)) ∧ EvT (fun b => sk2.own b ∨ b = Bw) w9 wx ∧ ∀ b, k2.own b → sk2.own b ∨ w9.heap.size ≤ b)
         case first =>
          refine wp_region_held_drew (S := (fun W => W.cell? ⟨Bw, i' * 6 + 5, none⟩ = some (.int .i64 (f.i : Int)))) (by kernel_rfl) (by exact KN.out _ (Below.drew (Below.refl _ _))) (fun hHeld => ?_)
          try dsimp only at hHeld
          refine zt 0 ?_ rfl (by kernel_rfl) (fun _ _ _ h => h) ⟨rfl, ?_⟩ hHeld ?_
          rotate_left
          focus (intro wx hSw; (try dsimp only at hSw); (try go_split_ands); go_simp; (try with_reducible rfl))
          try simp only [Act.put, za1, za2, za3, za4, za5, za6]
          refine zt 1 ?_ rfl (by kernel_rfl) (fun _ _ _ h => h) ⟨rfl, ?_⟩ hHeld ?_
          rotate_left
          focus (intro wx hSw; (try dsimp only at hSw); (try go_split_ands); go_simp; (try with_reducible rfl))
          try simp only [Act.put, za1, za2, za3, za4, za5, za6]
          refine zt 2 ?_ rfl (by kernel_rfl) (fun _ _ _ h => h) ⟨rfl, ?_⟩ hHeld ?_
          rotate_left
          focus (intro wx hSw; (try dsimp only at hSw); (try go_split_ands); go_simp; (try with_reducible rfl))
          try simp only [Act.put, za1, za2, za3, za4, za5, za6]
          refine zt 3 ?_ rfl (by kernel_rfl) (fun _ _ _ h => h) ⟨rfl, ?_⟩ hHeld ?_
          rotate_left
          focus (intro wx hSw; (try dsimp only at hSw); (try go_split_ands); go_simp; (try with_reducible rfl))
          try simp only [Act.put, za1, za2, za3, za4, za5, za6]
          refine zt 4 ?_ rfl (by kernel_rfl) (fun _ _ _ h => h) ⟨rfl, ?_⟩ hHeld ?_
          rotate_left
          focus (intro wx hSw; (try dsimp only at hSw); (try go_split_ands); go_simp; (try with_reducible rfl))
          try simp only [Act.put, za1, za2, za3, za4, za5, za6]
          refine zt 6 ?_ rfl (by kernel_rfl) (fun _ _ _ h => h) ⟨rfl, ?_⟩ hHeld ?_
          rotate_left
          focus (intro wx hSw; (try dsimp only at hSw); (try go_split_ands); go_simp; (try with_reducible rfl))
          try simp only [Act.put, za1, za2, za3, za4, za5, za6]
          refine zt 7 ?_ rfl (by kernel_rfl) (fun _ _ _ h => h) ⟨rfl, ?_⟩ hHeld ?_
          rotate_left
          focus (intro wx hSw; (try dsimp only at hSw); (try go_split_ands); go_simp; (try with_reducible rfl))
          try simp only [Act.put, za1, za2, za3, za4, za5, za6]
          refine zt 8 ?_ rfl (by kernel_rfl) (fun _ _ _ h => h) ⟨rfl, ?_⟩ hHeld ?_
          rotate_left
          focus (intro wx hSw; (try dsimp only at hSw); (try go_split_ands); go_simp; (try with_reducible rfl))
          try simp only [Act.put, za1, za2, za3, za4, za5, za6]
          refine zt 9 ?_ rfl (by kernel_rfl) (fun _ _ _ h => h) ⟨rfl, ?_⟩ hHeld ?_
          rotate_left
          focus (intro wx hSw; (try dsimp only at hSw); (try go_split_ands); go_simp; (try with_reducible rfl))
          try simp only [Act.put, za1, za2, za3, za4, za5, za6]
          refine zt 10 ?_ rfl (by kernel_rfl) (fun _ _ _ h => h) ⟨rfl, ?_⟩ hHeld ?_
          rotate_left
          focus (intro wx hSw; (try dsimp only at hSw); (try go_split_ands); go_simp; (try with_reducible rfl))
          try simp only [Act.put, za1, za2, za3, za4, za5, za6]
          refine zt 11 ?_ rfl (by kernel_rfl) (fun _ _ _ h => h) ⟨rfl, ?_⟩ hHeld ?_
          rotate_left
          focus (intro wx hSw; (try dsimp only at hSw); (try go_split_ands); go_simp; (try with_reducible rfl))
          try simp only [Act.put, za1, za2, za3, za4, za5, za6]
          refine wpAnyH_ready (rs := [5, 12]) (by kernel_rfl) (by simp) (AllReadyH.cons rfl (fun K hK => ?_) (AllReadyH.cons rfl (fun K hK => ?_) AllReadyH.nil))
          · go_simp
            refine hK.out _ _ ?_ (fun hHeld => ?_)
            · ((try dsimp only); (try dsimp only at hHeld); exact KN.out _ (by with_reducible repeat (first | exact Below.refl _ _ | refine bdr ?_ _ | refine Below.drew ?_ | refine ball ?_ _)))
            clear hK K
            try dsimp only at hHeld
            try simp only [Act.put, za1, za2, za3, za4, za5, za6]
            refine wpAnyH_ready (rs := [12]) (by kernel_rfl) (by simp) (AllReadyH.cons rfl (fun K hK => ?_) AllReadyH.nil)
            go_simp
            refine hK.out _ _ ?_ (fun hHeld => ?_)
            · ((try dsimp only); (try dsimp only at hHeld); exact KN.out _ (by with_reducible repeat (first | exact Below.refl _ _ | refine bdr ?_ _ | refine Below.drew ?_ | refine ball ?_ _)))
            clear hK K
            try dsimp only at hHeld
            try simp only [Act.put, za1, za2, za3, za4, za5, za6]
            refine wpAnyH_ready (rs := [13]) (by kernel_rfl) (by simp) (AllReadyH.cons rfl (fun K hK => ?_) AllReadyH.nil)
            go_simp
            refine IN.out.mono ?_
            rintro e10 w10 ⟨A10, c10, rfl, ho10, ev10, nb10⟩
            have E10 : EvT sk2.own w9 w10 := (EvT.of_below (O := sk2.own) (ball (Below.drew (Below.refl w9.heap.size w9)) (.cells #[.int .u32 (q : Int)] 30))).trans (ev10.mono (O' := sk2.own) fun b hb => .inl (by show (Value.slice _ _ _).ownBlock = _; rw [ownB]; exact hb)) (fun b e => .inl e)
            have hnB : ¬ sk2.own Bw := own_blk_ne HR.out.2.1 HR.out.1.blk (by decide)
            have b10 := E10.blk HR.out.1.blk hnB
            have KS10 := Lib.hid (cell66 b10 HTT.out.2)
            have KS11 := Lib.hid (fun (u : Value) => cell66 (j := i' * 6 + 5) (b10.set_ (i' * 6 + 2) u) ((set_ne66 (by omega)).trans HTT.out.2))
            have d10 := cell66 b10 HTT.out.1
            have f10 := b10.frozen (i' * 6 + 2)
            have l10 := b10.lt
            have C10 := Lib.hid (And.intro b10 (And.intro ho10 (And.intro E10 nb10)))
            clear b10 ho10 E10 ev10 nb10 hnB
            go_wp2_with fail
            refine hK.out _ _ ?_ (fun hHeld => ?_)
            · ((try dsimp only); (try dsimp only at hHeld); exact KS10.out)
            clear hK K
            try dsimp only at hHeld
            try simp only [Act.put, za1, za2, za3, za4, za5, za6]
            refine zt 14 ?_ rfl (by kernel_rfl) (fun _ _ _ h => h) ⟨rfl, ?_⟩ hHeld ?_
            rotate_left
            focus (intro wx hSw; (try dsimp only at hSw); (try go_split_ands); go_simp; (try with_reducible rfl))
            try simp only [Act.put, za1, za2, za3, za4, za5, za6]
            refine zt 15 ?_ rfl (by kernel_rfl) (fun _ _ _ h => h) ⟨rfl, ?_⟩ hHeld ?_
            rotate_left
            focus (intro wx hSw; (try dsimp only at hSw); (try go_split_ands); go_simp; (try with_reducible rfl))
            try simp only [Act.put, za1, za2, za3, za4, za5, za6]
            refine zt 16 ?_ rfl (by kernel_rfl) (fun _ _ _ h => h) ⟨rfl, ?_⟩ hHeld ?_
            rotate_left
            focus (intro wx hSw; (try dsimp only at hSw); (try go_split_ands); go_simp; (try with_reducible rfl))
            try simp only [Act.put, za1, za2, za3, za4, za5, za6]
            refine wpAnyH_ready (rs := [17]) (by kernel_rfl) (by simp) (AllReadyH.cons rfl (fun K hK => ?_) AllReadyH.nil)
            go_simp
            refine hK.out _ _ ?_ (fun hHeld => ?_)
            · ((try dsimp only); (try dsimp only at hHeld); exact KS11.out _)
            clear hK K
            try dsimp only at hHeld
            try simp only [Act.put, za1, za2, za3, za4, za5, za6]
            refine wpAnyH_done (by kernel_rfl) ?_ _
            go_wp2_with fail
            go_meet
            refine ⟨⟨A10, sk2.n + 1, c10⟩, C10.out.1.set_ _ _, (by have h := C10.out.2.1; rw [vN_ins f.kids (f.i + 1) q] at h; exact far_own66 h C10.out.1 (by decide) _ _), (C10.out.2.2.1.mono (O' := fun b => sk2.own b ∨ b = Bw) fun b e => .inl (.inl e)).store (p := ⟨Bw, i' * 6 + 2, none⟩) (.inr (.inr rfl)) _, fun b hb => ?_⟩
            have hb : (Value.slice A10 (sk2.n + 1) c10).ownBlock = some b := hb
            rw [ownB] at hb
            rcases C10.out.2.2.2 b hb with h | h
            · left; show (Value.slice _ _ _).ownBlock = _; rw [ownB]; exact h
            · right; rw [alloc_size] at h; have h : w9.heap.size + 1 ≤ b := h; omega
          · go_simp
            refine hK.out _ _ ?_ (fun hHeld => ?_)
            · ((try dsimp only); (try dsimp only at hHeld); exact KN.out _ (by with_reducible repeat (first | exact Below.refl _ _ | refine bdr ?_ _ | refine Below.drew ?_ | refine ball ?_ _)))
            clear hK K
            try dsimp only at hHeld
            try simp only [Act.put, za1, za2, za3, za4, za5, za6]
            refine wpAnyH_ready (rs := [5]) (by kernel_rfl) (by simp) (AllReadyH.cons rfl (fun K hK => ?_) AllReadyH.nil)
            go_simp
            refine hK.out _ _ ?_ (fun hHeld => ?_)
            · ((try dsimp only); (try dsimp only at hHeld); exact KN.out _ (by with_reducible repeat (first | exact Below.refl _ _ | refine bdr ?_ _ | refine Below.drew ?_ | refine ball ?_ _)))
            clear hK K
            try dsimp only at hHeld
            try simp only [Act.put, za1, za2, za3, za4, za5, za6]
            refine wpAnyH_ready (rs := [13]) (by kernel_rfl) (by simp) (AllReadyH.cons rfl (fun K hK => ?_) AllReadyH.nil)
            go_simp
            refine IN.out.mono ?_
            rintro e10 w10 ⟨A10, c10, rfl, ho10, ev10, nb10⟩
            have E10 : EvT sk2.own w9 w10 := (EvT.of_below (O := sk2.own) (ball (Below.drew (Below.refl w9.heap.size w9)) (.cells #[.int .u32 (q : Int)] 30))).trans (ev10.mono (O' := sk2.own) fun b hb => .inl (by show (Value.slice _ _ _).ownBlock = _; rw [ownB]; exact hb)) (fun b e => .inl e)
            have hnB : ¬ sk2.own Bw := own_blk_ne HR.out.2.1 HR.out.1.blk (by decide)
            have b10 := E10.blk HR.out.1.blk hnB
            have KS10 := Lib.hid (cell66 b10 HTT.out.2)
            have KS11 := Lib.hid (fun (u : Value) => cell66 (j := i' * 6 + 5) (b10.set_ (i' * 6 + 2) u) ((set_ne66 (by omega)).trans HTT.out.2))
            have d10 := cell66 b10 HTT.out.1
            have f10 := b10.frozen (i' * 6 + 2)
            have l10 := b10.lt
            have C10 := Lib.hid (And.intro b10 (And.intro ho10 (And.intro E10 nb10)))
            clear b10 ho10 E10 ev10 nb10 hnB
            go_wp2_with fail
            refine hK.out _ _ ?_ (fun hHeld => ?_)
            · ((try dsimp only); (try dsimp only at hHeld); exact KS10.out)
            clear hK K
            try dsimp only at hHeld
            try simp only [Act.put, za1, za2, za3, za4, za5, za6]
            refine zt 14 ?_ rfl (by kernel_rfl) (fun _ _ _ h => h) ⟨rfl, ?_⟩ hHeld ?_
            rotate_left
            focus (intro wx hSw; (try dsimp only at hSw); (try go_split_ands); go_simp; (try with_reducible rfl))
            try simp only [Act.put, za1, za2, za3, za4, za5, za6]
            refine zt 15 ?_ rfl (by kernel_rfl) (fun _ _ _ h => h) ⟨rfl, ?_⟩ hHeld ?_
            rotate_left
            focus (intro wx hSw; (try dsimp only at hSw); (try go_split_ands); go_simp; (try with_reducible rfl))
            try simp only [Act.put, za1, za2, za3, za4, za5, za6]
            refine zt 16 ?_ rfl (by kernel_rfl) (fun _ _ _ h => h) ⟨rfl, ?_⟩ hHeld ?_
            rotate_left
            focus (intro wx hSw; (try dsimp only at hSw); (try go_split_ands); go_simp; (try with_reducible rfl))
            try simp only [Act.put, za1, za2, za3, za4, za5, za6]
            refine wpAnyH_ready (rs := [17]) (by kernel_rfl) (by simp) (AllReadyH.cons rfl (fun K hK => ?_) AllReadyH.nil)
            go_simp
            refine hK.out _ _ ?_ (fun hHeld => ?_)
            · ((try dsimp only); (try dsimp only at hHeld); exact KS11.out _)
            clear hK K
            try dsimp only at hHeld
            try simp only [Act.put, za1, za2, za3, za4, za5, za6]
            refine wpAnyH_done (by kernel_rfl) ?_ _
            go_wp2_with fail
            go_meet
            refine ⟨⟨A10, sk2.n + 1, c10⟩, C10.out.1.set_ _ _, (by have h := C10.out.2.1; rw [vN_ins f.kids (f.i + 1) q] at h; exact far_own66 h C10.out.1 (by decide) _ _), (C10.out.2.2.1.mono (O' := fun b => sk2.own b ∨ b = Bw) fun b e => .inl (.inl e)).store (p := ⟨Bw, i' * 6 + 2, none⟩) (.inr (.inr rfl)) _, fun b hb => ?_⟩
            have hb : (Value.slice A10 (sk2.n + 1) c10).ownBlock = some b := hb
            rw [ownB] at hb
            rcases C10.out.2.2.2 b hb with h | h
            · left; show (Value.slice _ _ _).ownBlock = _; rw [ownB]; exact h
            · right; rw [alloc_size] at h; have h : w9.heap.size + 1 ≤ b := h; omega
         case rest =>
          obtain ⟨k2, hB11, ho11, ev11, nb11⟩ := hcut
          rename World => w11
          have hO11 : ∀ b, sk2.own b ∨ b = Bw → m' ≤ b ∧ b < z ∨ b = Bw := fun b hb => hb.imp (fun k => ⟨(HQ.out.2.2.2.1 b (.inl k)).1, (HQ.out.2.2.2.1 b (.inl k)).2.1⟩) id
          have B11 := HR.out.1.evw ev11 hO11 hB11 (fun j hj => Array.getElem?_setIfInBounds_ne (by omega))
          have oe11 := ev11.own HR.out.2.2.1 (fun b hb h => by
           rcases h with h | h
           · obtain ⟨cs', hb'⟩ := own_blk17 HR.out.2.2.1 hb
             exact own_blk_ne HR.out.2.1 hb' (by decide) h
           · obtain ⟨cs', hb'⟩ := own_blk17 HR.out.2.2.1 hb
             exact absurd (hb'.ty (h ▸ HR.out.1.blk)) (by decide))
          have hlt2 := (Array.getElem?_eq_some_iff.1 HTT.out.1).1
          have hcc : ∀ j, j ≠ i' * 6 + 2 → j ≠ i' * 6 + 3 → (cs3.setIfInBounds (i' * 6 + 2) k2.v)[j]? = cs2[j]? := fun j h1 h2 => (Array.getElem?_setIfInBounds_ne (fun e => h1 e.symm)).trans (HR.out.2.2.2.2.2 j h2)
          have HZ := Lib.hid (And.intro B11 (And.intro oe11 (And.intro ho11 (And.intro nb11 hcc))))
          clear B11 oe11 ho11 nb11 hcc hB11 ev11 hO11 IN KN f2 y2 y5
          go_wp2_with fail
          have hpq : ∀ b, k2.own b → ¬ P2.own b := fun b hb hp => by
           have h8 := World.ownsRow.lt HG.out.1.ch.pg b hp
           rcases HZ.out.2.2.2.1 b hb with h | h
           · have := (HQ.out.2.2.2.1 b (.inl h)).2.1; omega
           · omega
          refine ⟨⟨rfl, i', m', ss', fs', T.set q true, P2, Y2, wr2, cs3.setIfInBounds (i' * 6 + 2) k2.v, false, f.p, 0, insI f.kids (f.i + 1) q, insI f.seps f.i ⟨xs, xp, xq⟩, k2, e2, by go_num, ⟨HZ.out.1, ?_, ?_, ?_, ?_, ?_, ⟨HZ.out.2.1, fun _ => HZ.out.2.2.1, fun e => by cases e⟩, hpq, HQ.out.2.2.2.2.2.2.1, ?_, ?_, ?_, HG.out.2.2.1, by omega, HL.out.2.2.2, HG.out.2.2.2.2.2.2.2.1⟩⟩, ?_⟩
          · exact (HZ.out.2.2.2.2 _ (by omega) (by omega)).trans HT.out.1
          · exact (HZ.out.2.2.2.2 _ (by omega) (by omega)).trans HT.out.2.1
          · rw [Array.getElem?_setIfInBounds_self_of_lt hlt2]
          · rw [Array.getElem?_setIfInBounds_ne (by omega)]; exact HR.out.2.2.2.2.1
          · exact (HZ.out.2.2.2.2 _ (by omega) (by omega)).trans HT.out.2.2.2.2.1
          · have := HQ.out.2.2.2.2.2.2.2
            rw [frSt_cur] at this
            exact this
          · have := HG.out.2.2.2.2.1
            rw [List.foldl_cons, frSt_cur] at this
            exact this
          · have := HG.out.2.2.2.2.2.1
            have := Hi.out.2
            omega
          · simp [intOf]; have := Hi.out.2; omega
end
end Go.Proofs.YtebobcbaloddaaaGreat
namespace Go.Proofs.YtebobcbaloddaaaGreat
section
set_option linter.unusedSimpArgs false
set_option linter.unusedVariables false
open Go.RowKit Go.Maps
theorem ins_tree2 {ps : List (List UInt8)} {T : List Bool} {root h : Nat} {d : Nd} {l : List En} {x : En} {st : Stt} (t : TreeK ps T root l h d) (hT : T.length = ps.length) (hb : ps.length ≤ 4095) (HI : InsOk ps T h d 0 x st) :
 (∀ root', (insP ps T root h st).2.2 = some root' → ∃ h' d', TreeK (insP ps T root h st).1 (insP ps T root h st).2.1 root' (withP l x) h' d' ∧ freeN (insP ps T root h st).2.1 + d'.P.length = freeN T + d.P.length ∧ (∀ p : Nat, T[p]? = some true → (insP ps T root h st).2.1[p]? = some true) ∧ (∀ p ∈ d'.P, p ∈ d.P ∨ T[p]? = some false) ∧ (∀ p : Nat, T[p]? = some true → p ∉ d.P → (insP ps T root h st).1[p]? = ps[p]?) ∧ ∀ wr r, (setR h root st).1 = some (wr, r) → ∀ w ∈ wr, w.1 ∈ d'.P) ∧
 ((insP ps T root h st).2.2 = none → (insP ps T root h st).1 = ps ∧ (freeN T ≤ h ∨ h = 12) ∧ (∀ p : Nat, T[p]? = some true → (insP ps T root h st).2.1[p]? = some true)) ∧ (insP ps T root h st).1.length = ps.length ∧ (insP ps T root h st).2.1.length = T.length := by
 obtain ⟨h1, h2, hsub, hp, hL, hnd, hmk⟩ := t
 cases st with
 | no T' =>
   obtain ⟨a, b, c⟩ := HI
   exact ⟨fun r hr => (by cases hr), fun _ => ⟨rfl, .inl (by omega), c⟩, rfl, b⟩
 | done wr T' =>
   obtain ⟨d', k1, k2, k3, k4, k5, k6⟩ := HI
   refine ⟨fun r hr => ?_, fun hr => (by cases hr), wrA_len _ _, k5.len⟩
   have hr : some root = some r := hr
   injection hr with hr
   subst hr
   exact ⟨h, d', ⟨h1, h2, k1, by rw [k2, hp], by rw [k4, hL], k5.nodup, k5.tru⟩, k5.cnt, k5.up, k5.old, fun q hq hn => wrA_far wr ps q fun w hw e => (k5.old q (e ▸ k6 w hw)).elim (fun k => hn k) (fun k => by rw [hq] at k; cases k), fun wr2 r2 e w hw => by
    have e : some (wr, root) = some (wr2, r2) := e
    injection e with e
    injection e with e1 e2
    exact k6 w (by rw [e1]; exact hw)⟩
 | up wr T' sep q =>
   obtain ⟨d1, d2, g1, g2, g3, g4, g5, gq, g6, g7, g8, g9, g10, g11, g12, g13, g14, g15⟩ := HI
   unfold insP
   by_cases h12 : h = 12
   · simp only
     rw [if_pos h12]
     exact ⟨fun r hr => (by cases hr), fun _ => ⟨rfl, .inr h12, g13.up⟩, rfl, g13.len⟩
   · simp only
     rw [if_neg h12]
     cases hr : freeI T' with
     | none =>
       refine ⟨fun r hr => (by cases hr), fun _ => ⟨rfl, .inl ?_, g13.up⟩, rfl, g13.len⟩
       have := freeN_full (freeI_none hr)
       omega
     | some r =>
       simp only
       obtain ⟨P1, hrP, hrl, hrT⟩ := g13.take hr
       have hroot : root < ps.length := by
        have hpl : ps[d.p]? ≠ none := by
         obtain ⟨k, rfl⟩ : ∃ k, h = k + 1 := ⟨h - 1, by omega⟩
         cases k with
         | zero => rw [hsub.1]; simp
         | succ k =>
           obtain ⟨_, _, _, _, e, _, _⟩ := sub_to hsub
           rw [e]; simp
        rw [← hp]
        rcases Nat.lt_or_ge d.p ps.length with e | e
        · exact e
        · exact absurd (List.getElem?_eq_none e) hpl
       have hne : ∀ e ∈ d1.P ++ d2.P, e ≠ r := fun e he he' => hrP (by rw [← he']; exact he)
       have hset : ∀ e, e ∈ d1.P ++ d2.P → ((wrA ps wr).set r (kidL [root, q] [sep]))[e]? = (wrA ps wr)[e]? := fun e he => List.getElem?_set_ne fun k => hne e he k.symm
       obtain ⟨k, rfl⟩ : ∃ k, h = k + 1 := ⟨h - 1, by omega⟩
       have K : InOk ((wrA ps wr).set r (kidL [root, q] [sep])) k [d1, d2] [sep] 0 :=
        ⟨⟨sub_frame _ _ _ g1 fun e he => hset e (by simp [he]), sub_frame _ _ _ g2 fun e he => hset e (by simp [he]), trivial⟩,
         ⟨fun y hy => ⟨fun s h0 => absurd h0 (by omega), fun s hs => by injection hs with hs; rw [← hs]; exact g9 y hy⟩, ⟨fun y hy => ⟨fun s _ hs => by injection hs with hs; rw [← hs]; exact g10 y hy, fun s hs => by simp at hs⟩, trivial⟩⟩, rfl,
         fun e he => by
          simp only [List.mem_cons, List.not_mem_nil, or_false] at he
          rcases he with rfl | rfl
          · rw [g3, hp]; omega
          · rw [g5]; omega,
         fun e he => by rw [List.mem_singleton] at he; rw [he]; exact g11,
         may_parts.2 ⟨fun e he => by rw [List.mem_singleton] at he; rw [he]; exact g12, List.pairwise_singleton _ _⟩,
         fun e he => by
          simp only [List.mem_cons, List.not_mem_nil, or_false] at he
          rcases he with rfl | rfl
          · exact g7
          · exact g8⟩
       have hkid : [d1, d2].map Nd.p = [root, q] := by simp [g3, g5, hp]
       have hSub := sub_of (p := r) K (by simp) (by rw [hkid, List.getElem?_set_self (by rw [wrA_len]; omega)]) (by
        show sumE [sep] + 4 * 1 ≤ 500
        simp [sumE]; omega)
       have hPd : (ndOf r [d1, d2]).P = r :: (d1.P ++ d2.P) := by simp [ndOf]
       refine ⟨fun r' hr' => ?_, fun hr' => (by cases hr'), by rw [wrA_len], by rw [List.length_set, g13.len]⟩
       injection hr' with hr'
       subst hr'
       refine ⟨k + 2, ndOf r [d1, d2], ⟨by omega, by omega, by rw [wrA_app]; exact hSub, rfl, ?_, by rw [hPd]; exact P1.nodup, by rw [hPd]; exact P1.tru⟩, by rw [hPd]; exact P1.cnt, P1.up, by rw [hPd]; exact P1.old, fun q1 hq hn => ?_, fun wr2 r2 e w hw => ?_⟩
       · show ([d1, d2].map Nd.L).flatten = _
         rw [← hL]
         simp [g6]
       · have hpo : q1 ∉ r :: (d1.P ++ d2.P) := fun e => (P1.old q1 e).elim (fun k => hn k) (fun k => by rw [hq] at k; cases k)
         refine wrA_far _ _ q1 fun w hw e => hpo ?_
         rcases List.mem_append.1 hw with hw | hw
         · rw [← e]; exact List.mem_cons_of_mem _ (g14 w hw)
         · rw [List.mem_singleton] at hw
           rw [← e, hw]; simp
       · rw [setR_upS h12 hr] at e
         injection e with e
         injection e with e1 e2
         rw [hPd]
         rw [← e1] at hw
         rcases List.mem_append.1 hw with hw | hw
         · exact List.mem_cons_of_mem _ (g14 w hw)
         · rw [List.mem_singleton] at hw
           rw [hw]; simp
theorem ins_at {es : List En} {x : En} {i : Nat} (h : BsOk es x i) (hx : x ∉ es) : insI es i x = withP es x := by
 have e : es = es.take i ++ es.drop i := (List.take_append_drop _ _).symm
 have h1 : ∀ y ∈ es.take i, lessE x y = false := fun y hy => by
  obtain ⟨j, hj⟩ := List.getElem?_of_mem hy
  have hji : j < i := by have := lt_of_at hj; rw [List.length_take] at this; omega
  rw [List.getElem?_take_of_lt hji] at hj
  have := h.lo j y hj hji
  have := cmpE_swap y x
  rw [lessE_cmp]
  simp; omega
 conv => rhs; rw [e]
 rw [with_app1 _ _ h1]
 unfold insI
 congr 1
 cases hd : es.drop i with
 | nil => rfl
 | cons y r =>
   have hy : es[i]? = some y := by rw [← List.head?_drop, hd]; rfl
   have h2 := h.hi i y hy (Nat.le_refl _)
   have h3 : cmpE y x ≠ 0 := fun e => hx (by rw [← cmpE_zero e]; exact List.mem_of_getElem? hy)
   have h4 := cmpE_swap y x
   have : lessE x y = true := by rw [lessE_cmp]; simp; omega
   rw [withP, if_pos this]
theorem way_top {ps : List (List UInt8)} {x : En} : ∀ (f p : Nat) (frs : List Fr11) (lp N : Nat) (es : List En), wayP ps f p x = some (frs, lp, N, es) → topP lp frs = p
 | 0, _, _, _, _, _, h => by cases h
 | f + 1, p, frs, lp, N, es, h => by
   rw [wayP] at h
   split at h
   · cases h
   · split at h
     · cases h
     · injection h with h
       injection h with h1 h
       injection h with h2 h
       rw [← h1, ← h2]; rfl
     · obtain ⟨r, hr, he⟩ := Option.map_eq_some_iff.1 h
       injection he with h1 he
       rw [← h1, topP_snoc]
theorem way_len {ps : List (List UInt8)} {x : En} : ∀ (h : Nat) (d : Nd) (nx : Nat), Sub ps h d nx → ∀ f, h ≤ f → ∀ frs lp N es, wayP ps f d.p x = some (frs, lp, N, es) → sumE es ≤ 504
 | 0, _, _, hs, _, _, _, _, _, _, _ => hs.elim
 | 1, d, nx, hs, f, hf, frs, lp, N, es, hw => by
   obtain ⟨f', rfl⟩ : ∃ f', f = f' + 1 := ⟨f - 1, by omega⟩
   obtain ⟨hp, hnx, hok, hmay, hfit, hP, hdf, hk⟩ := hs
   rw [wayP, hp] at hw
   simp only at hw
   rw [rdPg_leaf nx d.L hnx hok hmay hfit] at hw
   simp only at hw
   injection hw with hw
   injection hw with h1 hw
   injection hw with h2 hw
   injection hw with h3 h4
   rw [← h4]
   exact hfit
 | h + 2, d, nx, hs, f, hf, frs, lp, N, es, hw => by
   obtain ⟨f', rfl⟩ : ∃ f', f = f' + 1 := ⟨f - 1, by omega⟩
   obtain ⟨ds, seps, H, hsn, hp, hfit, hd⟩ := sub_to hs
   obtain ⟨m1, m2⟩ := may_parts.1 H.may
   obtain ⟨c1, c2, c3⟩ := chN_at m2 x
   obtain ⟨k1, k2, k3⟩ := kidL_page H hsn hfit
   have hlen := H.len
   have hil : chN seps x < ds.length := by omega
   have hget : ((ds.map Nd.p).headD 0 :: (seps.zip (ds.map Nd.p).tail).map Prod.snd).getD (chN seps x) 0 = (ds[chN seps x]).p := by
    rw [k3, List.getD_eq_getElem?_getD, List.getElem?_map, List.getElem?_eq_getElem hil]; rfl
   rw [wayP, hp] at hw
   simp only at hw
   rw [k1] at hw
   simp only at hw
   rw [k2, hget, k3] at hw
   cases hwd : wayP ps f' (ds[chN seps x]).p x with
   | none => rw [hwd] at hw; cases hw
   | some r =>
     rw [hwd] at hw
     simp only [Option.map_some] at hw
     obtain ⟨frs', lp', N', es'⟩ := r
     injection hw with hw
     injection hw with h1 hw
     injection hw with h2 hw
     injection hw with h3 h4
     rw [← h4]
     exact way_len (h + 1) _ _ (H.chn.iff_at _ _ (List.getElem?_eq_getElem hil)) f' (by omega) _ _ _ _ hwd
end
end Go.Proofs.YtebobcbaloddaaaGreat
