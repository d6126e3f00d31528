/-
  B68 B69 B70 B71 B72.
-/
import Derived.Test.YtebobcbaloddaaaGreatMfbx
import Derived.Test.YtebobcbaloddaaaGreatMfbu
import Derived.Test.YtebobcbaloddaaaGreatMfbs
import Derived.Deep.DeepCutAuto
import Derived.BigQuiet
import Derived.Test.YtebobcbaloddaaaGreatMfzz
namespace Go.Proofs.YtebobcbaloddaaaGreat
section
set_option linter.unusedSimpArgs false
set_option linter.unusedVariables false
open Go.RowKit Go.Maps
def RetIns (w : World) (g gb gt n : Nat) (ps : List (List UInt8)) (T : List Bool) (root h : Nat) (d : Nd) (l : List En) (x : En) (e : Ending) (w' : World) : Prop :=
 Lf w w' gb gt ∧ (200 < x.s.size → e = .returned (.tuple #[.int .u32 0, .int .i64 1]) ∧ DP w' g gb gt n ps T) ∧
  (x.s.size ≤ 200 → x ∈ l → e = .returned (.tuple #[.int .u32 0, .int .i64 10]) ∧ DP w' g gb gt n ps T) ∧
  (x.s.size ≤ 200 → x ∉ l → ∃ ps' T', DP w' g gb gt n ps' T' ∧ (∀ p : Nat, T[p]? = some true → T'[p]? = some true) ∧
   ((∃ (root' h' : Nat) (d' : Nd), e = .returned (.tuple #[.int .u32 (root' : Int), .int .i64 0]) ∧ TreeK ps' T' root' (withP l x) h' d' ∧ freeN T' + d'.P.length = freeN T + d.P.length ∧ (∀ p ∈ d'.P, p ∈ d.P ∨ T[p]? = some false) ∧ ∀ p : Nat, T[p]? = some true → p ∉ d.P → ps'[p]? = ps[p]?) ∨
     (e = .returned (.tuple #[.int .u32 0, .int .i64 7]) ∧ ps' = ps ∧ (freeN T ≤ h ∨ h = 12))))
def RetBs2 (w : World) (l : List En) (x : En) (b : Bool) (e : Ending) (w' : World) : Prop := ∃ i, BsOk l x i ∧ e = .returned (.tuple #[.int .i64 (i : Int), .bool b]) ∧ Below w.heap.size w w'
theorem own_open68 {w : World} {base n c size : Nat} {e : TypeId} {b : Nat} {xs : List Value} (h : w.ownsRow base e size (.slice (some ⟨b, 0, none⟩) n c) n xs) (hn : 0 < n) : ∃ cs, Blk w b e cs ∧ base ≤ b ∧ ∀ j, j < n * size → cs[j]? = xs[j]? := by
 rcases h.2 with ⟨e1, _⟩ | ⟨g, cap, cur, e1, hb, hB, hnc, hcm, hcs, hxs⟩
 · injection e1 with e1 e2 e3; omega
 · injection e1 with e1 e2 e3
   injection e1 with e1
   injection e1 with e1
   subst e1
   refine ⟨cur, hB, hb, fun j hj => ?_⟩
   rw [← hxs, List.getElem?_take_of_lt hj, Array.getElem?_toList]
set_option maxRecDepth 100000 in
set_option maxHeartbeats 8000000 in
theorem insert_any {w : World} {g gb gt n : Nat} {ps : List (List UInt8)} {T : List Bool} (hD : DP w g gb gt n ps T) (hn : n ≤ 4095) {root h : Nat} {d : Nd} {l : List En} (t : TreeK ps T root l h d) (hri : riseP l) (x : En) (hx : x.ok) :
 Calls Tryz.prog 12 #[.pointer (some ⟨g, 0, none⟩), .int .u32 (root : Int), x.agg] w (RetIns w g gb gt n ps T root h d l x) := by
 have hT := hD.hT
 have hps := hD.hp
 have hlts := hD.lts
 by_cases hk : 200 < x.s.size
 · have HD := Lib.hid hD
   clear hD t hri hx
   obtain ⟨xs, xp, xq⟩ := x
   have hk : 200 < xs.size := hk
   have hkI : (200 : Int) < (xs.size : Int) := by omega
   unfold En.agg
   simp only
   go_enter Tryz.func12, Tryz.ntmps12
   go_wp2_with fail
   go_ret2
   have hb := ball (Below.refl w.heap.size w) (.cells #[.string xs, .int .u32 xp, .int .u16 xq] 37)
   exact ⟨Lf.of_below hb, fun _ => ⟨rfl, HD.out.lower hb⟩, fun h => absurd hk (by have h : xs.size ≤ 200 := h; omega), fun h => absurd hk (by have h : xs.size ≤ 200 := h; omega)⟩
 · have hk2 : x.s.size ≤ 200 := by omega
   have hroot : root < n := by
    have := t.sub
    have hpl : ps[d.p]? ≠ none := by
     have h1 := t.h1
     obtain ⟨k, rfl⟩ : ∃ k, h = k + 1 := ⟨h - 1, by omega⟩
     cases k with
     | zero => rw [this.1]; simp
     | succ k =>
       obtain ⟨_, _, _, _, e, _, _⟩ := sub_to this
       rw [e]; simp
    rw [← hps, ← t.p]
    rcases Nat.lt_or_ge d.p ps.length with e | e
    · exact e
    · exact absurd (List.getElem?_eq_none e) hpl
   obtain ⟨frs, lp, N, es, hw, hfl, hmem, hrise, hins⟩ := way_sub hx hk2 (by omega) (by omega) h d 0 t.sub t.nd t.tk (by rw [t.L]; exact hri) 12 t.h2
   have hmem : x ∈ es ↔ x ∈ l := by rw [hmem, t.L]
   have hlen : es.length ≤ 504 := by
    have h1 := way_len h d 0 t.sub 12 t.h2 frs lp N es hw
    have h2 := sumE_eq es
    omega
   rw [t.p] at hw
   have hb1 := ball (Below.refl w.heap.size w) (.cells #[.string x.s, .int .u32 x.p, .int .u16 x.q] 37)
   have X1 := Blk.new w 37 #[.string x.s, .int .u32 x.p, .int .u16 x.q]
   have DS := Lib.hid (descend_any (hD.lower hb1) (by omega) root (by omega) x hw (by have := t.h2; omega))
   have WO := Lib.hid fun (hxl : x ∉ d.L) => way_ok hx hk2 (by omega) (by omega) h d 0 t.sub t.nd t.tk (by rw [t.L]; exact hri) 12 t.h2 hxl frs lp N es (by rw [t.p]; exact hw)
   have WT := Lib.hid (way_top 12 root frs lp N es hw)
   have H0 := Lib.hid (And.intro hD (And.intro t (And.intro hb1 (And.intro X1 (And.intro hfl (And.intro hmem hrise))))))
   have Hk := Lib.hid hk2
   have HX := Lib.hid hx
   have hw1 : (w.alloc (.cells #[.string x.s, .int .u32 x.p, .int .u16 x.q] 37)).heap.size = w.heap.size + 1 := by simp
   clear hD t hb1 X1 hfl hmem hrise hins hw hk hx hri hk2
   obtain ⟨xs, xp, xq⟩ := x
   unfold En.agg at DS ⊢
   simp only at DS H0 hw1 ⊢
   have hkI : ¬ (200 : Int) < (xs.size : Int) := by have h : xs.size ≤ 200 := Hk.out; omega
   have hkI' : (xs.size : Int) ≤ 200 := by omega
   go_enter Tryz.func12, Tryz.ntmps12
   go_wp2_with fail
   obtain ⟨w1, hW1⟩ : ∃ x, w.alloc (.cells #[.string xs, .int .u32 xp, .int .u16 xq] 37) = x := ⟨_, rfl⟩
   rw [hW1] at DS H0 hw1 ⊢
   clear hW1
   refine DS.out.mono ?_
   rintro e1 w2 ⟨sL, ss, Bw, cw, zb, rfl, ho, hwr, hzb, hsl, hog, hb2⟩
   obtain ⟨slf, sN, sk, se, spp, si⟩ := sL
   obtain ⟨e1, e2, e3, e4, he2⟩ := hsl
   simp only at e1 e2 e3 e4 he2
   subst e1; subst e2; subst e3; subst e4
   obtain ⟨cs, hB2, hab, hcs⟩ := own_open68 ho (by omega)
   have hall : ∀ (j : Nat) (s : Stp), (⟨true, sN, ⟨none, 0, 0⟩, se, spp, si⟩ :: ss : List Stp).reverse[j]? = some s → ∀ t, t < 6 → cs[j * 6 + t]? = s.cells[t]? := fun j s hs t ht => by
    have hj := lt_of_at hs
    rw [List.length_reverse, List.length_cons] at hj
    rw [hcs _ (by omega)]
    exact vSt_at hs t ht
   obtain ⟨L, hL⟩ : ∃ L, ss.length = L := ⟨_, rfl⟩
   have hlast := hall L ⟨true, sN, ⟨none, 0, 0⟩, se, spp, si⟩ (by rw [List.reverse_cons, List.getElem?_append_right (by rw [List.length_reverse]; omega), List.length_reverse, hL]; simp)
   have hup : ∀ (j : Nat) (s : Stp), ss.reverse[j]? = some s → ∀ t, t < 6 → cs[j * 6 + t]? = s.cells[t]? := fun j s hs => hall j s (by rw [List.reverse_cons, List.getElem?_append_left (lt_of_at hs)]; exact hs)
   have c0 : cs[L * 6]? = some (.bool true) := hlast 0 (by decide)
   have c1 : cs[L * 6 + 1]? = some (.int .u32 (sN : Int)) := hlast 1 (by decide)
   have c2 : cs[L * 6 + 2]? = some (.slice none 0 0) := hlast 2 (by decide)
   have c3 : cs[L * 6 + 3]? = some (.slice se.A se.n se.c) := hlast 3 (by decide)
   have c4 : cs[L * 6 + 4]? = some (.int .u32 (spp : Int)) := hlast 4 (by decide)
   have hLh : L + 1 = h := by have := hwr.len; have := H0.out.2.2.2.2.1; omega
   have h12 := H0.out.2.1.h2
   have q0 : (0 : Int) ≤ (L : Int) := by omega
   have q1 : (L : Int) < (L : Int) + 1 := by omega
   have q2 : (L : Int) ≤ 12 := by omega
   have hlb := own_cap ho
   rw [hL] at ho ⊢
   have X2 := H0.out.2.2.2.1.below hb2 (by omega)
   have y3 := cell66 hB2 c3
   have x0 : w2.cell? ⟨w.heap.size, 0, none⟩ = some (.string xs) := X2.cell 0
   have x1 : w2.cell? ⟨w.heap.size, 1, none⟩ = some (.int .u32 xp) := X2.cell 1
   have x2 : w2.cell? ⟨w.heap.size, 2, none⟩ = some (.int .u16 xq) := X2.cell 2
   have hen : se.n = es.length := by have := he2.1; rw [vE_len] at this; omega
   have BS := Lib.hid (show ∀ W, Below w2.heap.size w2 W → Calls Tryz.prog 29 #[.slice se.A se.n se.c, .agg #[.string xs, .int .u32 xp, .int .u16 xq], .func (.func 30) #[] #[]] W (RetBs2 W es ⟨xs, xp, xq⟩ (decide ((⟨xs, xp, xq⟩ : En) ∈ es))) from fun W hb => bsearch_any se.A se.n se.c es ⟨xs, xp, xq⟩ W (((Reads.of_own he2).below hb).more hb.size) (by omega) H0.out.2.2.2.2.2.2)
   have lx := X2.lt
   have lB := hB2.lt
   have hz2 := hb2.size
   have Hcs := Lib.hid (And.intro c0 (And.intro c1 (And.intro c2 (And.intro c3 (And.intro c4 hup)))))
   have HW := Lib.hid (And.intro hB2 (And.intro hwr (And.intro he2 (And.intro hb2 (And.intro X2 (And.intro hab hL))))))
   have Hen := Lib.hid (And.intro hen hLh)
   clear c0 c1 c2 c3 c4 hup hlast hall hB2 hwr he2 hb2 X2 hab hL hen hcs ho hog DS h12 hLh
   by_cases hin : (⟨xs, xp, xq⟩ : En) ∈ es
   · have hdt : decide ((⟨xs, xp, xq⟩ : En) ∈ es) = true := by simpa using hin
     rw [hdt] at BS
     have Hin := Lib.hid hin
     clear hin hdt
     go_wp2_with fail
     go_region_with (refine (BS.out _ (by with_reducible repeat (first | exact Below.refl _ _ | refine bdr ?_ _ | refine Below.drew ?_ | refine ball ?_ _))).mono ?_; rintro e3 w3 ⟨ix, bs, rfl, hb3⟩; have H3 := Lib.hid (And.intro bs hb3); clear bs hb3)
     all_goals (
      go_wp2_with fail
      go_ret2
      have hb03 := bto0 H0.out.2.2.1 (bto0 HW.out.2.2.2.1 (bto0 (Below.drew (Below.refl _ _)) H3.out.2))
      exact ⟨Lf.of_below hb03, fun h => absurd h (by have h2 : xs.size ≤ 200 := Hk.out; show ¬ 200 < xs.size; omega), fun _ _ => ⟨rfl, H0.out.1.lower hb03⟩, fun _ h => absurd (H0.out.2.2.2.2.2.1.1 Hin.out) h⟩)
   · have hdt : decide ((⟨xs, xp, xq⟩ : En) ∈ es) = false := by simpa using hin
     rw [hdt] at BS
     have Hin := Lib.hid hin
     clear hin hdt
     go_upto_region 7 with fail
     go_cut [11, 12] (fun s11 s12 wx => ∃ ix : Nat, s11 = .int .i64 (ix : Int) ∧ s12 = .bool false ∧ BsOk es ⟨xs, xp, xq⟩ ix ∧ Below w2.heap.size w2 wx)
     case first =>
      go_region_with (refine (BS.out _ (by with_reducible repeat (first | exact Below.refl _ _ | refine bdr ?_ _ | refine Below.drew ?_ | refine ball ?_ _))).mono ?_; rintro e3 w3 ⟨ix, bs, rfl, hb3⟩; have H3 := Lib.hid (And.intro bs hb3); clear bs hb3)
      all_goals (
       go_wp2_with fail
       go_meet
       exact ⟨ix, rfl, rfl, H3.out.1, bto0 (Below.drew (Below.refl _ _)) H3.out.2⟩)
     case rest =>
      obtain ⟨ix, rfl, rfl, bs, hb3⟩ := hcut
      rename World => w3
      have B3 := HW.out.1.below hb3 lB
      have X3 := HW.out.2.2.2.2.1.below hb3 lx
      have o3 := own_below HW.out.2.2.1 hb3
      have hz3 := hb3.size
      have y3 := cell66 B3 Hcs.out.2.2.2.1
      have f3 := B3.frozen (L * 6 + 3)
      have l3 := B3.lt
      have ix0 := bs.le
      have IE := Lib.hid (insE_any (w := w3.drew.alloc (.cells #[.string xs, .int .u32 xp, .int .u16 xq] 37)) (base := zb) (n := se.n) (c := se.c) (g := w3.heap.size) (i := ix) (A := se.A) (xs := vE es) (news := [.string xs, .int .u32 xp, .int .u16 xq]) (own_below o3 (ball (Below.drew (Below.refl _ _)) _)) (by have := Hen.out.1; have := hlen; omega) (by rw [alloc_size]; show zb ≤ w3.heap.size + 1; omega) (by have := Hen.out.1; omega) (Blk.new w3.drew _ _) rfl (fun u hu => by
       rcases List.mem_append.1 hu with hu | hu
       · exact vE_one66 _ u hu
       · exact vE_one66 [⟨xs, xp, xq⟩] u hu) (fun e => by
       have h1 : se.own w3.heap.size := by
        show (Value.slice se.A se.n se.c).ownBlock = _
        rw [ownB]; exact e
       have := (World.ownsRow.lt o3 _ h1).2
       omega))
      have KS := Lib.hid (show ∀ W, Below w3.heap.size w3 W → W.cell? ⟨w.heap.size, 0, none⟩ = some (.string xs) ∧ W.cell? ⟨w.heap.size, 1, none⟩ = some (.int .u32 xp) ∧ W.cell? ⟨w.heap.size, 2, none⟩ = some (.int .u16 xq) from fun W hb => by
       have b2 := X3.below hb X3.lt
       exact ⟨b2.cell 0, b2.cell 1, b2.cell 2⟩)
      have hsz : ¬ se.own w.heap.size ∧ ¬ se.own Bw := ⟨fun h => by have := (World.ownsRow.lt o3 _ h).1; have := HW.out.2.1.le; omega, fun h => own_blk_ne o3 B3 (by decide) h⟩
      have hBw : w.heap.size ≠ Bw := by have := HW.out.2.2.2.2.2.1; omega
      have HI := Lib.hid (And.intro bs (And.intro B3 (And.intro X3 (And.intro o3 (And.intro hb3 (And.intro hsz hBw))))))
      clear bs B3 X3 o3 hb3 BS x0 x1 x2 hsz hBw
      go_upto_region 10 with fail
      go_cut [] (fun wx => ∃ e2 : S11, Blk wx Bw 77 (cs.setIfInBounds (L * 6 + 3) e2.v) ∧ wx.ownsRow zb 37 3 e2.v e2.n (vE (insI es ix ⟨xs, xp, xq⟩)) ∧ EvT (fun b => se.own b ∨ b = Bw) w3 wx ∧ ∀ b, e2.own b → se.own b ∨ w3.heap.size ≤ b)
      case first =>
       refine wp_region_held_drew (S := (fun W => W.cell? ⟨w.heap.size, 0, none⟩ = some (.string xs) ∧ W.cell? ⟨w.heap.size, 1, none⟩ = some (.int .u32 xp) ∧ W.cell? ⟨w.heap.size, 2, none⟩ = some (.int .u16 xq))) (by kernel_rfl) (by exact KS.out _ (Below.drew (Below.refl _ _))) (fun hHeld => ?_)
       try dsimp only at hHeld
       refine zt 0 ?_ rfl (by kernel_rfl) (fun _ _ _ h => h) ⟨rfl, ?_⟩ hHeld ?_
       rotate_left
       focus (intro wx hSw; (try dsimp only at hSw); (try go_split_ands); go_simp; (try with_reducible rfl))
       try simp only [Act.put, za1, za2, za3, za4, za5, za6]
       refine zt 1 ?_ rfl (by kernel_rfl) (fun _ _ _ h => h) ⟨rfl, ?_⟩ hHeld ?_
       rotate_left
       focus (intro wx hSw; (try dsimp only at hSw); (try go_split_ands); go_simp; (try with_reducible rfl))
       try simp only [Act.put, za1, za2, za3, za4, za5, za6]
       refine zt 2 ?_ rfl (by kernel_rfl) (fun _ _ _ h => h) ⟨rfl, ?_⟩ hHeld ?_
       rotate_left
       focus (intro wx hSw; (try dsimp only at hSw); (try go_split_ands); go_simp; (try with_reducible rfl))
       try simp only [Act.put, za1, za2, za3, za4, za5, za6]
       refine zt 3 ?_ rfl (by kernel_rfl) (fun _ _ _ h => h) ⟨rfl, ?_⟩ hHeld ?_
       rotate_left
       focus (intro wx hSw; (try dsimp only at hSw); (try go_split_ands); go_simp; (try with_reducible rfl))
       try simp only [Act.put, za1, za2, za3, za4, za5, za6]
       refine zt 4 ?_ rfl (by kernel_rfl) (fun _ _ _ h => h) ⟨rfl, ?_⟩ hHeld ?_
       rotate_left
       focus (intro wx hSw; (try dsimp only at hSw); (try go_split_ands); go_simp; (try with_reducible rfl))
       try simp only [Act.put, za1, za2, za3, za4, za5, za6]
       refine zt 6 ?_ rfl (by kernel_rfl) (fun _ _ _ h => h) ⟨rfl, ?_⟩ hHeld ?_
       rotate_left
       focus (intro wx hSw; (try dsimp only at hSw); (try go_split_ands); go_simp; (try with_reducible rfl))
       try simp only [Act.put, za1, za2, za3, za4, za5, za6]
       refine zt 7 ?_ rfl (by kernel_rfl) (fun _ _ _ h => h) ⟨rfl, ?_⟩ hHeld ?_
       rotate_left
       focus (intro wx hSw; (try dsimp only at hSw); (try go_split_ands); go_simp; (try with_reducible rfl))
       try simp only [Act.put, za1, za2, za3, za4, za5, za6]
       refine wpAnyH_ready (rs := [5, 8]) (by kernel_rfl) (by simp) (AllReadyH.cons rfl (fun K hK => ?_) (AllReadyH.cons rfl (fun K hK => ?_) AllReadyH.nil))
       · go_simp
         refine hK.out _ _ ?_ (fun hHeld => ?_)
         · ((try dsimp only); (try dsimp only at hHeld); exact KS.out _ (by with_reducible repeat (first | exact Below.refl _ _ | refine bdr ?_ _ | refine Below.drew ?_ | refine ball ?_ _)))
         clear hK K
         try dsimp only at hHeld
         try simp only [Act.put, za1, za2, za3, za4, za5, za6]
         refine wpAnyH_ready (rs := [8]) (by kernel_rfl) (by simp) (AllReadyH.cons rfl (fun K hK => ?_) AllReadyH.nil)
         go_simp
         refine hK.out _ _ ?_ (fun hHeld => ?_)
         · ((try dsimp only); (try dsimp only at hHeld); exact KS.out _ (by with_reducible repeat (first | exact Below.refl _ _ | refine bdr ?_ _ | refine Below.drew ?_ | refine ball ?_ _)))
         clear hK K
         try dsimp only at hHeld
         try simp only [Act.put, za1, za2, za3, za4, za5, za6]
         refine wpAnyH_ready (rs := [9]) (by kernel_rfl) (by simp) (AllReadyH.cons rfl (fun K hK => ?_) AllReadyH.nil)
         go_simp
         refine IE.out.mono ?_
         rintro e10 w10 ⟨A10, c10, rfl, ho10, ev10, nb10⟩
         have E10 : EvT se.own w3 w10 := (EvT.of_below (O := se.own) (ball (Below.drew (Below.refl w3.heap.size w3)) (.cells #[.string xs, .int .u32 xp, .int .u16 xq] 37))).trans (ev10.mono (O' := se.own) fun b hb => .inl (by show (Value.slice _ _ _).ownBlock = _; rw [ownB]; exact hb)) (fun b e => .inl e)
         have b10 := E10.blk HI.out.2.1 HI.out.2.2.2.2.2.1.2
         have x10 := E10.blk HI.out.2.2.1 HI.out.2.2.2.2.2.1.1
         have KS10 := Lib.hid (And.intro (x10.cell 0) (And.intro (x10.cell 1) (x10.cell 2)))
         have KS11 := Lib.hid (fun (u : Value) => have x11 := x10.far (p := ⟨Bw, L * 6 + 3, none⟩) HI.out.2.2.2.2.2.2 u; And.intro (x11.cell 0) (And.intro (x11.cell 1) (x11.cell 2)))
         have d10 := cell66 b10 Hcs.out.2.2.2.1
         have f10 := b10.frozen (L * 6 + 3)
         have l10 := b10.lt
         have C10 := Lib.hid (And.intro b10 (And.intro ho10 (And.intro E10 nb10)))
         clear b10 ho10 E10 ev10 nb10 x10
         go_wp2_with fail
         refine hK.out _ _ ?_ (fun hHeld => ?_)
         · ((try dsimp only); (try dsimp only at hHeld); exact KS10.out)
         clear hK K
         try dsimp only at hHeld
         try simp only [Act.put, za1, za2, za3, za4, za5, za6]
         refine zt 10 ?_ rfl (by kernel_rfl) (fun _ _ _ h => h) ⟨rfl, ?_⟩ hHeld ?_
         rotate_left
         focus (intro wx hSw; (try dsimp only at hSw); (try go_split_ands); go_simp; (try with_reducible rfl))
         try simp only [Act.put, za1, za2, za3, za4, za5, za6]
         refine zt 11 ?_ rfl (by kernel_rfl) (fun _ _ _ h => h) ⟨rfl, ?_⟩ hHeld ?_
         rotate_left
         focus (intro wx hSw; (try dsimp only at hSw); (try go_split_ands); go_simp; (try with_reducible rfl))
         try simp only [Act.put, za1, za2, za3, za4, za5, za6]
         refine zt 12 ?_ rfl (by kernel_rfl) (fun _ _ _ h => h) ⟨rfl, ?_⟩ hHeld ?_
         rotate_left
         focus (intro wx hSw; (try dsimp only at hSw); (try go_split_ands); go_simp; (try with_reducible rfl))
         try simp only [Act.put, za1, za2, za3, za4, za5, za6]
         refine wpAnyH_ready (rs := [13]) (by kernel_rfl) (by simp) (AllReadyH.cons rfl (fun K hK => ?_) AllReadyH.nil)
         go_simp
         refine hK.out _ _ ?_ (fun hHeld => ?_)
         · ((try dsimp only); (try dsimp only at hHeld); exact KS11.out _)
         clear hK K
         try dsimp only at hHeld
         try simp only [Act.put, za1, za2, za3, za4, za5, za6]
         refine wpAnyH_done (by kernel_rfl) ?_ _
         go_wp2_with fail
         go_meet
         refine ⟨⟨A10, se.n + 1, c10⟩, C10.out.1.set_ _ _, (by have h := C10.out.2.1; rw [vE_ins3 es ix xs xp xq] at h; exact far_own66 h C10.out.1 (by decide) _ _), (C10.out.2.2.1.mono (O' := fun b => se.own b ∨ b = Bw) fun b e => .inl (.inl e)).store (p := ⟨Bw, L * 6 + 3, none⟩) (.inr (.inr rfl)) _, fun b hb => ?_⟩
         have hb : (Value.slice A10 (se.n + 1) c10).ownBlock = some b := hb
         rw [ownB] at hb
         rcases C10.out.2.2.2 b hb with h | h
         · left; show (Value.slice _ _ _).ownBlock = _; rw [ownB]; exact h
         · right; rw [alloc_size] at h; have h : w3.heap.size + 1 ≤ b := h; omega
       · go_simp
         refine hK.out _ _ ?_ (fun hHeld => ?_)
         · ((try dsimp only); (try dsimp only at hHeld); exact KS.out _ (by with_reducible repeat (first | exact Below.refl _ _ | refine bdr ?_ _ | refine Below.drew ?_ | refine ball ?_ _)))
         clear hK K
         try dsimp only at hHeld
         try simp only [Act.put, za1, za2, za3, za4, za5, za6]
         refine wpAnyH_ready (rs := [5]) (by kernel_rfl) (by simp) (AllReadyH.cons rfl (fun K hK => ?_) AllReadyH.nil)
         go_simp
         refine hK.out _ _ ?_ (fun hHeld => ?_)
         · ((try dsimp only); (try dsimp only at hHeld); exact KS.out _ (by with_reducible repeat (first | exact Below.refl _ _ | refine bdr ?_ _ | refine Below.drew ?_ | refine ball ?_ _)))
         clear hK K
         try dsimp only at hHeld
         try simp only [Act.put, za1, za2, za3, za4, za5, za6]
         refine wpAnyH_ready (rs := [9]) (by kernel_rfl) (by simp) (AllReadyH.cons rfl (fun K hK => ?_) AllReadyH.nil)
         go_simp
         refine IE.out.mono ?_
         rintro e10 w10 ⟨A10, c10, rfl, ho10, ev10, nb10⟩
         have E10 : EvT se.own w3 w10 := (EvT.of_below (O := se.own) (ball (Below.drew (Below.refl w3.heap.size w3)) (.cells #[.string xs, .int .u32 xp, .int .u16 xq] 37))).trans (ev10.mono (O' := se.own) fun b hb => .inl (by show (Value.slice _ _ _).ownBlock = _; rw [ownB]; exact hb)) (fun b e => .inl e)
         have b10 := E10.blk HI.out.2.1 HI.out.2.2.2.2.2.1.2
         have x10 := E10.blk HI.out.2.2.1 HI.out.2.2.2.2.2.1.1
         have KS10 := Lib.hid (And.intro (x10.cell 0) (And.intro (x10.cell 1) (x10.cell 2)))
         have KS11 := Lib.hid (fun (u : Value) => have x11 := x10.far (p := ⟨Bw, L * 6 + 3, none⟩) HI.out.2.2.2.2.2.2 u; And.intro (x11.cell 0) (And.intro (x11.cell 1) (x11.cell 2)))
         have d10 := cell66 b10 Hcs.out.2.2.2.1
         have f10 := b10.frozen (L * 6 + 3)
         have l10 := b10.lt
         have C10 := Lib.hid (And.intro b10 (And.intro ho10 (And.intro E10 nb10)))
         clear b10 ho10 E10 ev10 nb10 x10
         go_wp2_with fail
         refine hK.out _ _ ?_ (fun hHeld => ?_)
         · ((try dsimp only); (try dsimp only at hHeld); exact KS10.out)
         clear hK K
         try dsimp only at hHeld
         try simp only [Act.put, za1, za2, za3, za4, za5, za6]
         refine zt 10 ?_ rfl (by kernel_rfl) (fun _ _ _ h => h) ⟨rfl, ?_⟩ hHeld ?_
         rotate_left
         focus (intro wx hSw; (try dsimp only at hSw); (try go_split_ands); go_simp; (try with_reducible rfl))
         try simp only [Act.put, za1, za2, za3, za4, za5, za6]
         refine zt 11 ?_ rfl (by kernel_rfl) (fun _ _ _ h => h) ⟨rfl, ?_⟩ hHeld ?_
         rotate_left
         focus (intro wx hSw; (try dsimp only at hSw); (try go_split_ands); go_simp; (try with_reducible rfl))
         try simp only [Act.put, za1, za2, za3, za4, za5, za6]
         refine zt 12 ?_ rfl (by kernel_rfl) (fun _ _ _ h => h) ⟨rfl, ?_⟩ hHeld ?_
         rotate_left
         focus (intro wx hSw; (try dsimp only at hSw); (try go_split_ands); go_simp; (try with_reducible rfl))
         try simp only [Act.put, za1, za2, za3, za4, za5, za6]
         refine wpAnyH_ready (rs := [13]) (by kernel_rfl) (by simp) (AllReadyH.cons rfl (fun K hK => ?_) AllReadyH.nil)
         go_simp
         refine hK.out _ _ ?_ (fun hHeld => ?_)
         · ((try dsimp only); (try dsimp only at hHeld); exact KS11.out _)
         clear hK K
         try dsimp only at hHeld
         try simp only [Act.put, za1, za2, za3, za4, za5, za6]
         refine wpAnyH_done (by kernel_rfl) ?_ _
         go_wp2_with fail
         go_meet
         refine ⟨⟨A10, se.n + 1, c10⟩, C10.out.1.set_ _ _, (by have h := C10.out.2.1; rw [vE_ins3 es ix xs xp xq] at h; exact far_own66 h C10.out.1 (by decide) _ _), (C10.out.2.2.1.mono (O' := fun b => se.own b ∨ b = Bw) fun b e => .inl (.inl e)).store (p := ⟨Bw, L * 6 + 3, none⟩) (.inr (.inr rfl)) _, fun b hb => ?_⟩
         have hb : (Value.slice A10 (se.n + 1) c10).ownBlock = some b := hb
         rw [ownB] at hb
         rcases C10.out.2.2.2 b hb with h | h
         · left; show (Value.slice _ _ _).ownBlock = _; rw [ownB]; exact h
         · right; rw [alloc_size] at h; have h : w3.heap.size + 1 ≤ b := h; omega
      case rest =>
       obtain ⟨e2, hB4, ho4, ev4, nb4⟩ := hcut
       rename World => w4
       have hz4 := ev4.size
       have hO4 : ∀ b, se.own b ∨ b = Bw → w1.heap.size ≤ b ∧ b < w3.heap.size := fun b hb => by
        rcases hb with hb | hb
        · have := World.ownsRow.lt HI.out.2.2.2.1 b hb; have := HW.out.2.1.le; omega
        · have := HW.out.2.2.2.2.2.1; omega
       have lf4 : Lf w w4 gb gt := (Lf.of_below (gb := gb) (gt := gt) (bto0 H0.out.2.2.1 (bto0 HW.out.2.2.2.1 HI.out.2.2.2.2.1))).evt ev4 (fun b hb => by have := (hO4 b hb).1; omega)
       have dp4 : DP w4 g gb gt n ps T := (H0.out.1.lower (bto0 H0.out.2.2.1 (bto0 HW.out.2.2.2.1 HI.out.2.2.2.2.1))).evt ev4 (fun e => by have := (hO4 _ e).1; omega) (fun e => by have := (hO4 _ e).1; omega) (fun e => by have := (hO4 _ e).1; omega)
       have wy4 : WayR w4 w1.heap.size ss frs zb := (HW.out.2.1.below HI.out.2.2.2.2.1).stays ev4 (fun b hb => by
        rcases hb with hb | hb
        · exact .inl (World.ownsRow.lt HI.out.2.2.2.1 b hb).1
        · exact .inr ⟨_, cs, hb ▸ HI.out.2.1, by decide, by decide⟩)
       have hba := ball (Below.refl w4.heap.size w4) (.cells #[.pointer (some ⟨g, 0, none⟩), .slice none 0 0, .slice none 0 0] 85)
       have XC := Blk.new w4 85 #[.pointer (some ⟨g, 0, none⟩), .slice none 0 0, .slice none 0 0]
       have hxl : (⟨xs, xp, xq⟩ : En) ∉ d.L := fun e => Hin.out (H0.out.2.2.2.2.2.1.2 (by rw [← H0.out.2.1.L]; exact e))
       obtain ⟨so, ok, IO, hlp⟩ := WO.out hxl
       have hcsz : ∀ j, j ≠ L * 6 + 3 → (cs.setIfInBounds (L * 6 + 3) e2.v)[j]? = cs[j]? := fun j hj => set_ne66 (fun e => hj e.symm)
       have hc3 : (cs.setIfInBounds (L * 6 + 3) e2.v)[L * 6 + 3]? = some e2.v := by
        have := (Array.getElem?_eq_some_iff.1 Hcs.out.2.2.2.1).1
        rw [Array.getElem?_setIfInBounds_self_of_lt this]
       have hat := ins_at HI.out.1 Hin.out
       rw [hat] at ho4
       rw [leafSt_cur] at so
       have hst : frs.foldl (fun s fr => frSt fr s) (curSt true [] spp sN [] (withP es ⟨xs, xp, xq⟩) T) = setSt frs spp sN (withP es ⟨xs, xp, xq⟩) T := by unfold setSt; rw [leafSt_cur]
       have hzb1 : zb ≤ w4.heap.size := by omega
       have SJ : SetJ w Bw w4.heap.size g gb gt n w4.heap.size w1.heap.size zb ps L ss frs T S110 S110 [] (cs.setIfInBounds (L * 6 + 3) e2.v) true spp sN [] (withP es ⟨xs, xp, xq⟩) S110 e2 (L + 1) root (setSt frs spp sN (withP es ⟨xs, xp, xq⟩) T) (w4.alloc (.cells #[.pointer (some ⟨g, 0, none⟩), .slice none 0 0, .slice none 0 0] 85)) :=
        { b := ⟨hB4.alloc _, fun j s hs t ht => by
         have hj : j < L := by have := lt_of_at hs; rw [List.length_reverse, HW.out.2.2.2.2.2.2] at this; exact this
         rw [hcsz _ (by omega)]; exact Hcs.out.2.2.2.2.2 j s hs t ht, HW.out.2.2.2.2.2.2, wy4.below hba,
         ⟨XC, Nat.le_refl _, World.ownsRow_nil _ _ _ _, [], World.ownsRow_nil _ _ _ _, rfl, fun k v Lq h1 => by simp at h1⟩, dp4.lower hba, hzb1, by rw [alloc_size]; omega, ⟨HW.out.2.2.2.2.2.1, by omega⟩, lf4.trans (Lf.of_below hba), by omega, by omega⟩
          c0 := (hcsz _ (by omega)).trans Hcs.out.1
          c1 := (hcsz _ (by omega)).trans Hcs.out.2.1
          c2 := (hcsz _ (by omega)).trans Hcs.out.2.2.1
          c3 := hc3
          c4 := (hcsz _ (by omega)).trans Hcs.out.2.2.2.2.1
          cur := ⟨own_below ho4 hba, fun e => (by cases e), fun _ => rfl⟩
          nk := fun b hb => (S110.own_ b hb).elim
          ok := ok
          so := so
          eq := hst
          wl := by rw [List.length_nil]; omega
          w5 := fun q hq => by cases hq
          iw := by omega
          pn := by omega
          tp := WT.out }
       have ST := Lib.hid (settle_any (cw := cw) SJ rfl (by have := H0.out.2.1.h2; have := Hen.out.2; omega) (by omega) (by omega))
       have IT := Lib.hid (ins_tree2 H0.out.2.1 (by omega) (by omega) IO)
       have hh := Hen.out.2
       rw [← hh, insP_set] at IT
       have HV := Lib.hid (And.intro hba (And.intro lf4 hh))
       have hwz : gb < w4.heap.size ∧ gt < w4.heap.size := by omega
       clear hB4 ho4 ev4 nb4 hO4 lf4 dp4 wy4 XC so ok IO hcsz hc3 hat hst SJ hba hh IE KS y3 f3 Hcs
       generalize hR : setR (L + 1) root (setSt frs spp sN (withP es ⟨xs, xp, xq⟩) T) = R at *
       have HRR := Lib.hid hR
       clear hR
       go_upto_region 12 with fail
       obtain ⟨w5, hw5⟩ : ∃ x, w4.alloc (.cells #[.pointer (some ⟨g, 0, none⟩), .slice none 0 0, .slice none 0 0] 85) = x := ⟨_, rfl⟩
       rw [hw5] at ST HV ⊢
       clear hw5
       go_wp2_with fail
       refine ST.out.mono ?_
       rintro e6 w6 ⟨dp6, lf6, hres⟩
       rw [HRR.out] at dp6 hres
       obtain ⟨o, T2⟩ := R
       have nx1 : ∀ {Q : Prop}, 200 < (⟨xs, xp, xq⟩ : En).s.size → Q := fun h => absurd h (by have h2 : xs.size ≤ 200 := Hk.out; show ¬ 200 < xs.size; omega)
       have nx2 : ∀ {Q : Prop}, (⟨xs, xp, xq⟩ : En) ∈ l → Q := fun h => absurd (H0.out.2.2.2.2.2.1.2 h) Hin.out
       cases o with
       | none =>
         simp only at hres dp6
         subst hres
         have H6 := Lib.hid (And.intro dp6 lf6)
         clear dp6 lf6
         go_wp2_with fail
         go_ret2
         obtain ⟨i1, i2, i3⟩ := IT.out.2.1 rfl
         refine ⟨H6.out.2, nx1, fun _ => nx2, fun _ _ => ⟨ps, T2, H6.out.1, i3, .inr ⟨rfl, rfl, ?_⟩⟩⟩
         rw [← HV.out.2.2]; exact i2
       | some q =>
         obtain ⟨wr, r⟩ := q
         simp only at hres dp6
         obtain ⟨rfl, ⟨P, Y, ch6⟩, h512, hwl⟩ := hres
         obtain ⟨h', d', tk', c1, c2, c3, c4, c5⟩ := IT.out.1 r rfl
         have hTl := dp6.hT
         have WRI := Lib.hid (bwrite_any dp6 (by omega) ch6 (by have := lf6.size; have := ch6.hz; have := ch6.blk.lt; omega) hwz.1 hwz.2 (fun q hq => by
          have h1 := tk'.tk _ (c5 wr r rfl q hq)
          have h2 := lt_of_at h1
          exact ⟨by simp only at h2; omega, h1, h512 q hq⟩) (by omega))
         have H6 := Lib.hid (And.intro lf6 (And.intro tk' (And.intro c1 (And.intro c2 (And.intro c3 c4)))))
         clear dp6 lf6 ch6 h512 hwl tk' c1 c2 c3 c4 c5 hTl
         go_wp2_with fail
         refine WRI.out.mono ?_
         rintro e7 w7 ⟨rfl, dp7, lf7⟩
         have H7 := Lib.hid (And.intro dp7 lf7)
         clear dp7 lf7
         go_wp2_with fail
         go_ret2
         exact ⟨H6.out.1.trans H7.out.2, nx1, fun _ => nx2, fun _ _ => ⟨wrA ps wr, T2, H7.out.1, H6.out.2.2.2.1, .inl ⟨r, h', d', rfl, H6.out.2.1, H6.out.2.2.1, H6.out.2.2.2.2.1, H6.out.2.2.2.2.2⟩⟩⟩
end
end Go.Proofs.YtebobcbaloddaaaGreat
namespace Go.Proofs.YtebobcbaloddaaaGreat
section
set_option linter.unusedSimpArgs false
set_option linter.unusedVariables false
open Go.RowKit Go.Maps
structure LS (W : World) (g gb gt n : Nat) (ps : List (List UInt8)) (T : List Bool) (root : Nat) (l : List En) (A : Option Addr) (m c h : Nat) (d : Nd) (w : World) : Prop where
 dp : DP w g gb gt n ps T
 t : TreeK ps T root l h d
 rd : Reads w w.heap.size 3 A m (vE l)
 apt : Apt A gb gt
 ri : riseP l
 ok : ∀ e ∈ l, e.ok
 bl : Below W.heap.size W w
 gb_ : W.heap.size ≤ gb
 gt_ : W.heap.size ≤ gt
section
variable {W w w' : World} {g gb gt n : Nat} {ps ps' : List (List UInt8)} {T T' : List Bool} {root root' : Nat} {l l' : List En} {A A' : Option Addr} {m c h m' c' h' : Nat} {d d' : Nd}
theorem LS.below (H : LS W g gb gt n ps T root l A m c h d w) (hb : Below w.heap.size w w') : LS W g gb gt n ps T root l A m c h d w' :=
 ⟨H.dp.lower hb, H.t, (H.rd.below hb).more hb.size, H.apt, H.ri, H.ok, H.bl.trans (hb.mono H.bl.size), H.gb_, H.gt_⟩
theorem LS.lf (H : LS W g gb gt n ps T root l A m c h d w) (hL : Lf w w' gb gt) (hd : DP w' g gb gt n ps' T') (ht : TreeK ps' T' root' l' h' d') : DP w' g gb gt n ps' T' ∧ TreeK ps' T' root' l' h' d' ∧ Reads w' w'.heap.size 3 A m (vE l) ∧ Below W.heap.size W w' :=
 ⟨hd, ht, H.rd.lf hL H.apt, H.bl.trans (hL.below W.heap.size H.gb_ H.gt_ H.bl.size)⟩
theorem LS.row (hd : DP w g gb gt n ps T) (ht : TreeK ps T root l h d) (hb0 : Below W.heap.size W w) (g1 : W.heap.size ≤ gb) (g2 : W.heap.size ≤ gt) (hb : Below w.heap.size w w') (ho : w'.ownsRow w.heap.size 37 3 (.slice A m c) m (vE l)) (hr : riseP l) (hok : ∀ e ∈ l, e.ok) : LS W g gb gt n ps T root l A m c h d w' :=
 ⟨hd.lower hb, ht, Reads.of_own ho, fun ad e => by have h1 := own_hi ho ad e; have h2 := hd.lts; exact ⟨by omega, by omega⟩, hr, hok, hb0.trans (hb.mono hb0.size), g1, g2⟩
theorem LS.no (H : LS W g gb gt n ps T root l A m c h d w) (hL : Lf w w' gb gt) (hd : DP w' g gb gt n ps T') (hu : ∀ p : Nat, T[p]? = some true → T'[p]? = some true) : LS W g gb gt n ps T' root l A m c h d w' := by
 obtain ⟨h1, h2, h3, h4, h5, h6, h7⟩ := H.t
 exact ⟨hd, ⟨h1, h2, h3, h4, h5, h6, fun p hp => hu p (h7 p hp)⟩, H.rd.lf hL H.apt, H.apt, H.ri, H.ok, H.bl.trans (hL.below W.heap.size H.gb_ H.gt_ H.bl.size), H.gb_, H.gt_⟩
theorem LS.len (H : LS W g gb gt n ps T root l A m c h d w) : l.length = m := by have := H.rd.1; rw [vE_len] at this; omega
theorem TreeK.ok_ (t : TreeK ps T root l h d) (hT : T.length = ps.length) : TreeOk ps root l h d :=
 ⟨t.h1, t.h2, t.sub, t.p, t.L, t.nd, fun p hp => by have := lt_of_at (t.tk p hp); omega⟩
theorem with_ok {x : En} (hok : ∀ e ∈ l, e.ok) (hx : x.ok) : ∀ e ∈ withP l x, e.ok := fun e he => (with_mem.1 he).elim (fun h => h ▸ hx) (fun h => hok e h)
end
theorem blk_lt69 {w : World} {a b : Nat} {t t' : TypeId} {cs cs' : Array Value} (h : Blk w a t cs) (k : Blk w b t' cs') (hz : w.heap.size = b + 1) (hne : t ≠ t') : a < b := by
 have h1 := h.lt
 have h2 := Blk.ne_ h k hne
 omega
theorem bd_treeK {l : List En} {ps : List (List UInt8)} {T : List Bool} (hm : mayEn l = true) (hok : ∀ e ∈ l, e.ok) (hT : T.length = ps.length) (hb : ps.length ≤ 4095) {root : Nat} (hr : (bdP l ps T).2.2 = some root) :
 ∃ h d, TreeK (bdP l ps T).1 (bdP l ps T).2.1 root l h d := by
 obtain ⟨h, d, h1, h2, h3, h4, h5, h6, h7⟩ := (bd_ok hm hok hT hb).ok root hr
 exact ⟨h, d, h1, h2, h3, h4, h5, h6, fun p hp => (h7 p hp).1⟩
end
end Go.Proofs.YtebobcbaloddaaaGreat
namespace Go.Proofs.YtebobcbaloddaaaGreat
section
set_option linter.unusedSimpArgs false
set_option linter.unusedVariables false
open Go.RowKit Go.Maps
set_option maxRecDepth 100000 in
set_option maxHeartbeats 16000000 in
theorem full_any (A0 : Option Addr) (n0 c0 : Nat) (l0 : List En) (A1 : Option Addr) (n1 c1 : Nat) (l1 : List En) (a2z : Int) (hz1 : 0 ≤ a2z) (hz2 : a2z ≤ 255) (W : World)
 (s0 : Reads W W.heap.size 3 A0 n0 (vE l0)) (m0 : n0 ≤ c0) (x0 : c0 ≤ maxLen) (w0 : ∀ e ∈ l0, e.ok)
 (s1 : Reads W W.heap.size 3 A1 n1 (vE l1)) (m1 : n1 ≤ c1) (x1 : c1 ≤ maxLen) (w1 : ∀ e ∈ l1, e.ok) :
 Calls Tryz.prog 4 #[.slice A0 n0 c0, .slice A1 n1 c1, .int .u8 a2z] W (RetB W (.bool true)) := by
 obtain ⟨a2, rfl⟩ : ∃ a2 : Nat, a2z = (a2 : Int) := ⟨a2z.toNat, by omega⟩
 have ha2 : a2 ≤ 255 := by omega
 clear hz1 hz2
 have FX := Lib.hid fun W => fixed11_any W
 have G0 := Lib.hid (greatE_any A0 n0 c0 l0 W W.heap.size s0 (fun v hv => (w0 v hv).1) (by omega))
 have G1 := Lib.hid (greatE_any A1 n1 c1 l1 W W.heap.size s1 (fun v hv => (w1 v hv).1) (by omega))
 obtain ⟨g0, hg0⟩ : ∃ b, grE 0 l0 = b := ⟨_, rfl⟩
 obtain ⟨g1, hg1⟩ : ∃ b, grE 0 l1 = b := ⟨_, rfl⟩
 rw [hg0] at G0
 rw [hg1] at G1
 have HG := Lib.hid (And.intro hg0 hg1)
 have h1n : l1.length = n1 := by have := s1.1; rw [vE_len] at this; omega
 have HA := Lib.hid (And.intro s0 (And.intro m0 (And.intro x0 w0)))
 have HM := Lib.hid (And.intro s1 (And.intro m1 (And.intro x1 (And.intro w1 h1n))))
 clear hg0 hg1 s0 m0 x0 w0 s1 m1 x1 w1 h1n
 go_enter Tryz.func4, Tryz.ntmps4
 cases g0
 rotate_left
 · go_wp2_with fail
   refine G0.out.mono ?_
   rintro e w1 ⟨rfl, rfl⟩
   go_wp2_with fail
   refine (FX.out _).mono ?_
   rintro e w2 ⟨rfl, hb2⟩
   go_wp2_with fail
   go_ret
   exact ⟨rfl, hb2⟩
 cases g1
 rotate_left
 · go_wp2_with fail
   refine G0.out.mono ?_
   rintro e w1 ⟨rfl, rfl⟩
   go_wp2_with fail
   refine G1.out.mono ?_
   rintro e w1 ⟨rfl, rfl⟩
   go_wp2_with fail
   refine (FX.out _).mono ?_
   rintro e w2 ⟨rfl, hb2⟩
   go_wp2_with fail
   go_ret
   exact ⟨rfl, hb2⟩
 have b0 := sumE_bd HG.out.1
 have b1 := sumE_bd HG.out.2
 have l0n : n0 ≤ 9000 := by have := HA.out.1.1; rw [vE_len] at this; omega
 have l1n : n1 ≤ 9000 := by have := HM.out.1.1; rw [vE_len] at this; omega
 clear b0 b1
 by_cases hmo : 200 < n1
 · have hmI : (200 : Int) < (n1 : Int) := by omega
   go_wp2_with fail
   refine G0.out.mono ?_
   rintro e w1 ⟨rfl, rfl⟩
   go_wp2_with fail
   refine G1.out.mono ?_
   rintro e w1 ⟨rfl, rfl⟩
   go_wp2_with fail
   refine (FX.out _).mono ?_
   rintro e w2 ⟨rfl, hb2⟩
   go_wp2_with fail
   go_ret
   exact ⟨rfl, hb2⟩
 have hmI : (n1 : Int) ≤ 200 := by omega
 have hm1 : n1 ≤ 200 := by omega
 clear hmo
 go_wp2_with fail
 refine G0.out.mono ?_
 rintro e w1 ⟨rfl, rfl⟩
 go_wp2_with fail
 refine G1.out.mono ?_
 rintro e w1 ⟨rfl, rfl⟩
 have SO0 := Lib.hid (sorted_any A0 n0 c0 l0 W HA.out.1 (by omega))
 have hsm := sort_may l0
 have hsl := (sort_ok l0).len
 have hsk : ∀ e ∈ sortP l0, e.ok := fun e he => HA.out.2.2.2 e ((sort_ok l0).mem e he)
 have hsr := (sort_ok l0).rise
 obtain ⟨all, hall⟩ : ∃ x, sortP l0 = x := ⟨_, rfl⟩
 rw [hall] at SO0 hsm hsl hsk hsr
 clear hall
 have HS := Lib.hid (And.intro hsm (And.intro hsk hsr))
 clear hsm hsk hsr
 go_wp2_with fail
 refine SO0.out.mono ?_
 rintro e w2 ⟨A, c, rfl, o2, hb2⟩
 have hz2 := hb2.size
 have ha2I : (a2 : Int) ≤ 255 := by omega
 obtain ⟨n, hn⟩ : ∃ n, n = 2 + a2 := ⟨_, rfl⟩
 have hn1 : 1 ≤ n := by omega
 have hn3 : n ≤ 257 := by omega
 have ND := Lib.hid (show Calls Tryz.prog 10 #[.int .i64 (2 + (a2 : Int))] w2 (RetDP w2 n (pagesOf (zb n) n) (marksOf (zb n) n)) from by
  have := newDP n hn1 (by omega) w2
  rw [show ((n : Nat) : Int) = 2 + (a2 : Int) from by omega] at this
  exact this)
 have Hn := Lib.hid hn
 clear hn
 have H2 := Lib.hid (And.intro o2 hb2)
 have hpl := pagesOf_len (zb n) n
 have hTl := marks_len (zb n) n
 have hfr : True := trivial
 generalize pagesOf (zb n) n = ps at *
 generalize marksOf (zb n) n = T at *
 have HPL := Lib.hid (And.intro hpl (And.intro hTl hfr))
 clear hpl hTl o2 hb2 hfr
 go_wp2_with fail
 refine ND.out.mono ?_
 rintro e w3 ⟨g, gb, gt, rfl, hd, k1, k2, k3, hb3⟩
 have hz3 := hb3.size
 have o3 := own_below H2.out.1 hb3
 have hApt : Apt A gb gt := fun ad e => by
  subst e
  have h1 := (World.ownsRow.lt H2.out.1 ad.block rfl).2
  exact ⟨by omega, by omega⟩
 obtain ⟨A', c', e1, hlc⟩ := own_form o3
 injection e1 with e11 _ e13
 subst e11; subst e13
 have BU := Lib.hid (build_any hd (by omega) (Reads.of_own o3) hApt HS.out.2.1 HS.out.1 (by omega) hlc (own_cap o3))
 have hbt := fun root => bd_treeK (root := root) HS.out.1 HS.out.2.1 (HPL.out.2.1.trans HPL.out.1.symm) (by rw [HPL.out.1]; omega)
 have H3 := Lib.hid (And.intro hd (And.intro (Reads.of_own o3) (And.intro hApt (And.intro (bto0 H2.out.2 hb3) (And.intro k2 k3)))))
 clear hd o3 hApt hb3 k1 k2 k3 ND hlc
 generalize bdP all ps T = R at *
 obtain ⟨R1, R2, R3⟩ := R
 simp only at hbt
 have HBT := Lib.hid (And.intro hbt True.intro)
 clear hbt
 go_wp2_with fail
 refine BU.out.mono ?_
 rintro e w4 ⟨hd4, hL4, hres⟩
 simp only at hd4 hres
 have r4 := H3.out.2.1.lf hL4 H3.out.2.2.1
 have b4 := H3.out.2.2.2.1.trans (hL4.below W.heap.size (Nat.le_trans hz2 H3.out.2.2.2.2.1) (Nat.le_trans hz2 H3.out.2.2.2.2.2) (by omega))
 rcases hres with ⟨root, hroot, rfl⟩ | ⟨hroot, rfl⟩
 rotate_left
 · have H4 := Lib.hid b4
   clear hd4 hL4 r4 b4 hroot BU
   go_wp2_with fail
   refine (FX.out _).mono ?_
   rintro e w5 ⟨rfl, hb5⟩
   have H5 := Lib.hid (H4.out.trans (hb5.mono H4.out.size))
   clear hb5
   go_wp2_with fail
   go_ret
   exact ⟨rfl, H5.out⟩
 obtain ⟨h0, d0, ht0⟩ := HBT.out.1 root hroot
 have L0 := Lib.hid (show LS W g gb gt n R1 R2 root all A all.length c h0 d0 w4 from ⟨hd4, ht0, r4, H3.out.2.2.1, HS.out.2.2, HS.out.2.1, b4, Nat.le_trans hz2 H3.out.2.2.2.2.1, Nat.le_trans hz2 H3.out.2.2.2.2.2⟩)
 clear hd4 hL4 r4 b4 hroot ht0 BU
 go_wp2_with fail
 go_loopw [7, 10, 52] (fun v7 v10 v52 wr_ => ∃ (k : Nat) (ps : List (List UInt8)) (T : List Bool) (root : Nat) (l : List En) (A : Option Addr) (m c h : Nat) (d : Nd), v52 = .int .i64 (k : Int) ∧ k ≤ n1 ∧ v10 = .int .u32 (root : Int) ∧ v7 = .slice A m c ∧ LS W g gb gt n ps T root l A m c h d wr_ ∧ m ≤ 400 + k) (fun _ _ v52 _ => n1 - (intOf v52).toNat)
 case atStart => exact ⟨0, R1, R2, root, all, A, all.length, c, h0, d0, rfl, Nat.zero_le _, rfl, rfl, L0.out, by omega⟩
 case round =>
  rename World => wo
  clear L0 HBT HPL H3 H2 HS HA Hn ha2 ha2I hsl hz2 hz3
  obtain ⟨k, ps, T, root, l, A, m, c, h, d, rfl, hk, rfl, rfl, L, hmk⟩ := hrel
  have q0 : (0 : Int) ≤ (k : Int) := by omega
  by_cases hlt : k < n1
  · have q1 : (k : Int) < (n1 : Int) := by omega
    obtain ⟨x, hx⟩ : ∃ x, l1[k]? = some x := ⟨_, List.getElem?_eq_getElem (by rw [HM.out.2.2.2.2]; exact hlt)⟩
    have hxo := HM.out.2.2.2.1 x (List.mem_of_getElem? hx)
    obtain ⟨ax, hax, hab, _, HXX⟩ := ent_of ((HM.out.1.below L.bl).more L.bl.size) hx
    obtain ⟨u0, u1, u2⟩ := HXX wo (Below.refl _ _)
    have hb5 := ball (Below.refl wo.heap.size wo) (.cells #[.string x.s, .int .u32 x.p, .int .u16 x.q] 37)
    have X5 := Blk.new wo 37 #[.string x.s, .int .u32 x.p, .int .u16 x.q]
    have L5 := L.below hb5
    have INS := Lib.hid (insert_any L5.dp (by omega) L5.t L5.ri x hxo)
    have HL := Lib.hid (And.intro L5 (And.intro X5 hxo))
    have hz5 : (wo.alloc (.cells #[.string x.s, .int .u32 x.p, .int .u16 x.q] 37)).heap.size = wo.heap.size + 1 := by simp
    have Hax := Lib.hid hax
    clear L hx HXX hax hxo L5 X5 hb5
    obtain ⟨xs, xp, xq⟩ := x
    unfold En.agg at INS
    simp only at u0 u1 u2 INS HL hz5
    obtain ⟨Ai, hAi⟩ : ∃ Ai, A1 = Ai := ⟨_, rfl⟩
    have hAi2 : A1 = some ax := Hax.out
    subst hAi2
    clear hAi
    go_upto_region 11 with fail
    obtain ⟨w5, hw5⟩ : ∃ x, wo.alloc (.cells #[.string xs, .int .u32 xp, .int .u16 xq] 37) = x := ⟨_, rfl⟩
    rw [hw5] at INS HL hz5 ⊢
    clear hw5 u0 u1 u2
    have y0 : w5.cell? ⟨wo.heap.size, 0, none⟩ = some (.string xs) := HL.out.2.1.cell 0
    have y1 : w5.cell? ⟨wo.heap.size, 1, none⟩ = some (.int .u32 xp) := HL.out.2.1.cell 1
    have y2 : w5.cell? ⟨wo.heap.size, 2, none⟩ = some (.int .u16 xq) := HL.out.2.1.cell 2
    go_wp2_with fail
    refine INS.out.mono ?_
    rintro e w6 ⟨lf6, i1, i2, i3⟩
    have hgz : gb < wo.heap.size ∧ gt < wo.heap.size ∧ g < wo.heap.size := by have h1 := HL.out.1.dp.lts; have h2 := HL.out.1; have := hz5; have hne := HL.out.2.1; exact ⟨blk_lt69 HL.out.1.dp.dk.b hne hz5 (by decide), blk_lt69 HL.out.1.dp.dk.t hne hz5 (by decide), blk_lt69 HL.out.1.dp.dk.d hne hz5 (by decide)⟩
    have X6 : Blk w6 wo.heap.size 37 #[.string xs, .int .u32 xp, .int .u16 xq] := (lf6.heap _ (by omega) (by omega) (by omega)).trans HL.out.2.1
    have z6 := lf6.size
    by_cases hbig : 200 < xs.size
    · obtain ⟨rfl, dp6⟩ := i1 hbig
      have L6 := Lib.hid (HL.out.1.no lf6 dp6 (fun _ h => h))
      clear i1 i2 i3 lf6 dp6 X6 y0 y1 y2
      go_wp2_with fail
      go_roundw
      case rel => exact ⟨k + 1, ps, T, root, l, A, m, c, h, d, by go_num, by omega, rfl, rfl, L6.out, by omega⟩
      case measure => simp [intOf]; omega
    by_cases hin : (⟨xs, xp, xq⟩ : En) ∈ l
    · obtain ⟨rfl, dp6⟩ := i2 (by show xs.size ≤ 200; omega) hin
      have L6 := Lib.hid (HL.out.1.no lf6 dp6 (fun _ h => h))
      clear i1 i2 i3 lf6 dp6 X6 y0 y1 y2
      go_wp2_with fail
      go_roundw
      case rel => exact ⟨k + 1, ps, T, root, l, A, m, c, h, d, by go_num, by omega, rfl, rfl, L6.out, by omega⟩
      case measure => simp [intOf]; omega
    obtain ⟨ps', T', dp6, hup, ⟨root', h', d', rfl, tk6, c6, _, _⟩ | ⟨rfl, rfl, _⟩⟩ := i3 (by show xs.size ≤ 200; omega) hin
    · obtain ⟨a1, a2_, a3, a4⟩ := HL.out.1.lf lf6 dp6 tk6
      have WI := Lib.hid (with_any A m c l ⟨xs, xp, xq⟩ w6 a3 (by omega))
      have v0 : w6.cell? ⟨wo.heap.size, 0, none⟩ = some (.string xs) := X6.cell 0
      have v1 : w6.cell? ⟨wo.heap.size, 1, none⟩ = some (.int .u32 xp) := X6.cell 1
      have v2 : w6.cell? ⟨wo.heap.size, 2, none⟩ = some (.int .u16 xq) := X6.cell 2
      have H6 := Lib.hid (And.intro a1 (And.intro a2_ (And.intro a4 hin)))
      unfold En.agg at WI
      simp only at WI
      clear i1 i2 i3 lf6 dp6 X6 y0 y1 y2 a1 a2_ a3 a4 tk6 hup c6 hin hbig
      go_wp2_with fail
      refine WI.out.mono ?_
      rintro e w7 ⟨A7, c7, rfl, o7, hb7⟩
      have hwl : (withP l (⟨xs, xp, xq⟩ : En)).length = m + 1 := by rw [with_len, HL.out.1.len]
      have L7 := Lib.hid (LS.row H6.out.1 H6.out.2.1 H6.out.2.2.1 HL.out.1.gb_ HL.out.1.gt_ hb7 o7 (with_rise HL.out.1.ri H6.out.2.2.2) (with_ok HL.out.1.ok HL.out.2.2))
      rw [hwl] at L7 ⊢
      clear o7 hb7 hwl v0 v1 v2
      go_wp2_with fail
      go_roundw
      case rel => exact ⟨k + 1, ps', T', root', withP l ⟨xs, xp, xq⟩, A7, m + 1, c7, h', d', by go_num, by omega, rfl, rfl, L7.out, by omega⟩
      case measure => simp [intOf]; omega
    · have L6 := Lib.hid (HL.out.1.no lf6 dp6 hup)
      clear i1 i2 i3 lf6 dp6 X6 y0 y1 y2
      go_wp2_with fail
      go_roundw
      case rel => exact ⟨k + 1, ps', T', root, l, A, m, c, h, d, by go_num, by omega, rfl, rfl, L6.out, by omega⟩
      case measure => simp [intOf]; omega
  · have hk' : k = n1 := by omega
    have q1 : (n1 : Int) ≤ (k : Int) := by omega
    have HL := Lib.hid L
    clear L hk' hlt
    go_wp2_with fail
    refine (FX.out _).mono ?_
    rintro e w8 ⟨rfl, hb8⟩
    have L8 := HL.out.below hb8
    have RT := Lib.hid (right_any (root := root) (c := c) L8.dp (by omega) hn1 L8.rd (by omega) ((rise_iff l).2 L8.ri) L8.ok (L8.t.ok_ (by rw [L8.dp.hT, L8.dp.hp])))
    have H8 := Lib.hid L8.bl
    clear hb8 L8
    go_wp2_with fail
    refine RT.out.mono ?_
    rintro e w9 ⟨rfl, hb9⟩
    have H9 := Lib.hid (H8.out.trans (hb9.mono H8.out.size))
    clear hb9
    go_wp2_with fail
    go_ret
    exact ⟨rfl, H9.out⟩
end
end Go.Proofs.YtebobcbaloddaaaGreat
namespace Go.Proofs.YtebobcbaloddaaaGreat
section
set_option linter.unusedSimpArgs false
set_option linter.unusedVariables false
open Go.RowKit Go.Maps
theorem up_cnt {n : Nat} {l : List En} (hr : riseP l) : ∀ (f h : Nat) (lv : List Kd) (ds : List Nd) (ps : List (List UInt8)) (T : List Bool), LvS ps (h + 1) l lv ds → LvOk n lv → n = ps.length → T.length = ps.length → ps.length ≤ 10000 → (∀ p ∈ (ds.map Nd.P).flatten, T[p]? = some true) → lv.length ≤ f → lv.length * 2 ^ h ≤ 4095 →
 ∀ root, (upP f (ps, T, some lv)).2.2 = some root → ∃ h' d, 1 ≤ h' ∧ h' ≤ 12 ∧ Sub (upP f (ps, T, some lv)).1 h' d 0 ∧ d.p = root ∧ d.L = l ∧ d.P.Nodup ∧ (∀ p ∈ d.P, (upP f (ps, T, some lv)).2.1[p]? = some true) ∧ freeN (upP f (ps, T, some lv)).2.1 + d.P.length = freeN T + ((ds.map Nd.P).flatten).length
 | 0, h, lv, ds, ps, T, S, O, hn, hT, hb, hm, hf, hh => by have := O.pos; omega
 | f + 1, h, lv, ds, ps, T, S, O, hn, hT, hb, hm, hf, hh => by
   have hp1 := O.pos
   have h12 : h < 12 := by
    by_cases hc : h < 12
    · exact hc
    · have h1 : 2 ^ 12 ≤ 2 ^ h := Nat.pow_le_pow_right (by omega) (by omega)
      have h2 : 1 * 2 ^ h ≤ lv.length * 2 ^ h := Nat.mul_le_mul_right _ hp1
      have h3 : (2 : Nat) ^ 12 = 4096 := by decide
      omega
   unfold upP
   by_cases h1 : lv.length ≤ 1
   · rw [if_pos h1]
     have hdl : ds.length = lv.length := by have := congrArg List.length S.fst; simpa using this
     obtain ⟨c, rfl⟩ : ∃ c, lv = [c] := by
      match lv, hp1, h1 with
      | [c], _, _ => exact ⟨c, rfl⟩
     obtain ⟨d, rfl⟩ : ∃ d, ds = [d] := by
      match ds, hdl with
      | [d], _ => exact ⟨d, rfl⟩
     have e1 := S.fst
     have e2 := S.L
     have e3 := S.nodup
     simp only [List.map_cons, List.map_nil, List.flatten_cons, List.flatten_nil, List.append_nil, List.cons.injEq, and_true] at e1 e2 e3 hm
     intro root hroot
     simp only [List.head?_cons, Option.map_some, Option.getD_some, Option.some.injEq] at hroot
     exact ⟨h + 1, d, by omega, by omega, S.chn.1, by rw [e1, hroot], e2, e3, fun p hp => hm p hp, by simp⟩
   · rw [if_neg h1]
     have hK := inP_keep lv ps T
     have hF := inP_free lv ps T
     have hgs := gs_half O.may (by omega)
     have hstep := fun lv' => in_sub (lv' := lv') (n := n) (lv := lv) (ds := ds) (ps := ps) (T := T) S hr O (by omega) hn hT hb hm
     have hok := fun lv' => inOk (n := n) (l := lv) O (by omega) (ps := ps) (T := T) (by omega) (lv := lv')
     generalize inP' lv ps T = R at *
     obtain ⟨ps', T', r⟩ := R
     simp only at *
     cases r with
     | none =>
       have e : upP f (ps', T', none) = (ps', T', none) := by cases f <;> rfl
       rw [e]
       exact fun root hroot => by cases hroot
     | some lv' =>
       simp only at hF
       obtain ⟨ds', S', hP', hPl⟩ := hstep lv' rfl
       obtain ⟨O', hl'⟩ := hok lv' rfl
       have hpw : lv'.length * 2 ^ (h + 1) ≤ 4095 := by
        rw [Nat.pow_succ]
        have h3 : 2 * lv'.length * 2 ^ h ≤ lv.length * 2 ^ h := Nat.mul_le_mul_right _ (by omega)
        have h4 : lv'.length * (2 ^ h * 2) = 2 * lv'.length * 2 ^ h := by rw [← Nat.mul_assoc, Nat.mul_comm, ← Nat.mul_assoc]
        omega
       intro root hroot
       obtain ⟨h', d, a1, a2, a3, a4, a5, a6, a7, a8⟩ := up_cnt hr f (h + 1) lv' ds' ps' T' S' O' (by omega) (by omega) (by omega) (fun p hp => (hP' p hp).1) (by omega) hpw root hroot
       exact ⟨h', d, a1, a2, a3, a4, a5, a6, a7, by omega⟩
theorem leaf_pages {ps : List (List UInt8)} : ∀ (ds : List Nd) (nx : Nat), ChnN (Sub ps 1) ds nx → ((ds.map Nd.P).flatten).length = ds.length
 | [], _, _ => rfl
 | d :: r, nx, h => by
   have h1 := h.1.2.2.2.2.2.1
   rw [List.map_cons, List.flatten_cons, List.length_append, leaf_pages r nx h.2, h1]
   simp; omega
theorem bd_cnt {l : List En} {ps : List (List UInt8)} {T : List Bool} (hm : mayEn l = true) (hok : ∀ e ∈ l, e.ok) (hT : T.length = ps.length) (hb : ps.length ≤ 4095) {root : Nat} (hr : (bdP l ps T).2.2 = some root) :
 ∃ h d, TreeK (bdP l ps T).1 (bdP l ps T).2.1 root l h d ∧ freeN (bdP l ps T).2.1 + d.P.length = freeN T := by
 have hri : riseP l := (rise_iff l).1 (by rw [may_both, Bool.and_eq_true] at hm; exact hm.2)
 revert hr
 unfold bdP
 have hK := lfP_keep l ps T
 have hF := lfP_free l ps T
 have hgs := gs_le hm
 have hstep := fun lv => lf_sub (lv := lv) hm hok hT (by omega)
 have hok' := fun lv => lfOk (ps := ps) (T := T) (lv := lv) hm hok
 generalize lfP l ps T = R at *
 obtain ⟨ps', T', r⟩ := R
 simp only at *
 cases r with
 | none =>
   have e : upP (l.length + 2) (ps', T', none) = (ps', T', none) := rfl
   rw [e]
   exact fun hr => by cases hr
 | some lv =>
   simp only at hF
   obtain ⟨ds, S, hP⟩ := hstep lv rfl
   obtain ⟨O, hl⟩ := hok' lv rfl
   have hfr : freeN T ≤ T.length := by unfold freeN; exact List.length_filter_le _ _
   intro hr
   obtain ⟨h', d, a1, a2, a3, a4, a5, a6, a7, a8⟩ := up_cnt hri (l.length + 2) 0 lv ds ps' T' S O (by omega) (by omega) (by omega) (fun p hp => (hP p hp).2) (by omega) (by omega) root hr
   have hdl : ds.length = lv.length := by have := congrArg List.length S.fst; simpa using this
   have := leaf_pages ds _ S.chn
   exact ⟨h', d, ⟨a1, a2, a3, a4, a5, a6, a7⟩, by omega⟩
theorem free_new (n : Nat) (h : 1 ≤ n) : freeN (marksOf (zb n) n) = n - 1 := by
 rw [zb_marks n h]
 unfold freeN
 simp
theorem tree_room {ps : List (List UInt8)} {T : List Bool} {root h : Nat} {l : List En} {d : Nd} (t : TreeK ps T root l h d) (hl : l.length ≤ 460) (hc : freeN T + d.P.length = 999) : ¬ (freeN T ≤ h ∨ h = 12) := by
 obtain ⟨m1, m2, m3⟩ := sub_many h d 0 t.sub
 rw [t.L] at m2
 have hk : d.k ≤ 460 := by
  by_cases e : l = []
  · have hh : h = 1 := by
     have h1 := t.h1
     obtain ⟨k, rfl⟩ : ∃ k, h = k + 1 := ⟨h - 1, by omega⟩
     cases k with
     | zero => rfl
     | succ k =>
       exfalso
       obtain ⟨ds, seps, H, hsn, hp, hfit, hd⟩ := sub_to t.sub
       have hL := t.L
       rw [hd, e] at hL
       have hlen := H.len
       cases ds with
       | nil => rw [List.length_nil] at hlen; omega
       | cons c r =>
         have h2 := H.ne c (by simp)
         have h3 : c.L ++ ((r.map Nd.L).flatten) = [] := by simpa [ndOf] using hL
         exact h2 (List.append_eq_nil_iff.1 h3).1
    subst hh
    have := t.sub.2.2.2.2.2.2.2
    omega
  · have := m2 e
    omega
 have hh : h ≤ 10 := by
  by_cases hc : h ≤ 10
  · exact hc
  · have h1 : 2 ^ 10 ≤ 2 ^ (h - 1) := Nat.pow_le_pow_right (by omega) (by omega)
    have h3 : (2 : Nat) ^ 10 = 1024 := by decide
    omega
 omega
end
end Go.Proofs.YtebobcbaloddaaaGreat
namespace Go.Proofs.YtebobcbaloddaaaGreat
section
set_option linter.unusedSimpArgs false
set_option linter.unusedVariables false
open Go.RowKit Go.Maps
set_option maxRecDepth 100000 in
set_option maxHeartbeats 16000000 in
theorem inserts_any (A0 : Option Addr) (n0 c0 : Nat) (l0 : List En) (A1 : Option Addr) (n1 c1 : Nat) (l1 : List En) (W : World)
 (s0 : Reads W W.heap.size 3 A0 n0 (vE l0)) (m0 : n0 ≤ c0) (x0 : c0 ≤ maxLen) (w0 : ∀ e ∈ l0, e.ok)
 (s1 : Reads W W.heap.size 3 A1 n1 (vE l1)) (m1 : n1 ≤ c1) (x1 : c1 ≤ maxLen) (w1 : ∀ e ∈ l1, e.ok) :
 Calls Tryz.prog 3 #[.slice A0 n0 c0, .slice A1 n1 c1] W (RetB W (.bool true)) := by
 have FX := Lib.hid fun W => fixed11_any W
 have G0 := Lib.hid (greatE_any A0 n0 c0 l0 W W.heap.size s0 (fun v hv => (w0 v hv).1) (by omega))
 have G1 := Lib.hid (greatE_any A1 n1 c1 l1 W W.heap.size s1 (fun v hv => (w1 v hv).1) (by omega))
 obtain ⟨g0, hg0⟩ : ∃ b, grE 0 l0 = b := ⟨_, rfl⟩
 obtain ⟨g1, hg1⟩ : ∃ b, grE 0 l1 = b := ⟨_, rfl⟩
 rw [hg0] at G0
 rw [hg1] at G1
 have HG := Lib.hid (And.intro hg0 hg1)
 have h1n : l1.length = n1 := by have := s1.1; rw [vE_len] at this; omega
 have HA := Lib.hid (And.intro s0 (And.intro m0 (And.intro x0 w0)))
 have HM := Lib.hid (And.intro s1 (And.intro m1 (And.intro x1 (And.intro w1 h1n))))
 clear hg0 hg1 s0 m0 x0 w0 s1 m1 x1 w1 h1n
 go_enter Tryz.func3, Tryz.ntmps3
 cases g0
 rotate_left
 · go_wp2_with fail
   refine G0.out.mono ?_
   rintro e w1 ⟨rfl, rfl⟩
   go_wp2_with fail
   refine (FX.out _).mono ?_
   rintro e w2 ⟨rfl, hb2⟩
   go_wp2_with fail
   go_ret
   exact ⟨rfl, hb2⟩
 cases g1
 rotate_left
 · go_wp2_with fail
   refine G0.out.mono ?_
   rintro e w1 ⟨rfl, rfl⟩
   go_wp2_with fail
   refine G1.out.mono ?_
   rintro e w1 ⟨rfl, rfl⟩
   go_wp2_with fail
   refine (FX.out _).mono ?_
   rintro e w2 ⟨rfl, hb2⟩
   go_wp2_with fail
   go_ret
   exact ⟨rfl, hb2⟩
 have b0 := sumE_bd HG.out.1
 have b1 := sumE_bd HG.out.2
 have l0n : n0 ≤ 9000 := by have := HA.out.1.1; rw [vE_len] at this; omega
 have l1n : n1 ≤ 9000 := by have := HM.out.1.1; rw [vE_len] at this; omega
 clear b0 b1
 by_cases hmo : 60 < n1
 · have hmI : (60 : Int) < (n1 : Int) := by omega
   go_wp2_with fail
   refine G0.out.mono ?_
   rintro e w1 ⟨rfl, rfl⟩
   go_wp2_with fail
   refine G1.out.mono ?_
   rintro e w1 ⟨rfl, rfl⟩
   go_wp2_with fail
   refine (FX.out _).mono ?_
   rintro e w2 ⟨rfl, hb2⟩
   go_wp2_with fail
   go_ret
   exact ⟨rfl, hb2⟩
 have hmI : (n1 : Int) ≤ 60 := by omega
 have hm1 : n1 ≤ 60 := by omega
 clear hmo
 go_wp2_with fail
 refine G0.out.mono ?_
 rintro e w1 ⟨rfl, rfl⟩
 go_wp2_with fail
 refine G1.out.mono ?_
 rintro e w1 ⟨rfl, rfl⟩
 have SO0 := Lib.hid (sorted_any A0 n0 c0 l0 W HA.out.1 (by omega))
 have hsm := sort_may l0
 have hsl := (sort_ok l0).len
 have hsk : ∀ e ∈ sortP l0, e.ok := fun e he => HA.out.2.2.2 e ((sort_ok l0).mem e he)
 have hsr := (sort_ok l0).rise
 obtain ⟨all, hall⟩ : ∃ x, sortP l0 = x := ⟨_, rfl⟩
 rw [hall] at SO0 hsm hsl hsk hsr
 clear hall
 have HS := Lib.hid (And.intro hsm (And.intro hsk hsr))
 clear hsm hsk hsr
 go_wp2_with fail
 refine SO0.out.mono ?_
 rintro e w2 ⟨A, c, rfl, o2, hb2⟩
 have hz2 := hb2.size
 obtain ⟨n, hn⟩ : ∃ n, n = 1000 := ⟨_, rfl⟩
 have hn1 : 1 ≤ n := by omega
 have hn3 : n ≤ 1000 := by omega
 have ND := Lib.hid (show Calls Tryz.prog 10 #[.int .i64 1000] w2 (RetDP w2 n (pagesOf (zb n) n) (marksOf (zb n) n)) from by
  have := newDP n hn1 (by omega) w2
  rw [show ((n : Nat) : Int) = 1000 from by omega] at this
  exact this)
 have Hn := Lib.hid hn
 clear hn
 have H2 := Lib.hid (And.intro o2 hb2)
 have hpl := pagesOf_len (zb n) n
 have hTl := marks_len (zb n) n
 have hfr : freeN (marksOf (zb n) n) = 999 := by rw [free_new n hn1, Hn.out]
 generalize pagesOf (zb n) n = ps at *
 generalize marksOf (zb n) n = T at *
 have HPL := Lib.hid (And.intro hpl (And.intro hTl hfr))
 clear hpl hTl o2 hb2 hfr
 go_wp2_with fail
 refine ND.out.mono ?_
 rintro e w3 ⟨g, gb, gt, rfl, hd, k1, k2, k3, hb3⟩
 have hz3 := hb3.size
 have o3 := own_below H2.out.1 hb3
 have hApt : Apt A gb gt := fun ad e => by
  subst e
  have h1 := (World.ownsRow.lt H2.out.1 ad.block rfl).2
  exact ⟨by omega, by omega⟩
 obtain ⟨A', c', e1, hlc⟩ := own_form o3
 injection e1 with e11 _ e13
 subst e11; subst e13
 have BU := Lib.hid (build_any hd (by omega) (Reads.of_own o3) hApt HS.out.2.1 HS.out.1 (by omega) hlc (own_cap o3))
 have hbt := fun root => bd_treeK (root := root) HS.out.1 HS.out.2.1 (HPL.out.2.1.trans HPL.out.1.symm) (by rw [HPL.out.1]; omega)
 have hct := fun root => bd_cnt (root := root) HS.out.1 HS.out.2.1 (HPL.out.2.1.trans HPL.out.1.symm) (by rw [HPL.out.1]; omega)
 have hno := (bd_ok HS.out.1 HS.out.2.1 (HPL.out.2.1.trans HPL.out.1.symm) (by rw [HPL.out.1]; omega)).no
 rw [HPL.out.2.2] at hct hno
 have H3 := Lib.hid (And.intro hd (And.intro (Reads.of_own o3) (And.intro hApt (And.intro (bto0 H2.out.2 hb3) (And.intro k2 k3)))))
 clear hd o3 hApt hb3 k1 k2 k3 ND hlc
 generalize bdP all ps T = R at *
 obtain ⟨R1, R2, R3⟩ := R
 simp only at hbt hct hno
 have HBT := Lib.hid (And.intro hbt (And.intro hct hno))
 clear hbt hct hno
 go_wp2_with fail
 refine BU.out.mono ?_
 rintro e w4 ⟨hd4, hL4, hres⟩
 simp only at hd4 hres
 have r4 := H3.out.2.1.lf hL4 H3.out.2.2.1
 have b4 := H3.out.2.2.2.1.trans (hL4.below W.heap.size (Nat.le_trans hz2 H3.out.2.2.2.2.1) (Nat.le_trans hz2 H3.out.2.2.2.2.2) (by omega))
 rcases hres with ⟨root, hroot, rfl⟩ | ⟨hroot, rfl⟩
 rotate_left
 · exfalso
   have := HBT.out.2.2 hroot
   omega
 obtain ⟨h0, d0, ht0⟩ := HBT.out.1 root hroot
 clear ht0
 obtain ⟨h0, d0, ht0, hcnt⟩ := HBT.out.2.1 root hroot
 have L0 := Lib.hid (show LS W g gb gt n R1 R2 root all A all.length c h0 d0 w4 from ⟨hd4, ht0, r4, H3.out.2.2.1, HS.out.2.2, HS.out.2.1, b4, Nat.le_trans hz2 H3.out.2.2.2.2.1, Nat.le_trans hz2 H3.out.2.2.2.2.2⟩)
 clear hd4 hL4 r4 b4 hroot ht0 BU
 go_wp2_with fail
 go_loopw [5, 8, 42] (fun v7 v10 v52 wr_ => ∃ (k : Nat) (ps : List (List UInt8)) (T : List Bool) (root : Nat) (l : List En) (A : Option Addr) (m c h : Nat) (d : Nd), v52 = .int .i64 (k : Int) ∧ k ≤ n1 ∧ v10 = .int .u32 (root : Int) ∧ v7 = .slice A m c ∧ LS W g gb gt n ps T root l A m c h d wr_ ∧ m ≤ 400 + k ∧ freeN T + d.P.length = 999) (fun _ _ v52 _ => n1 - (intOf v52).toNat)
 case atStart => exact ⟨0, R1, R2, root, all, A, all.length, c, h0, d0, rfl, Nat.zero_le _, rfl, rfl, L0.out, by omega, hcnt⟩
 case round =>
  rename World => wo
  clear L0 HBT HPL H3 H2 HS HA Hn hsl hz2 hz3 hcnt
  obtain ⟨k, ps, T, root, l, A, m, c, h, d, rfl, hk, rfl, rfl, L, hmk, hcn⟩ := hrel
  have Hcn := Lib.hid hcn
  clear hcn
  have q0 : (0 : Int) ≤ (k : Int) := by omega
  by_cases hlt : k < n1
  · have q1 : (k : Int) < (n1 : Int) := by omega
    obtain ⟨x, hx⟩ : ∃ x, l1[k]? = some x := ⟨_, List.getElem?_eq_getElem (by rw [HM.out.2.2.2.2]; exact hlt)⟩
    have hxo := HM.out.2.2.2.1 x (List.mem_of_getElem? hx)
    obtain ⟨ax, hax, hab, _, HXX⟩ := ent_of ((HM.out.1.below L.bl).more L.bl.size) hx
    obtain ⟨u0, u1, u2⟩ := HXX wo (Below.refl _ _)
    have hb5 := ball (Below.refl wo.heap.size wo) (.cells #[.string x.s, .int .u32 x.p, .int .u16 x.q] 37)
    have X5 := Blk.new wo 37 #[.string x.s, .int .u32 x.p, .int .u16 x.q]
    have L5 := L.below hb5
    have INS := Lib.hid (insert_any L5.dp (by omega) L5.t L5.ri x hxo)
    have HL := Lib.hid (And.intro L5 (And.intro X5 hxo))
    have hz5 : (wo.alloc (.cells #[.string x.s, .int .u32 x.p, .int .u16 x.q] 37)).heap.size = wo.heap.size + 1 := by simp
    have Hax := Lib.hid hax
    clear L hx HXX hax hxo L5 X5 hb5
    obtain ⟨xs, xp, xq⟩ := x
    unfold En.agg at INS
    simp only at u0 u1 u2 INS HL hz5
    obtain ⟨Ai, hAi⟩ : ∃ Ai, A1 = Ai := ⟨_, rfl⟩
    have hAi2 : A1 = some ax := Hax.out
    subst hAi2
    clear hAi
    go_upto_region 11 with fail
    obtain ⟨w5, hw5⟩ : ∃ x, wo.alloc (.cells #[.string xs, .int .u32 xp, .int .u16 xq] 37) = x := ⟨_, rfl⟩
    rw [hw5] at INS HL hz5 ⊢
    clear hw5 u0 u1 u2
    have y0 : w5.cell? ⟨wo.heap.size, 0, none⟩ = some (.string xs) := HL.out.2.1.cell 0
    have y1 : w5.cell? ⟨wo.heap.size, 1, none⟩ = some (.int .u32 xp) := HL.out.2.1.cell 1
    have y2 : w5.cell? ⟨wo.heap.size, 2, none⟩ = some (.int .u16 xq) := HL.out.2.1.cell 2
    go_wp2_with fail
    refine INS.out.mono ?_
    rintro e w6 ⟨lf6, i1, i2, i3⟩
    have hgz : gb < wo.heap.size ∧ gt < wo.heap.size ∧ g < wo.heap.size := by have h1 := HL.out.1.dp.lts; have h2 := HL.out.1; have := hz5; have hne := HL.out.2.1; exact ⟨blk_lt69 HL.out.1.dp.dk.b hne hz5 (by decide), blk_lt69 HL.out.1.dp.dk.t hne hz5 (by decide), blk_lt69 HL.out.1.dp.dk.d hne hz5 (by decide)⟩
    have X6 : Blk w6 wo.heap.size 37 #[.string xs, .int .u32 xp, .int .u16 xq] := (lf6.heap _ (by omega) (by omega) (by omega)).trans HL.out.2.1
    have z6 := lf6.size
    by_cases hbig : 200 < xs.size
    · obtain ⟨rfl, dp6⟩ := i1 hbig
      have hbI : (200 : Int) < (xs.size : Int) := by omega
      have L6 := Lib.hid (HL.out.1.no lf6 dp6 (fun _ h => h))
      have v0 : w6.cell? ⟨wo.heap.size, 0, none⟩ = some (.string xs) := X6.cell 0
      clear i1 i2 i3 lf6 dp6 X6 y0 y1 y2
      go_wp2_with fail
      go_roundw
      case rel => exact ⟨k + 1, ps, T, root, l, A, m, c, h, d, by go_num, by omega, rfl, rfl, L6.out, by omega, Hcn.out⟩
      case measure => simp [intOf]; omega
    have hbI : (xs.size : Int) ≤ 200 := by omega
    have v0 : w6.cell? ⟨wo.heap.size, 0, none⟩ = some (.string xs) := X6.cell 0
    have v1 : w6.cell? ⟨wo.heap.size, 1, none⟩ = some (.int .u32 xp) := X6.cell 1
    have v2 : w6.cell? ⟨wo.heap.size, 2, none⟩ = some (.int .u16 xq) := X6.cell 2
    by_cases hin : (⟨xs, xp, xq⟩ : En) ∈ l
    · obtain ⟨rfl, dp6⟩ := i2 (by show xs.size ≤ 200; omega) hin
      have L6 := Lib.hid (HL.out.1.no lf6 dp6 (fun _ h => h))
      have HA_ := Lib.hid (hasE_any A m c l ⟨xs, xp, xq⟩ w6 L6.out.rd (by omega))
      unfold En.agg at HA_
      simp only at HA_
      have Hin := Lib.hid hin
      clear i1 i2 i3 lf6 dp6 X6 y0 y1 y2 hin hbig
      go_wp2_with fail
      refine HA_.out.mono ?_
      rintro e w7 ⟨⟨b, rfl, hb⟩, hb7⟩
      have hb2 : b = true := hb.2 Hin.out
      clear hb
      subst hb2
      have L7 := Lib.hid (L6.out.below hb7)
      clear hb7 L6
      go_wp2_with fail
      go_roundw
      case rel => exact ⟨k + 1, ps, T, root, l, A, m, c, h, d, by go_num, by omega, rfl, rfl, L7.out, by omega, Hcn.out⟩
      case measure => simp [intOf]; omega
    obtain ⟨ps', T', dp6, hup, ⟨root', h', d', rfl, tk6, c6, _, _⟩ | ⟨_, _, hno⟩⟩ := i3 (by show xs.size ≤ 200; omega) hin
    rotate_left
    · exact (tree_room HL.out.1.t (by rw [HL.out.1.len]; omega) Hcn.out hno).elim
    have c6' := c6.trans Hcn.out
    obtain ⟨a1, a2_, a3, a4⟩ := HL.out.1.lf lf6 dp6 tk6
    have L6b : LS W g gb gt n ps' T' root' (withP l ⟨xs, xp, xq⟩) A m c h' d' w6 → True := fun _ => trivial
    have HA_ := Lib.hid (hasE_any A m c l ⟨xs, xp, xq⟩ w6 a3 (by omega))
    unfold En.agg at HA_
    simp only at HA_
    have H6 := Lib.hid (And.intro a1 (And.intro a2_ (And.intro a4 (And.intro hin a3))))
    have Hc6 := Lib.hid c6'
    have lx6 := X6.lt
    have HX6 := Lib.hid X6
    clear i1 i2 i3 lf6 dp6 X6 y0 y1 y2 a1 a2_ a3 a4 tk6 hup c6 c6' hin hbig L6b
    go_wp2_with fail
    refine HA_.out.mono ?_
    rintro e w7 ⟨⟨b, rfl, hb⟩, hb7⟩
    have hb2 : b = false := by cases b with | false => rfl | true => exact absurd (hb.1 rfl) H6.out.2.2.2.1
    clear hb
    subst hb2
    have X7 := HX6.out.below hb7 lx6
    have t0 : w7.cell? ⟨wo.heap.size, 0, none⟩ = some (.string xs) := X7.cell 0
    have t1 : w7.cell? ⟨wo.heap.size, 1, none⟩ = some (.int .u32 xp) := X7.cell 1
    have t2 : w7.cell? ⟨wo.heap.size, 2, none⟩ = some (.int .u16 xq) := X7.cell 2
    have WI := Lib.hid (with_any A m c l ⟨xs, xp, xq⟩ w7 ((H6.out.2.2.2.2.below hb7).more hb7.size) (by omega))
    unfold En.agg at WI
    simp only at WI
    have H7 := Lib.hid (And.intro (H6.out.1.lower hb7) (H6.out.2.2.1.trans (hb7.mono H6.out.2.2.1.size)))
    clear hb7 v0 v1 v2 X7
    go_wp2_with fail
    refine WI.out.mono ?_
    rintro e w8 ⟨A8, c8, rfl, o8, hb8⟩
    have hwl : (withP l (⟨xs, xp, xq⟩ : En)).length = m + 1 := by rw [with_len, HL.out.1.len]
    have L8 := Lib.hid (LS.row H7.out.1 H6.out.2.1 H7.out.2 HL.out.1.gb_ HL.out.1.gt_ hb8 o8 (with_rise HL.out.1.ri H6.out.2.2.2.1) (with_ok HL.out.1.ok HL.out.2.2))
    rw [hwl] at L8 ⊢
    have RT := Lib.hid (right_any (root := root') (c := c8) L8.out.dp (by omega) hn1 L8.out.rd (by omega) ((rise_iff _).2 L8.out.ri) L8.out.ok (L8.out.t.ok_ (by rw [L8.out.dp.hT, L8.out.dp.hp])))
    clear o8 hb8 hwl t0 t1 t2
    have hk3 : (k : Int) % 4 = ((k % 4 : Nat) : Int) := by omega
    by_cases h4 : k % 4 = 3
    · have m4 : (((k : Int).tmod 4) == 3) = true := by rw [Int.tmod_eq_emod_of_nonneg (by omega)]; simp; omega
      have m5 : ((k : Int) % 4 == 3) = true := by simp; omega
      clear h4 hk3
      go_wp2_with fail
      refine RT.out.mono ?_
      rintro e w9 ⟨rfl, hb9⟩
      have L9 := Lib.hid (L8.out.below hb9)
      clear hb9
      go_wp2_with fail
      go_roundw
      case rel => exact ⟨k + 1, ps', T', root', withP l ⟨xs, xp, xq⟩, A8, m + 1, c8, h', d', by go_num, by omega, rfl, rfl, L9.out, by omega, Hc6.out⟩
      case measure => simp [intOf]; omega
    · have m4 : (((k : Int).tmod 4) == 3) = false := by rw [Int.tmod_eq_emod_of_nonneg (by omega)]; simp; omega
      have m5 : ((k : Int) % 4 == 3) = false := by simp; omega
      clear h4 hk3
      go_wp2_with fail
      go_roundw
      case rel => exact ⟨k + 1, ps', T', root', withP l ⟨xs, xp, xq⟩, A8, m + 1, c8, h', d', by go_num, by omega, rfl, rfl, L8.out, by omega, Hc6.out⟩
      case measure => simp [intOf]; omega
  · have hk' : k = n1 := by omega
    have q1 : (n1 : Int) ≤ (k : Int) := by omega
    have HL := Lib.hid L
    clear L hk' hlt
    go_wp2_with fail
    refine (FX.out _).mono ?_
    rintro e w8 ⟨rfl, hb8⟩
    have L8 := HL.out.below hb8
    have RT := Lib.hid (right_any (root := root) (c := c) L8.dp (by omega) hn1 L8.rd (by omega) ((rise_iff l).2 L8.ri) L8.ok (L8.t.ok_ (by rw [L8.dp.hT, L8.dp.hp])))
    have H8 := Lib.hid L8.bl
    clear hb8 L8
    go_wp2_with fail
    refine RT.out.mono ?_
    rintro e w9 ⟨rfl, hb9⟩
    have H9 := Lib.hid (H8.out.trans (hb9.mono H8.out.size))
    clear hb9
    go_wp2_with fail
    go_ret
    exact ⟨rfl, H9.out⟩
end
end Go.Proofs.YtebobcbaloddaaaGreat
