/-
  B36 B37 B32 B33 B34 B35.
-/
import Derived.Test.YtebobcbaloddaaaGreatMfbs
import Derived.Test.YtebobcbaloddaaaGreatMfaz
import Derived.Test.YtebobcbaloddaaaGreatMfbr
import Derived.Deep.DeepCutAuto
import Derived.BigQuiet
import Derived.Test.YtebobcbaloddaaaGreatMfzz
namespace Go.Proofs.YtebobcbaloddaaaGreat
section
set_option linter.unusedSimpArgs false
set_option linter.unusedVariables false
open Go.RowKit Go.Maps
theorem own_kept36 {w w' : World} {g n : Nat} {v : Value} {xs : List Value} {o : Obj} {cs : Array Value} (h : w.ownsRow (g + 1) 37 3 v n xs) (hb : Blk w g 37 cs) (hz : g + 1 ≤ w.heap.size) (hg : (w.alloc o).grownBy w' v.ownBlock) : Blk w' g 37 cs ∧ g + 1 ≤ w'.heap.size := by
 refine ⟨(hb.alloc o).grown hg fun e => ?_, ?_⟩
 · have := (World.ownsRow.lt h g e.symm).1; omega
 · have := hg.size
   simp at this
   omega
def RetEs (w : World) (l : List En) (e : Ending) (w' : World) : Prop := ∃ A c, e = .returned (.slice A l.length c) ∧ w'.ownsRow w.heap.size 37 3 (.slice A l.length c) l.length (vE l) ∧ Below w.heap.size w w'
theorem vE_snoc36 (l : List En) (x : En) : vE (l ++ [x]) = vE l ++ En.cells x := by simp [vE, List.flatMap_append]
theorem withP_no {l : List En} {x y : En} {i : Nat} (hy : l[i]? = some y) (h : lessE x y = false) : withP (l.drop i) x = y :: withP (l.drop (i + 1)) x := by
 have hi := lt_of_at hy
 rw [List.drop_eq_getElem_cons hi, withP]
 have : l[i] = y := by rw [List.getElem?_eq_getElem hi] at hy; injection hy
 rw [this, if_neg (by rw [h]; simp)]
theorem withP_yes {l : List En} {x y : En} {i : Nat} (hy : l[i]? = some y) (h : lessE x y = true) : withP (l.drop i) x = x :: y :: l.drop (i + 1) := by
 have hi := lt_of_at hy
 rw [List.drop_eq_getElem_cons hi, withP]
 have : l[i] = y := by rw [List.getElem?_eq_getElem hi] at hy; injection hy
 rw [this, if_pos h]
theorem drop_at36 {l : List En} {y : En} {i : Nat} (hy : l[i]? = some y) : l.drop i = y :: l.drop (i + 1) := by
 have hi := lt_of_at hy
 rw [List.drop_eq_getElem_cons hi]
 have : l[i] = y := by rw [List.getElem?_eq_getElem hi] at hy; injection hy
 rw [this]
set_option maxRecDepth 100000 in
set_option maxHeartbeats 8000000 in
theorem with_any (A : Option Addr) (n c : Nat) (l : List En) (x : En) (w : World) (hr : Reads w w.heap.size 3 A n (vE l)) (hn : n ≤ 1000000) :
 Calls Tryz.prog 14 #[.slice A n c, x.agg] w (RetEs w (withP l x)) := by
 have hl : l.length = n := by have := hr.1; rw [vE_len] at this; omega
 obtain ⟨i0, hi0, hz0, hs0, hy0⟩ := int_info8 Tryz.infoE
 obtain ⟨R, hR⟩ : ∃ R, withP l x = R := ⟨_, rfl⟩
 have hRl : R.length = n + 1 := by rw [← hR, with_len, hl]
 rw [hR]
 have HR := Lib.hid hR
 have hx' : ∃ x', x' = x := ⟨_, rfl⟩
 obtain ⟨xx, hxx⟩ := hx'
 rw [← hxx] at HR
 have Hxx := Lib.hid hxx
 clear hR hxx
 obtain ⟨xs, xp, xq⟩ := x
 have hbX := ball (ball (Below.refl w.heap.size w) (.cells #[.string xs, .int .u32 xp, .int .u16 xq] 37)) (.cells #[] 37)
 have X0 := (Blk.new w 37 #[.string xs, .int .u32 xp, .int .u16 xq]).alloc (.cells #[] 37)
 have O0 : ((w.alloc (.cells #[.string xs, .int .u32 xp, .int .u16 xq] 37)).alloc (.cells #[] 37)).ownsRow (w.heap.size + 1) 37 3 (.slice (some ⟨w.heap.size + 1, 0, none⟩) 0 0) 0 [] := by
  have h := own_empty (w.alloc (.cells #[.string xs, .int .u32 xp, .int .u16 xq] 37)) 37 3 (g := w.heap.size + 1) (by simp)
  exact World.ownsRow.mono h (by simp)
 have hz : w.heap.size + 1 ≤ ((w.alloc (.cells #[.string xs, .int .u32 xp, .int .u16 xq] 37)).alloc (.cells #[] 37)).heap.size := by simp
 have H0 := Lib.hid (And.intro hbX (And.intro X0 (And.intro O0 hz)))
 have HR0 := Lib.hid hr
 have HL := Lib.hid (And.intro hl hRl)
 clear hbX X0 O0 hz hr hl hRl
 go_enter Tryz.func14, Tryz.ntmps14
 go_wp2_with fail
 go_loopw [5, 6, 11] (fun v5 v6 v11 wr => ∃ (i : Nat) (O : List En) (d : Bool), v11 = .int .i64 (i : Int) ∧ i ≤ n ∧ v6 = .bool d ∧ wr.ownsRow (w.heap.size + 1) 37 3 v5 O.length (vE O) ∧ Below w.heap.size w wr ∧ Blk wr w.heap.size 37 #[.string xs, .int .u32 xp, .int .u16 xq] ∧ w.heap.size + 1 ≤ wr.heap.size ∧ O ++ (if d then l.drop i else withP (l.drop i) xx) = R) (fun _ _ v11 _ => n - (intOf v11).toNat)
 case atStart => exact ⟨0, [], false, rfl, Nat.zero_le _, rfl, H0.out.2.2.1, H0.out.1, H0.out.2.1, H0.out.2.2.2, by rw [← HR.out]; rfl⟩
 case round =>
  obtain ⟨i, O, d, rfl, hin, rfl, hO, hb, hX, hzr, hp⟩ := hrel
  have i0' : (0 : Int) ≤ (i : Int) := by omega
  have hOl : O.length ≤ n + 1 := by
   have h1 := congrArg List.length hp
   rw [List.length_append, HL.out.2] at h1
   omega
  obtain ⟨Ao, co, rfl, hco⟩ := own_form hO
  by_cases hlt : i < n
  · have i1 : (i : Int) < (n : Int) := by omega
    obtain ⟨y, hy⟩ : ∃ y, l[i]? = some y := ⟨_, List.getElem?_eq_getElem (by rw [HL.out.1]; exact hlt)⟩
    obtain ⟨ad, rfl, hab, _, HYY⟩ := ent_of (w := w) HR0.out hy
    obtain ⟨ly, hly⟩ : ∃ b, lessE xx y = b := ⟨_, rfl⟩
    have HP := Lib.hid (And.intro hp (And.intro hy hly))
    have C1 := Lib.hid fun W => lessE_any xx y W
    rw [hly, Hxx.out] at C1
    have HY' : Hid (∀ W, Below w.heap.size w W → W.cell? (ad.add (i * 3)) = some (.string y.s) ∧ W.cell? ⟨(ad.add (i * 3)).block, (ad.add (i * 3)).off + 1, none⟩ = some (.int .u32 y.p) ∧ W.cell? ⟨(ad.add (i * 3)).block, (ad.add (i * 3)).off + 2, none⟩ = some (.int .u16 y.q)) := Lib.hid HYY
    have hyy' : ∃ y', y' = y := ⟨_, rfl⟩
    obtain ⟨yy, hyy⟩ := hyy'
    rw [← hyy] at HP
    have Hyy := Lib.hid hyy
    clear hp hy hly HYY hyy
    obtain ⟨ys, yp, yq⟩ := y
    simp only at HY'
    unfold En.agg at C1
    simp only at C1
    have HH := Lib.hid (And.intro hO (And.intro hb (And.intro hX hzr)))
    have hS : Hid (∀ W, Below wr.heap.size wr W → W.cell? ⟨w.heap.size, 0, none⟩ = some (.string xs) ∧ W.cell? ⟨w.heap.size, 1, none⟩ = some (.int .u32 xp) ∧ W.cell? ⟨w.heap.size, 2, none⟩ = some (.int .u16 xq) ∧ W.cell? (ad.add (i * 3)) = some (.string ys) ∧ W.cell? ⟨(ad.add (i * 3)).block, (ad.add (i * 3)).off + 1, none⟩ = some (.int .u32 yp) ∧ W.cell? ⟨(ad.add (i * 3)).block, (ad.add (i * 3)).off + 2, none⟩ = some (.int .u16 yq) ∧ Below wr.heap.size wr W) := Lib.hid fun W hW => ⟨(HH.out.2.2.1.below hW HH.out.2.2.1.lt).cell 0, (HH.out.2.2.1.below hW HH.out.2.2.1.lt).cell 1, (HH.out.2.2.1.below hW HH.out.2.2.1.lt).cell 2, (HY'.out W (HH.out.2.1.trans (hW.mono (by have := HH.out.2.2.2; omega)))).1, (HY'.out W (HH.out.2.1.trans (hW.mono (by have := HH.out.2.2.2; omega)))).2.1, (HY'.out W (HH.out.2.1.trans (hW.mono (by have := HH.out.2.2.2; omega)))).2.2, hW⟩
    clear hO hb hX
    go_upto_region 6 with fail
    cases d
    · cases ly
      ·
       refine wp_region_held_drew (S := (fun W => W.cell? ⟨w.heap.size, 0, none⟩ = some (.string xs) ∧ W.cell? ⟨w.heap.size, 1, none⟩ = some (.int .u32 xp) ∧ W.cell? ⟨w.heap.size, 2, none⟩ = some (.int .u16 xq) ∧ W.cell? (ad.add (i * 3)) = some (.string ys) ∧ W.cell? ⟨(ad.add (i * 3)).block, (ad.add (i * 3)).off + 1, none⟩ = some (.int .u32 yp) ∧ W.cell? ⟨(ad.add (i * 3)).block, (ad.add (i * 3)).off + 2, none⟩ = some (.int .u16 yq) ∧ Below wr.heap.size wr W)) (by kernel_rfl) (by exact hS.out _ (Below.drew (Below.refl _ _))) (fun hHeld => ?_)
       try dsimp only at hHeld
       refine zt 0 ?_ rfl (by kernel_rfl) (fun _ _ _ h => h) ⟨rfl, ?_⟩ hHeld ?_
       rotate_left
       focus (intro wx hSw; (try dsimp only at hSw); (try go_split_ands); go_simp; (try with_reducible rfl))
       try simp only [Act.put, za1, za2, za3, za4, za5, za6]
       refine zt 1 ?_ rfl (by kernel_rfl) (fun _ _ _ h => h) ⟨rfl, ?_⟩ hHeld ?_
       rotate_left
       focus (intro wx hSw; (try dsimp only at hSw); (try go_split_ands); go_simp; (try with_reducible rfl))
       try simp only [Act.put, za1, za2, za3, za4, za5, za6]
       refine zt 2 ?_ rfl (by kernel_rfl) (fun _ _ _ h => h) ⟨rfl, ?_⟩ hHeld ?_
       rotate_left
       focus (intro wx hSw; (try dsimp only at hSw); (try go_split_ands); go_simp; (try with_reducible rfl))
       try simp only [Act.put, za1, za2, za3, za4, za5, za6]
       refine zt 3 ?_ rfl (by kernel_rfl) (fun _ _ _ h => h) ⟨rfl, ?_⟩ hHeld ?_
       rotate_left
       focus (intro wx hSw; (try dsimp only at hSw); (try go_split_ands); go_simp; (try with_reducible rfl))
       try simp only [Act.put, za1, za2, za3, za4, za5, za6]
       refine zt 4 ?_ rfl (by kernel_rfl) (fun _ _ _ h => h) ⟨rfl, ?_⟩ hHeld ?_
       rotate_left
       focus (intro wx hSw; (try dsimp only at hSw); (try go_split_ands); go_simp; (try with_reducible rfl))
       try simp only [Act.put, za1, za2, za3, za4, za5, za6]
       refine zt 5 ?_ rfl (by kernel_rfl) (fun _ _ _ h => h) ⟨rfl, ?_⟩ hHeld ?_
       rotate_left
       focus (intro wx hSw; (try dsimp only at hSw); (try go_split_ands); go_simp; (try with_reducible rfl))
       try simp only [Act.put, za1, za2, za3, za4, za5, za6]
       refine zt 6 ?_ rfl (by kernel_rfl) (fun _ _ _ h => h) ⟨rfl, ?_⟩ hHeld ?_
       rotate_left
       focus (intro wx hSw; (try dsimp only at hSw); (try go_split_ands); go_simp; (try with_reducible rfl))
       try simp only [Act.put, za1, za2, za3, za4, za5, za6]
       refine zt 7 ?_ rfl (by kernel_rfl) (fun _ _ _ h => h) ⟨rfl, ?_⟩ hHeld ?_
       rotate_left
       focus (intro wx hSw; (try dsimp only at hSw); (try go_split_ands); go_simp; (try with_reducible rfl))
       try simp only [Act.put, za1, za2, za3, za4, za5, za6]
       refine wpAnyH_ready (rs := [8]) (by kernel_rfl) (by simp) (AllReadyH.cons rfl (fun K hK => ?_) AllReadyH.nil)
       go_simp
       (with_reducible refine (C1.out _).mono ?_); rintro e w1 ⟨rfl, hb1⟩
       go_wp2_with fail
       refine hK.out _ _ ?_ (fun hHeld => ?_)
       · ((try dsimp only); (try dsimp only at hHeld); (first | exact hS.out _ (by (with_reducible repeat (first | exact Below.refl _ _ | exact hb1 | refine bto0 ?_ hb1 | refine bdr ?_ _ | refine Below.drew ?_ | refine ball ?_ _))) | assumption))
       clear hK K
       try dsimp only at hHeld
       try simp only [Act.put, za1, za2, za3, za4, za5, za6]
       refine zt 9 ?_ rfl (by kernel_rfl) (fun _ _ _ h => h) ⟨rfl, ?_⟩ hHeld ?_
       rotate_left
       focus (intro wx hSw; (try dsimp only at hSw); (try go_split_ands); go_simp; (try with_reducible rfl))
       try simp only [Act.put, za1, za2, za3, za4, za5, za6]
       refine wpAnyH_done (by kernel_rfl) ?_ _
       obtain ⟨y0, y1, y2, y3, y4, y5, hbW⟩ := hS.out (w1) (show Below wr.heap.size wr (w1) from by (with_reducible repeat (first | exact Below.refl _ _ | exact hb1 | refine bto0 ?_ hb1 | refine bdr ?_ _ | refine Below.drew ?_ | refine ball ?_ _)))
       have HW := Lib.hid (And.intro (own_below HH.out.1 hbW) (HH.out.2.1.trans (hbW.mono (by omega))))
       have hzw : w.heap.size + 1 ≤ (w1).heap.size := Nat.le_trans hzr hbW.size
       have hXw := Lib.hid (HH.out.2.2.1.below hbW HH.out.2.2.1.lt)
       clear hbW
       go_wp2_with (at_builtin; refine wpList_pushR (news := En.cells ⟨ys, yp, yq⟩) rfl (.tmp 28) (.tmp 33) 22 rfl (w.heap.size + 1) 37 i0 _ 3 24 Tryz.underlying22 hi0 hz0 hs0 hy0 rfl (by decide) _ O.length (vE O) rfl HW.out.1 rfl _ rfl (by simp) rfl (by intro u hu; simp only [En.cells, List.mem_cons, List.not_mem_nil, or_false] at hu; rcases hu with rfl | rfl | rfl <;> rfl) (by omega) (by omega) hzw ?_; intro v6 w6 ho6 hg6 hv6; have H6 := Lib.hid (And.intro ho6 (And.intro (below_grown HW.out.1 (by omega) hzw hg6 HW.out.2) (own_kept36 HW.out.1 hXw.out hzw hg6))); clear ho6 hg6)
       go_roundw
       case rel => exact ⟨i + 1, O ++ [yy], false, by go_num, by omega, rfl, by rw [List.length_append, List.length_singleton, vE_snoc36, Hyy.out]; exact H6.out.1, H6.out.2.1, H6.out.2.2.1, H6.out.2.2.2, by rw [← HP.out.1, withP_no HP.out.2.1 HP.out.2.2]; simp⟩
       case measure => simp [intOf]; omega
      ·
       refine wp_region_held_drew (S := (fun W => W.cell? ⟨w.heap.size, 0, none⟩ = some (.string xs) ∧ W.cell? ⟨w.heap.size, 1, none⟩ = some (.int .u32 xp) ∧ W.cell? ⟨w.heap.size, 2, none⟩ = some (.int .u16 xq) ∧ W.cell? (ad.add (i * 3)) = some (.string ys) ∧ W.cell? ⟨(ad.add (i * 3)).block, (ad.add (i * 3)).off + 1, none⟩ = some (.int .u32 yp) ∧ W.cell? ⟨(ad.add (i * 3)).block, (ad.add (i * 3)).off + 2, none⟩ = some (.int .u16 yq) ∧ Below wr.heap.size wr W)) (by kernel_rfl) (by exact hS.out _ (Below.drew (Below.refl _ _))) (fun hHeld => ?_)
       try dsimp only at hHeld
       refine zt 0 ?_ rfl (by kernel_rfl) (fun _ _ _ h => h) ⟨rfl, ?_⟩ hHeld ?_
       rotate_left
       focus (intro wx hSw; (try dsimp only at hSw); (try go_split_ands); go_simp; (try with_reducible rfl))
       try simp only [Act.put, za1, za2, za3, za4, za5, za6]
       refine zt 1 ?_ rfl (by kernel_rfl) (fun _ _ _ h => h) ⟨rfl, ?_⟩ hHeld ?_
       rotate_left
       focus (intro wx hSw; (try dsimp only at hSw); (try go_split_ands); go_simp; (try with_reducible rfl))
       try simp only [Act.put, za1, za2, za3, za4, za5, za6]
       refine zt 2 ?_ rfl (by kernel_rfl) (fun _ _ _ h => h) ⟨rfl, ?_⟩ hHeld ?_
       rotate_left
       focus (intro wx hSw; (try dsimp only at hSw); (try go_split_ands); go_simp; (try with_reducible rfl))
       try simp only [Act.put, za1, za2, za3, za4, za5, za6]
       refine zt 3 ?_ rfl (by kernel_rfl) (fun _ _ _ h => h) ⟨rfl, ?_⟩ hHeld ?_
       rotate_left
       focus (intro wx hSw; (try dsimp only at hSw); (try go_split_ands); go_simp; (try with_reducible rfl))
       try simp only [Act.put, za1, za2, za3, za4, za5, za6]
       refine zt 4 ?_ rfl (by kernel_rfl) (fun _ _ _ h => h) ⟨rfl, ?_⟩ hHeld ?_
       rotate_left
       focus (intro wx hSw; (try dsimp only at hSw); (try go_split_ands); go_simp; (try with_reducible rfl))
       try simp only [Act.put, za1, za2, za3, za4, za5, za6]
       refine zt 5 ?_ rfl (by kernel_rfl) (fun _ _ _ h => h) ⟨rfl, ?_⟩ hHeld ?_
       rotate_left
       focus (intro wx hSw; (try dsimp only at hSw); (try go_split_ands); go_simp; (try with_reducible rfl))
       try simp only [Act.put, za1, za2, za3, za4, za5, za6]
       refine zt 6 ?_ rfl (by kernel_rfl) (fun _ _ _ h => h) ⟨rfl, ?_⟩ hHeld ?_
       rotate_left
       focus (intro wx hSw; (try dsimp only at hSw); (try go_split_ands); go_simp; (try with_reducible rfl))
       try simp only [Act.put, za1, za2, za3, za4, za5, za6]
       refine zt 7 ?_ rfl (by kernel_rfl) (fun _ _ _ h => h) ⟨rfl, ?_⟩ hHeld ?_
       rotate_left
       focus (intro wx hSw; (try dsimp only at hSw); (try go_split_ands); go_simp; (try with_reducible rfl))
       try simp only [Act.put, za1, za2, za3, za4, za5, za6]
       refine wpAnyH_ready (rs := [8]) (by kernel_rfl) (by simp) (AllReadyH.cons rfl (fun K hK => ?_) AllReadyH.nil)
       go_simp
       (with_reducible refine (C1.out _).mono ?_); rintro e w1 ⟨rfl, hb1⟩
       go_wp2_with fail
       refine hK.out _ _ ?_ (fun hHeld => ?_)
       · ((try dsimp only); (try dsimp only at hHeld); (first | exact hS.out _ (by (with_reducible repeat (first | exact Below.refl _ _ | exact hb1 | refine bto0 ?_ hb1 | refine bdr ?_ _ | refine Below.drew ?_ | refine ball ?_ _))) | assumption))
       clear hK K
       try dsimp only at hHeld
       try simp only [Act.put, za1, za2, za3, za4, za5, za6]
       refine zt 9 ?_ rfl (by kernel_rfl) (fun _ _ _ h => h) ⟨rfl, ?_⟩ hHeld ?_
       rotate_left
       focus (intro wx hSw; (try dsimp only at hSw); (try go_split_ands); go_simp; (try with_reducible rfl))
       try simp only [Act.put, za1, za2, za3, za4, za5, za6]
       refine wpAnyH_done (by kernel_rfl) ?_ _
       obtain ⟨y0, y1, y2, y3, y4, y5, hbW⟩ := hS.out (w1) (show Below wr.heap.size wr (w1) from by (with_reducible repeat (first | exact Below.refl _ _ | exact hb1 | refine bto0 ?_ hb1 | refine bdr ?_ _ | refine Below.drew ?_ | refine ball ?_ _)))
       have HW := Lib.hid (And.intro (own_below HH.out.1 hbW) (HH.out.2.1.trans (hbW.mono (by omega))))
       have hzw : w.heap.size + 1 ≤ (w1).heap.size := Nat.le_trans hzr hbW.size
       have hXw := Lib.hid (HH.out.2.2.1.below hbW HH.out.2.2.1.lt)
       clear hbW
       go_wp2_with (first | (at_builtin; refine wpList_pushR (news := En.cells ⟨xs, xp, xq⟩) rfl (.tmp 24) (.tmp 26) 22 rfl (w.heap.size + 1) 37 i0 _ 3 24 Tryz.underlying22 hi0 hz0 hs0 hy0 rfl (by decide) _ O.length (vE O) rfl HW.out.1 rfl _ rfl (by simp) rfl (by intro u hu; simp only [En.cells, List.mem_cons, List.not_mem_nil, or_false] at hu; rcases hu with rfl | rfl | rfl <;> rfl) (by omega) (by omega) hzw ?_; intro v6 w6 ho6 hg6 hv6; obtain ⟨A6, c6, rfl, hc6⟩ := own_form ho6; have hbk := below_grown HW.out.1 (by omega) hzw hg6 HW.out.2; have hzz := own_kept36 HW.out.1 hXw.out hzw hg6; obtain ⟨y3, y4, y5⟩ := HY'.out _ hbk; have hz6 := hzz.2; have H6 := Lib.hid (And.intro ho6 (And.intro hbk hzz.1)); clear ho6 hg6 hbk hzz) | (at_builtin; refine wpList_pushR (news := En.cells ⟨ys, yp, yq⟩) rfl (.tmp 28) (.tmp 33) 22 rfl (w.heap.size + 1) 37 i0 _ 3 24 Tryz.underlying22 hi0 hz0 hs0 hy0 rfl (by decide) _ (O.length + 1) (vE O ++ En.cells ⟨xs, xp, xq⟩) rfl H6.out.1 rfl _ rfl (by simp) rfl (by intro u hu; simp only [En.cells, List.mem_cons, List.not_mem_nil, or_false] at hu; rcases hu with rfl | rfl | rfl <;> rfl) (by omega) (by omega) hz6 ?_; intro v7 w7 ho7 hg7 hv7; have H7 := Lib.hid (And.intro ho7 (And.intro (below_grown H6.out.1 (by omega) hz6 hg7 H6.out.2.1) (own_kept36 H6.out.1 H6.out.2.2 hz6 hg7))); clear ho7 hg7))
       go_roundw
       case rel => exact ⟨i + 1, O ++ [xx] ++ [yy], true, by go_num, by omega, rfl, by rw [List.length_append, List.length_append, List.length_singleton, List.length_singleton, vE_snoc36, vE_snoc36, Hyy.out, Hxx.out]; exact H7.out.1, H7.out.2.1, H7.out.2.2.1, H7.out.2.2.2, by rw [← HP.out.1]; simp [withP_yes HP.out.2.1 HP.out.2.2]⟩
       case measure => simp [intOf]; omega
    · clear C1
      refine wp_region_held_drew (S := (fun W => W.cell? ⟨w.heap.size, 0, none⟩ = some (.string xs) ∧ W.cell? ⟨w.heap.size, 1, none⟩ = some (.int .u32 xp) ∧ W.cell? ⟨w.heap.size, 2, none⟩ = some (.int .u16 xq) ∧ W.cell? (ad.add (i * 3)) = some (.string ys) ∧ W.cell? ⟨(ad.add (i * 3)).block, (ad.add (i * 3)).off + 1, none⟩ = some (.int .u32 yp) ∧ W.cell? ⟨(ad.add (i * 3)).block, (ad.add (i * 3)).off + 2, none⟩ = some (.int .u16 yq) ∧ Below wr.heap.size wr W)) (by kernel_rfl) (by exact hS.out _ (Below.drew (Below.refl _ _))) (fun hHeld => ?_)
      try dsimp only at hHeld
      refine zt 0 ?_ rfl (by kernel_rfl) (fun _ _ _ h => h) ⟨rfl, ?_⟩ hHeld ?_
      rotate_left
      focus (intro wx hSw; (try dsimp only at hSw); (try go_split_ands); go_simp; (try with_reducible rfl))
      try simp only [Act.put, za1, za2, za3, za4, za5, za6]
      refine zt 1 ?_ rfl (by kernel_rfl) (fun _ _ _ h => h) ⟨rfl, ?_⟩ hHeld ?_
      rotate_left
      focus (intro wx hSw; (try dsimp only at hSw); (try go_split_ands); go_simp; (try with_reducible rfl))
      try simp only [Act.put, za1, za2, za3, za4, za5, za6]
      refine zt 2 ?_ rfl (by kernel_rfl) (fun _ _ _ h => h) ⟨rfl, ?_⟩ hHeld ?_
      rotate_left
      focus (intro wx hSw; (try dsimp only at hSw); (try go_split_ands); go_simp; (try with_reducible rfl))
      try simp only [Act.put, za1, za2, za3, za4, za5, za6]
      refine wpAnyH_take (i := 3) (v := undef) rfl (by kernel_rfl) (by kernel_rfl) (by kernel_rfl) (fun _ _ _ h => h) (Or.inr ⟨rfl, rfl⟩) hHeld ?_
      try simp only [Act.put, za1, za2, za3, za4, za5, za6]
      refine wpAnyH_take (i := 4) (v := undef) rfl (by kernel_rfl) (by kernel_rfl) (by kernel_rfl) (fun _ _ _ h => h) (Or.inr ⟨rfl, rfl⟩) hHeld ?_
      try simp only [Act.put, za1, za2, za3, za4, za5, za6]
      refine wpAnyH_take (i := 5) (v := undef) rfl (by kernel_rfl) (by kernel_rfl) (by kernel_rfl) (fun _ _ _ h => h) (Or.inr ⟨rfl, rfl⟩) hHeld ?_
      try simp only [Act.put, za1, za2, za3, za4, za5, za6]
      refine wpAnyH_take (i := 6) (v := undef) rfl (by kernel_rfl) (by kernel_rfl) (by kernel_rfl) (fun _ _ _ h => h) (Or.inr ⟨rfl, rfl⟩) hHeld ?_
      try simp only [Act.put, za1, za2, za3, za4, za5, za6]
      refine wpAnyH_take (i := 7) (v := undef) rfl (by kernel_rfl) (by kernel_rfl) (by kernel_rfl) (fun _ _ _ h => h) (Or.inr ⟨rfl, rfl⟩) hHeld ?_
      try simp only [Act.put, za1, za2, za3, za4, za5, za6]
      refine wpAnyH_take (i := 8) (v := undef) rfl (by kernel_rfl) (by kernel_rfl) (by kernel_rfl) (fun _ _ _ h => h) (Or.inr ⟨rfl, rfl⟩) hHeld ?_
      try simp only [Act.put, za1, za2, za3, za4, za5, za6]
      refine zt 9 ?_ rfl (by kernel_rfl) (fun _ _ _ h => h) ⟨rfl, ?_⟩ hHeld ?_
      rotate_left
      focus (intro wx hSw; (try dsimp only at hSw); (try go_split_ands); go_simp; (try with_reducible rfl))
      try simp only [Act.put, za1, za2, za3, za4, za5, za6]
      refine wpAnyH_done (by kernel_rfl) ?_ _
      obtain ⟨y0, y1, y2, y3, y4, y5, hbW⟩ := hS.out (wr.drew) (show Below wr.heap.size wr (wr.drew) from by exact Below.drew (Below.refl _ _))
      have HW := Lib.hid (And.intro (own_below HH.out.1 hbW) (HH.out.2.1.trans (hbW.mono (by omega))))
      have hzw : w.heap.size + 1 ≤ (wr.drew).heap.size := Nat.le_trans hzr hbW.size
      have hXw := Lib.hid (HH.out.2.2.1.below hbW HH.out.2.2.1.lt)
      clear hbW
      go_wp2_with (at_builtin; refine wpList_pushR (news := En.cells ⟨ys, yp, yq⟩) rfl (.tmp 28) (.tmp 33) 22 rfl (w.heap.size + 1) 37 i0 _ 3 24 Tryz.underlying22 hi0 hz0 hs0 hy0 rfl (by decide) _ O.length (vE O) rfl HW.out.1 rfl _ rfl (by simp) rfl (by intro u hu; simp only [En.cells, List.mem_cons, List.not_mem_nil, or_false] at hu; rcases hu with rfl | rfl | rfl <;> rfl) (by omega) (by omega) hzw ?_; intro v6 w6 ho6 hg6 hv6; have H6 := Lib.hid (And.intro ho6 (And.intro (below_grown HW.out.1 (by omega) hzw hg6 HW.out.2) (own_kept36 HW.out.1 hXw.out hzw hg6))); clear ho6 hg6)
      go_roundw
      case rel => exact ⟨i + 1, O ++ [yy], true, by go_num, by omega, rfl, by rw [List.length_append, List.length_singleton, vE_snoc36, Hyy.out]; exact H6.out.1, H6.out.2.1, H6.out.2.2.1, H6.out.2.2.2, by rw [← HP.out.1]; simp [drop_at36 HP.out.2.1]⟩
      case measure => simp [intOf]; omega
  · have hin' : i = n := by omega
    have i1 : (n : Int) ≤ (i : Int) := by omega
    have hdn : l.drop i = [] := List.drop_eq_nil_of_le (by rw [HL.out.1]; omega)
    rw [hdn] at hp
    have y0 : wr.cell? ⟨w.heap.size, 0, none⟩ = some (.string xs) := hX.cell 0
    have y1 : wr.cell? ⟨w.heap.size, 1, none⟩ = some (.int .u32 xp) := hX.cell 1
    have y2 : wr.cell? ⟨w.heap.size, 2, none⟩ = some (.int .u16 xq) := hX.cell 2
    have HH := Lib.hid (And.intro hO (And.intro hb hp))
    clear hO hb hX hp hdn hin'
    cases d
    · go_wp2_with (at_builtin; refine wpList_pushR (news := En.cells ⟨xs, xp, xq⟩) rfl (.tmp 38) (.tmp 40) 22 rfl (w.heap.size + 1) 37 i0 _ 3 24 Tryz.underlying22 hi0 hz0 hs0 hy0 rfl (by decide) _ O.length (vE O) rfl HH.out.1 rfl _ rfl (by simp) rfl (by intro u hu; simp only [En.cells, List.mem_cons, List.not_mem_nil, or_false] at hu; rcases hu with rfl | rfl | rfl <;> rfl) (by omega) (by omega) hzr ?_; intro v6 w6 ho6 hg6 hv6; obtain ⟨A6, c6, rfl, hc6⟩ := own_form ho6; have H6 := Lib.hid (And.intro ho6 (below_grown HH.out.1 (by omega) hzr hg6 HH.out.2.1)); clear ho6 hg6)
      go_ret
      have hp := HH.out.2.2
      simp only [Bool.false_eq_true, if_false, withP] at hp
      rw [← hp]
      unfold RetEs
      rw [List.length_append, List.length_singleton, vE_snoc36, Hxx.out]
      exact ⟨A6, c6, rfl, World.ownsRow.mono H6.out.1 (by omega), H6.out.2⟩
    · go_wp2_with fail
      go_ret
      have hp := HH.out.2.2
      simp only [if_true, List.append_nil] at hp
      rw [← hp]
      unfold RetEs
      exact ⟨Ao, co, rfl, World.ownsRow.mono HH.out.1 (by omega), HH.out.2.1⟩
end
end Go.Proofs.YtebobcbaloddaaaGreat
namespace Go.Proofs.YtebobcbaloddaaaGreat
section
set_option linter.unusedSimpArgs false
set_option linter.unusedVariables false
open Go.RowKit Go.Maps
theorem take_in {l : List En} {i : Nat} {x : En} (hx : l[i]? = some x) (hi : i < 400) : (l.take 400).take (i + 1) = (l.take 400).take i ++ [x] := by
 rw [List.take_add_one, List.getElem?_take, if_pos hi, hx]; rfl
theorem take_out {l : List En} {i : Nat} (hi : 400 ≤ i) : (l.take 400).take (i + 1) = (l.take 400).take i := by
 have h : (l.take 400).length ≤ i := by rw [List.length_take]; omega
 rw [List.take_of_length_le (i := i + 1) (by omega), List.take_of_length_le h]
def sortN (l : List En) (i : Nat) : List En := ((l.take 400).take i).foldl stepP []
theorem sortN_len (l : List En) (i : Nat) : (sortN l i).length ≤ 400 := by
 have := (fold_ok (l := l) ((l.take 400).take i) 0 [] ⟨List.Pairwise.nil, fun x hx => (by cases hx), fun x hx => (by cases hx), Nat.le_refl _⟩ fun x hx => List.mem_of_mem_take (List.mem_of_mem_take hx)).len
 rw [List.length_take, List.length_take] at this
 unfold sortN
 omega
theorem sortN_in {l : List En} {i : Nat} {x : En} (hx : l[i]? = some x) (hi : i < 400) : sortN l (i + 1) = stepP (sortN l i) x := by
 unfold sortN; rw [take_in hx hi, List.foldl_append]; rfl
theorem sortN_out {l : List En} {i : Nat} (hi : 400 ≤ i) : sortN l (i + 1) = sortN l i := by unfold sortN; rw [take_out hi]
theorem sortN_end (l : List En) : sortN l l.length = sortP l := by
 unfold sortN sortP
 rw [List.take_of_length_le (l := l.take 400) (by rw [List.length_take]; omega)]
set_option maxRecDepth 100000 in
set_option maxHeartbeats 8000000 in
theorem sorted_any (A : Option Addr) (n c : Nat) (l : List En) (w : World) (hr : Reads w w.heap.size 3 A n (vE l)) (hn : n ≤ 1000000) :
 Calls Tryz.prog 9 #[.slice A n c] w (RetEs w (sortP l)) := by
 have hl : l.length = n := by have := hr.1; rw [vE_len] at this; omega
 have hbX := ball (Below.refl w.heap.size w) (.cells #[] 37)
 have O0 : (w.alloc (.cells #[] 37)).ownsRow w.heap.size 37 3 (.slice (some ⟨w.heap.size, 0, none⟩) 0 0) 0 [] := own_empty w 37 3 rfl
 have H0 := Lib.hid (And.intro hbX O0)
 have HR0 := Lib.hid hr
 have HL := Lib.hid hl
 clear hbX O0 hr hl
 go_enter Tryz.func9, Tryz.ntmps9
 go_wp2_with fail
 go_loopw [3, 9] (fun v3 v9 wr => ∃ (i : Nat), v9 = .int .i64 (i : Int) ∧ i ≤ n ∧ wr.ownsRow w.heap.size 37 3 v3 (sortN l i).length (vE (sortN l i)) ∧ Below w.heap.size w wr) (fun _ v9 _ => n - (intOf v9).toNat)
 case atStart => exact ⟨0, rfl, Nat.zero_le _, by unfold sortN; rw [List.take_zero]; exact H0.out.2, H0.out.1⟩
 case round =>
  obtain ⟨i, rfl, hin, hO, hb⟩ := hrel
  have i0' : (0 : Int) ≤ (i : Int) := by omega
  obtain ⟨Ao, co, rfl, hco⟩ := own_form hO
  have hlen := sortN_len l i
  by_cases hlt : i < n
  · have i1 : (i : Int) < (n : Int) := by omega
    obtain ⟨x, hx⟩ : ∃ x, l[i]? = some x := ⟨_, List.getElem?_eq_getElem (by rw [HL.out]; exact hlt)⟩
    obtain ⟨ad, rfl, hab, _, HXX⟩ := ent_of (w := w) HR0.out hx
    have hyy' : ∃ y', y' = x := ⟨_, rfl⟩
    obtain ⟨xx, hxx⟩ := hyy'
    have hS1 : Hid (i < 400 → sortN l (i + 1) = stepP (sortN l i) xx) := Lib.hid fun h => by rw [hxx]; exact sortN_in hx h
    have hS2 : Hid (400 ≤ i → sortN l (i + 1) = sortN l i) := Lib.hid fun h => sortN_out h
    obtain ⟨O, hOO⟩ : ∃ O, sortN l i = O := ⟨_, rfl⟩
    rw [hOO] at hO hlen hS1 hS2 hco ⊢
    obtain ⟨u0, u1, u2⟩ := HXX wr hb
    have hz := hb.size
    have HXX := Lib.hid hxx
    clear hOO hx hxx
    obtain ⟨xs, xp, xq⟩ := x
    have HO := Lib.hid (And.intro hO hb)
    clear hO hb
    have OX := HO.out.1.alloc (.cells #[.string xs, .int .u32 xp, .int .u16 xq] 37)
    have BX := ball HO.out.2 (.cells #[.string xs, .int .u32 xp, .int .u16 xq] 37)
    have XX := Blk.new wr 37 #[.string xs, .int .u32 xp, .int .u16 xq]
    have HB := Lib.hid (And.intro OX (And.intro BX XX))
    clear OX BX XX
    simp only at u0 u1 u2
    by_cases h4 : 400 ≤ i
    · have i4 : (400 : Int) ≤ (i : Int) := by omega
      have hs := Lib.hid (hS2.out h4)
      clear hS1 hS2 h4
      go_wp2_with fail
      go_roundw
      case rel => exact ⟨i + 1, by go_num, by omega, by rw [hs.out]; exact HB.out.1, HB.out.2.1⟩
      case measure => simp [intOf]; omega
    · have i4 : (i : Int) < 400 := by omega
      have hs := Lib.hid (hS1.out (by omega))
      by_cases hsz : xs.size ≤ 200
      · have zI : (xs.size : Int) ≤ 200 := by omega
        have HS := Lib.hid hsz
        clear hS1 hS2 h4 hsz
        have HAS := Lib.hid (hasE_any Ao O.length co O ⟨xs, xp, xq⟩ (wr.alloc (.cells #[.string xs, .int .u32 xp, .int .u16 xq] 37)) (Reads.of_own HB.out.1) (by omega))
        have WI := Lib.hid fun W hr => with_any Ao O.length co O ⟨xs, xp, xq⟩ W hr (by omega)
        go_wp2_with fail
        refine HAS.out.mono ?_
        rintro e w1 ⟨⟨b, rfl, hbx⟩, hb1⟩
        have HBX := Lib.hid hbx
        have O1 := own_below HB.out.1 hb1
        have X1 := HB.out.2.2.below hb1 HB.out.2.2.lt
        have B1 := HB.out.2.1.trans (hb1.mono (HB.out.2.1.size))
        have k0 : w1.cell? ⟨wr.heap.size, 0, none⟩ = some (.string xs) := X1.cell 0
        have k1 : w1.cell? ⟨wr.heap.size, 1, none⟩ = some (.int .u32 xp) := X1.cell 1
        have k2 : w1.cell? ⟨wr.heap.size, 2, none⟩ = some (.int .u16 xq) := X1.cell 2
        have H1 := Lib.hid (And.intro O1 B1)
        clear hbx hb1 O1 X1 B1
        cases b
        · have WJ := Lib.hid (WI.out w1 (Reads.of_own H1.out.1))
          go_wp2_with fail
          refine WJ.out.mono ?_
          rintro e w2 ⟨A2, c2, rfl, o2, hb2⟩
          have hst : sortN l (i + 1) = withP O ⟨xs, xp, xq⟩ := by
           rw [hs.out]
           unfold stepP
           rw [HXX.out, if_pos ⟨HS.out, fun h => by have := HBX.out.2 h; cases this⟩]
          have H2 := Lib.hid (And.intro (World.ownsRow.mono o2 H1.out.2.size) (And.intro (H1.out.2.trans (hb2.mono H1.out.2.size)) hst))
          clear o2 hb2 hst
          go_wp2_with fail
          go_roundw
          case rel => exact ⟨i + 1, by go_num, by omega, by rw [H2.out.2.2]; exact H2.out.1, H2.out.2.1⟩
          case measure => simp [intOf]; omega
        · have hst : sortN l (i + 1) = O := by
           rw [hs.out]
           unfold stepP
           rw [HXX.out, if_neg fun h => h.2 (HBX.out.1 rfl)]
          have H2 := Lib.hid hst
          clear hst
          go_wp2_with fail
          go_roundw
          case rel => exact ⟨i + 1, by go_num, by omega, by rw [H2.out]; exact H1.out.1, H1.out.2⟩
          case measure => simp [intOf]; omega
      · have zI : (200 : Int) < (xs.size : Int) := by omega
        have hst : sortN l (i + 1) = O := by
         rw [hs.out]
         unfold stepP
         rw [HXX.out, if_neg fun h => hsz h.1]
        have H2 := Lib.hid hst
        clear hS1 hS2 h4 hsz hst
        go_wp2_with fail
        go_roundw
        case rel => exact ⟨i + 1, by go_num, by omega, by rw [H2.out]; exact HB.out.1, HB.out.2.1⟩
        case measure => simp [intOf]; omega
  · have i1 : (n : Int) ≤ (i : Int) := by omega
    have hin' : i = l.length := by rw [HL.out]; omega
    have hE : sortN l i = sortP l := by rw [hin']; exact sortN_end l
    rw [hE] at hO ⊢
    have HO := Lib.hid (And.intro hO hb)
    clear hO hb hE hin' hlen hco
    go_wp2_with fail
    go_ret
    exact ⟨Ao, co, rfl, HO.out.1, HO.out.2⟩
end
end Go.Proofs.YtebobcbaloddaaaGreat
namespace Go.Proofs.YtebobcbaloddaaaGreat
section
set_option linter.unusedSimpArgs false
set_option linter.unusedVariables false
open Go.RowKit Go.Maps
def RS.le (a b : RS) : Prop := a.L.length ≤ b.L.length ∧ a.F.length ≤ b.F.length ∧ a.X.length ≤ b.X.length ∧ a.P.length ≤ b.P.length
theorem RS.le.refl (a : RS) : a.le a := ⟨Nat.le_refl _, Nat.le_refl _, Nat.le_refl _, Nat.le_refl _⟩
theorem RS.le.trans {a b c : RS} (h : a.le b) (k : b.le c) : a.le c := ⟨Nat.le_trans h.1 k.1, Nat.le_trans h.2.1 k.2.1, Nat.le_trans h.2.2.1 k.2.2.1, Nat.le_trans h.2.2.2 k.2.2.2⟩
theorem rbKids_le {G : Nat → RS → Option RS} {seps : List En} (HG : ∀ c st s, G c st = some s → st.le s) : ∀ (l : List Nat) (i : Nat) (st s : RS), rbKids G seps l i st = some s → st.le s
 | [], i, st, s, h => by injection h with h; rw [← h]; exact RS.le.refl _
 | c :: r, i, st, s, h => by
   unfold rbKids at h
   cases hG : G c st with
   | none => rw [hG] at h; cases h
   | some s1 =>
     rw [hG] at h
     simp only [Option.bind_some] at h
     split at h
     · cases h
     · exact (HG _ _ _ hG).trans (rbKids_le HG r (i + 1) s1 s h)
theorem rb_le {ps : List (List UInt8)} : ∀ (f page deep : Nat) (st s : RS), rbP ps f page deep st = some s → st.le s
 | 0, _, _, _, _, h => by cases h
 | f + 1, page, deep, st, s, h => by
   unfold rbP at h
   split at h
   · cases h
   · split at h
     · cases h
     · split at h
       · cases h
       · split at h
         · cases h
         · injection h with h; rw [← h]
           exact ⟨by simp, by simp, by simp, by simp⟩
       · exact RS.le.trans (b := { st with P := st.P ++ [page] }) ⟨Nat.le_refl _, Nat.le_refl _, Nat.le_refl _, by simp⟩ (rbKids_le (fun c st' s' h' => rb_le f c (deep + 1) st' s' h') _ _ _ _ h)
def RS.ok (s : RS) : Prop := s.L.length ≤ 1000000 ∧ s.F.length ≤ 1000000 ∧ s.X.length ≤ 1000000 ∧ s.P.length ≤ 1000000
theorem RS.ok.of_le {a b : RS} (h : a.le b) (k : b.ok) : a.ok := ⟨Nat.le_trans h.1 k.1, Nat.le_trans h.2.1 k.2.1, Nat.le_trans h.2.2.1 k.2.2.1, Nat.le_trans h.2.2.2 k.2.2.2⟩
theorem rpg_leaf {L : List UInt8} {N : Nat} {es : List En} (h : rdPg L = some (.leaf N es)) (W : World) : Calls Tryz.prog 99 #[.string (str L)] W (RetPg11 W 0 N [] es true) ∧ N < 4294967296 := by
 unfold rdPg at h
 split at h
 · rename_i hc
   split at h
   · rename_i hok
     injection h with h
     injection h with h1 h2
     have PG := page_leaf L hc.1 hc.2 W
     rw [hok, h1, h2] at PG
     refine ⟨PG, ?_⟩
     rw [← h1]
     unfold hdN
     exact beVal_lt_of (n := 4) (by rw [List.length_take]; omega)
   · cases h
 · split at h
   · split at h
     · injection h with h; cases h
     · cases h
   · cases h
theorem rpg_inner {L : List UInt8} {c0 : Nat} {prs : List (En × Nat)} (h : rdPg L = some (.inner c0 prs)) (W : World) : Calls Tryz.prog 99 #[.string (str L)] W (RetPg11 W 1 0 (c0 :: prs.map Prod.snd) (prs.map Prod.fst) true) ∧ prs.length ≠ 0 ∧ prs.length ≤ 65535 ∧ (∀ x ∈ c0 :: prs.map Prod.snd, x < 4294967296) := by
 unfold rdPg at h
 split at h
 · split at h
   · injection h with h; cases h
   · cases h
 · split at h
   · rename_i hn hc
     split at h
     · rename_i hok
       injection h with h
       injection h with h1 h2
       have PG := page_inner L hc.1 hc.2.1 hc.2.2.1 hc.2.2.2 W
       rw [hok, h1, h2] at PG
       refine ⟨PG, ?_, ?_, ?_⟩
       · rw [← h2, riMany_len]; exact hc.2.2.2
       · rw [← h2, riMany_len]
         have := beVal_lt_of (l := (L.drop 2).take 2) (n := 2) (by rw [List.length_take]; omega)
         unfold hdC; omega
       · intro x hx
         rcases List.mem_cons.1 hx with rfl | hx
         · rw [← h1]; exact beVal_lt_of (n := 4) (by rw [tk_len]; exact Nat.le_refl _)
         · obtain ⟨pr, hpr, rfl⟩ := List.mem_map.1 hx
           rw [← h2] at hpr
           exact (riMany_ok _ _ pr hpr).2
     · cases h
   · cases h
theorem RD.ev {w w' : World} {base n : Nat} {vd : Value} {ps : List (List UInt8)} {T : List Bool} {O : Nat → Prop} (h : RD w base n vd ps T) (he : EvT O w w') (hb : base ≤ w.heap.size) (hO : ∀ g, O g → base ≤ g) : RD w' base n vd ps T := by
 obtain ⟨A, c, A2, c2, rfl, h1, h2, h3⟩ := h
 have k : ∀ {xs : List Value} {A : Option Addr}, Reads w base 1 A n xs → Reads w' base 1 A n xs := fun hr => hr.same_ fun ad e hb' => he.block _ (by omega) fun ho => by have := hO _ ho; omega
 exact ⟨A, c, A2, c2, rfl, k h1, k h2, h3⟩
theorem TS.push1P {w w' : World} {base : Nat} {q : Q4} {st : RS} {o : Obj} {v' : Value} (h : TS w base q st) (k : Nat) (ho : w'.ownsRow base 30 1 v' (q.p.n + 1) (vN st.P ++ [.int .u32 (k : Int)])) (hg : (w.alloc o).grownBy w' q.p.v.ownBlock) (hv : v'.ownBlock = q.p.v.ownBlock ∨ v'.ownBlock = some (w.heap.size + 1)) :
 ∃ A c, v' = .slice A (q.p.n + 1) c ∧ TS w' base { q with p := ⟨A, q.p.n + 1, c⟩ } { st with P := st.P ++ [k] } ∧ EvT q.own w w' ∧ NxT w q { q with p := ⟨A, q.p.n + 1, c⟩ } := by
 obtain ⟨A, c, rfl, hc⟩ := own_form ho
 rw [← vN_snoc] at ho
 exact ⟨A, c, rfl, h.pushP (ball (Below.refl _ _) _) hg ho (hv.imp id fun e => ⟨_, e, by omega⟩)⟩
theorem TS.push1F {w w' : World} {base : Nat} {q : Q4} {st : RS} {o : Obj} {v' : Value} (h : TS w base q st) (k : Nat) (ho : w'.ownsRow base 30 1 v' (q.f.n + 1) (vN st.F ++ [.int .u32 (k : Int)])) (hg : (w.alloc o).grownBy w' q.f.v.ownBlock) (hv : v'.ownBlock = q.f.v.ownBlock ∨ v'.ownBlock = some (w.heap.size + 1)) :
 ∃ A c, v' = .slice A (q.f.n + 1) c ∧ TS w' base { q with f := ⟨A, q.f.n + 1, c⟩ } { st with F := st.F ++ [k] } ∧ EvT q.own w w' ∧ NxT w q { q with f := ⟨A, q.f.n + 1, c⟩ } := by
 obtain ⟨A, c, rfl, hc⟩ := own_form ho
 rw [← vN_snoc] at ho
 exact ⟨A, c, rfl, h.pushF (ball (Below.refl _ _) _) hg ho (hv.imp id fun e => ⟨_, e, by omega⟩)⟩
theorem TS.push1X {w w' : World} {base : Nat} {q : Q4} {st : RS} {o : Obj} {v' : Value} (h : TS w base q st) (k : Nat) (ho : w'.ownsRow base 30 1 v' (q.x.n + 1) (vN st.X ++ [.int .u32 (k : Int)])) (hg : (w.alloc o).grownBy w' q.x.v.ownBlock) (hv : v'.ownBlock = q.x.v.ownBlock ∨ v'.ownBlock = some (w.heap.size + 1)) :
 ∃ A c, v' = .slice A (q.x.n + 1) c ∧ TS w' base { q with x := ⟨A, q.x.n + 1, c⟩ } { st with X := st.X ++ [k] } ∧ EvT q.own w w' ∧ NxT w q { q with x := ⟨A, q.x.n + 1, c⟩ } := by
 obtain ⟨A, c, rfl, hc⟩ := own_form ho
 rw [← vN_snoc] at ho
 exact ⟨A, c, rfl, h.pushX (ball (Below.refl _ _) _) hg ho (hv.imp id fun e => ⟨_, e, by omega⟩)⟩
theorem TS.moreL {w w' : World} {base : Nat} {q : Q4} {st : RS} {v' : Value} (h : TS w base q st) (es : List En) {m : Nat} (hm : m = es.length) (ho : w'.ownsRow base 37 3 v' (q.l.n + m) (vE st.L ++ vE es)) (hg : w.grownBy w' q.l.v.ownBlock) (hv : v'.ownBlock = q.l.v.ownBlock ∨ v'.ownBlock = some w.heap.size) :
 ∃ A c, v' = .slice A (q.l.n + m) c ∧ TS w' base { q with l := ⟨A, q.l.n + m, c⟩ } { st with L := st.L ++ es } ∧ EvT q.own w w' ∧ NxT w q { q with l := ⟨A, q.l.n + m, c⟩ } := by
 obtain ⟨A, c, rfl, hc⟩ := own_form ho
 have e : vE st.L ++ vE es = vE (st.L ++ es) := by simp [vE, List.flatMap_append]
 rw [e] at ho
 exact ⟨A, c, rfl, h.pushL (Below.refl _ _) hg ho (hv.imp id fun e => ⟨_, e, by omega⟩)⟩
structure BX (w W : World) (base : Nat) (dk : Array Value) (qi q : Q4) (st : RS) : Prop where
 t : Blk W w.heap.size 95 (q.arr st.hi false)
 r : Blk W (w.heap.size + 1 + 1) 95 #[.slice none 0 0, .slice none 0 0, .slice none 0 0, .slice none 0 0, .int .i64 0, .bool false]
 k : Blk W (w.heap.size + 1) 90 dk
 ts : TS W base q st
 ev : EvT qi.own w W
 nx : NxT w qi q
section
variable {w W W' : World} {base : Nat} {dk : Array Value} {qi q q' : Q4} {st st' : RS} {o : Obj} {v' : Value}
theorem BX.after (h : BX w W base dk qi q st) (k1 : TS W' base q' st') (k2 : EvT q.own W W') (k3 : NxT W q q') (i : Nat) (u : Value) (he : (q.arr st.hi false).setIfInBounds i u = q'.arr st'.hi false) :
 BX w (W'.setCell ⟨w.heap.size, i, none⟩ u) base dk qi q' st' ∧ EvT (fun g => q.own g ∨ g = w.heap.size) W (W'.setCell ⟨w.heap.size, i, none⟩ u) := by
 have t1 := k2.blk h.t (h.ts.ne_ h.t (by decide) (by decide))
 have r1 := k2.blk h.r (h.ts.ne_ h.r (by decide) (by decide))
 have d1 := k2.blk h.k (h.ts.ne_ h.k (by decide) (by decide))
 have hz := h.ev.size
 refine ⟨⟨by have := t1.set_ i u; rw [he] at this; exact this, r1.far (by simp; omega) u, d1.far (by simp) u, k1.far t1 (by decide) (by decide) i u, ?_, fun g e => (k3 g e).elim (fun e => h.nx g e) fun e => .inr (by omega)⟩, ?_⟩
 · exact (h.ev.trans k2 fun g e => h.nx g e).trans (EvT.of_set (w := W') (O := fun g => g = w.heap.size) (p := ⟨w.heap.size, i, none⟩) (.inr rfl) u) fun g e => .inr (by omega)
 · exact (k2.mono (O' := fun g => q.own g ∨ g = w.heap.size) fun g e => .inl (.inl e)).trans (EvT.of_set (w := W') (O := fun g => g = w.heap.size) (p := ⟨w.heap.size, i, none⟩) (.inr rfl) u) fun g e => .inl (.inr e)
theorem BX.below (h : BX w W base dk qi q st) (hb : Below W.heap.size W W') : BX w W' base dk qi q st :=
 ⟨h.t.below hb h.t.lt, h.r.below hb h.r.lt, h.k.below hb h.k.lt, h.ts.below hb, (h.ev.trans (EvT.of_below (O := qi.own) hb) fun g e => .inl e), h.nx⟩
theorem BX.push1P (h : BX w W base dk qi q st) (k : Nat) (ho : W'.ownsRow base 30 1 v' (q.p.n + 1) (vN st.P ++ [.int .u32 (k : Int)])) (hg : (W.alloc o).grownBy W' q.p.v.ownBlock) (hv : v'.ownBlock = q.p.v.ownBlock ∨ v'.ownBlock = some (W.heap.size + 1)) :
 ∃ A c, v' = .slice A (q.p.n + 1) c ∧ Blk W' w.heap.size 95 (q.arr st.hi false) ∧ BX w (W'.setCell ⟨w.heap.size, 3, none⟩ (.slice A (q.p.n + 1) c)) base dk qi { q with p := ⟨A, q.p.n + 1, c⟩ } { st with P := st.P ++ [k] } ∧ EvT (fun g => q.own g ∨ g = w.heap.size) W (W'.setCell ⟨w.heap.size, 3, none⟩ (.slice A (q.p.n + 1) c)) ∧ NxT W q { q with p := ⟨A, q.p.n + 1, c⟩ } := by
 obtain ⟨A, c, rfl, k1, k2, k3⟩ := h.ts.push1P k ho hg hv
 exact ⟨A, c, rfl, k2.blk h.t (h.ts.ne_ h.t (by decide) (by decide)), (h.after k1 k2 k3 3 _ (by simp)).1, (h.after k1 k2 k3 3 _ (by simp)).2, k3⟩
theorem BX.push1F (h : BX w W base dk qi q st) (k : Nat) (ho : W'.ownsRow base 30 1 v' (q.f.n + 1) (vN st.F ++ [.int .u32 (k : Int)])) (hg : (W.alloc o).grownBy W' q.f.v.ownBlock) (hv : v'.ownBlock = q.f.v.ownBlock ∨ v'.ownBlock = some (W.heap.size + 1)) :
 ∃ A c, v' = .slice A (q.f.n + 1) c ∧ Blk W' w.heap.size 95 (q.arr st.hi false) ∧ BX w (W'.setCell ⟨w.heap.size, 1, none⟩ (.slice A (q.f.n + 1) c)) base dk qi { q with f := ⟨A, q.f.n + 1, c⟩ } { st with F := st.F ++ [k] } ∧ EvT (fun g => q.own g ∨ g = w.heap.size) W (W'.setCell ⟨w.heap.size, 1, none⟩ (.slice A (q.f.n + 1) c)) ∧ NxT W q { q with f := ⟨A, q.f.n + 1, c⟩ } := by
 obtain ⟨A, c, rfl, k1, k2, k3⟩ := h.ts.push1F k ho hg hv
 exact ⟨A, c, rfl, k2.blk h.t (h.ts.ne_ h.t (by decide) (by decide)), (h.after k1 k2 k3 1 _ (by simp)).1, (h.after k1 k2 k3 1 _ (by simp)).2, k3⟩
theorem BX.push1X (h : BX w W base dk qi q st) (k : Nat) (ho : W'.ownsRow base 30 1 v' (q.x.n + 1) (vN st.X ++ [.int .u32 (k : Int)])) (hg : (W.alloc o).grownBy W' q.x.v.ownBlock) (hv : v'.ownBlock = q.x.v.ownBlock ∨ v'.ownBlock = some (W.heap.size + 1)) :
 ∃ A c, v' = .slice A (q.x.n + 1) c ∧ Blk W' w.heap.size 95 (q.arr st.hi false) ∧ BX w (W'.setCell ⟨w.heap.size, 2, none⟩ (.slice A (q.x.n + 1) c)) base dk qi { q with x := ⟨A, q.x.n + 1, c⟩ } { st with X := st.X ++ [k] } ∧ EvT (fun g => q.own g ∨ g = w.heap.size) W (W'.setCell ⟨w.heap.size, 2, none⟩ (.slice A (q.x.n + 1) c)) ∧ NxT W q { q with x := ⟨A, q.x.n + 1, c⟩ } := by
 obtain ⟨A, c, rfl, k1, k2, k3⟩ := h.ts.push1X k ho hg hv
 exact ⟨A, c, rfl, k2.blk h.t (h.ts.ne_ h.t (by decide) (by decide)), (h.after k1 k2 k3 2 _ (by simp)).1, (h.after k1 k2 k3 2 _ (by simp)).2, k3⟩
theorem BX.moreL (h : BX w W base dk qi q st) (es : List En) {m : Nat} (hm : m = es.length) (ho : W'.ownsRow base 37 3 v' (q.l.n + m) (vE st.L ++ vE es)) (hg : W.grownBy W' q.l.v.ownBlock) (hv : v'.ownBlock = q.l.v.ownBlock ∨ v'.ownBlock = some W.heap.size) :
 ∃ A c, v' = .slice A (q.l.n + m) c ∧ Blk W' w.heap.size 95 (q.arr st.hi false) ∧ BX w (W'.setCell ⟨w.heap.size, 0, none⟩ (.slice A (q.l.n + m) c)) base dk qi { q with l := ⟨A, q.l.n + m, c⟩ } { st with L := st.L ++ es } ∧ EvT (fun g => q.own g ∨ g = w.heap.size) W (W'.setCell ⟨w.heap.size, 0, none⟩ (.slice A (q.l.n + m) c)) ∧ NxT W q { q with l := ⟨A, q.l.n + m, c⟩ } := by
 obtain ⟨A, c, rfl, k1, k2, k3⟩ := h.ts.moreL es hm ho hg hv
 exact ⟨A, c, rfl, k2.blk h.t (h.ts.ne_ h.t (by decide) (by decide)), (h.after k1 k2 k3 0 _ (by simp)).1, (h.after k1 k2 k3 0 _ (by simp)).2, k3⟩
theorem BX.high (h : BX w W base dk qi q st) (k : Nat) :
 BX w (W.setCell ⟨w.heap.size, 4, none⟩ (.int .i64 (k : Int))) base dk qi q { st with hi := k } ∧ EvT (fun g => q.own g ∨ g = w.heap.size) W (W.setCell ⟨w.heap.size, 4, none⟩ (.int .i64 (k : Int))) :=
 h.after (h.ts.hi_ k) (EvT.refl _ _) (NxT.refl _ _) 4 _ (by simp)
theorem BX.child (h : BX w W base dk qi q st) (ts : TS W' base q' st') (ev : EvT q.own W W') (nx : NxT W q q') (u0 u1 u2 u3 u4 u5 : Value) (hu : #[u0, u1, u2, u3, u4, u5] = q'.arr st'.hi false) :
 BX w ((((((W'.setCell ⟨w.heap.size, 0, none⟩ u0).setCell ⟨w.heap.size, 1, none⟩ u1).setCell ⟨w.heap.size, 2, none⟩ u2).setCell ⟨w.heap.size, 3, none⟩ u3).setCell ⟨w.heap.size, 4, none⟩ u4).setCell ⟨w.heap.size, 5, none⟩ u5) base dk qi q' st' ∧
 EvT (fun g => q.own g ∨ g = w.heap.size) W ((((((W'.setCell ⟨w.heap.size, 0, none⟩ u0).setCell ⟨w.heap.size, 1, none⟩ u1).setCell ⟨w.heap.size, 2, none⟩ u2).setCell ⟨w.heap.size, 3, none⟩ u3).setCell ⟨w.heap.size, 4, none⟩ u4).setCell ⟨w.heap.size, 5, none⟩ u5) := by
 have t1 := ev.blk h.t (h.ts.ne_ h.t (by decide) (by decide))
 have r1 := ev.blk h.r (h.ts.ne_ h.r (by decide) (by decide))
 have d1 := ev.blk h.k (h.ts.ne_ h.k (by decide) (by decide))
 have hz := h.ev.size
 have t2 := set6 (a' := u0) (b' := u1) (c' := u2) (d' := u3) (e' := u4) (f' := u5) t1
 rw [hu] at t2
 have far : ∀ {V : World} {g : Nat} {t : TypeId} {cs : Array Value} (i : Nat) (u : Value), g ≠ w.heap.size → Blk V g t cs → Blk (V.setCell ⟨w.heap.size, i, none⟩ u) g t cs := fun i u hne hb => hb.far (by simpa using hne) u
 have s : ∀ {V : World} {cs : Array Value} (i : Nat) (u : Value), TS V base q' st' → Blk V w.heap.size 95 cs → TS (V.setCell ⟨w.heap.size, i, none⟩ u) base q' st' := fun i u hts hb => hts.far hb (by decide) (by decide) i u
 have ev2 : ∀ {O : Nat → Prop} {V V0 : World} (i : Nat) (u : Value), (∀ g, g = w.heap.size → O g ∨ V0.heap.size ≤ g) → EvT O V0 V → EvT O V0 (V.setCell ⟨w.heap.size, i, none⟩ u) := fun {O V V0} i u ho he => he.trans (EvT.of_set (w := V) (O := fun g => g = w.heap.size) (p := ⟨w.heap.size, i, none⟩) (.inr rfl) u) ho
 have hA : ∀ g, g = w.heap.size → qi.own g ∨ w.heap.size ≤ g := fun g e => .inr (by omega)
 have hC : ∀ g, g = w.heap.size → (fun g => q.own g ∨ g = w.heap.size) g ∨ W.heap.size ≤ g := fun g e => .inl (.inr e)
 have ea := h.ev.trans ev fun g e => h.nx g e
 have eb := ev.mono (O' := fun g => q.own g ∨ g = w.heap.size) fun g e => .inl (.inl e)
 have n1 : w.heap.size + 1 + 1 ≠ w.heap.size := by omega
 have n2 : w.heap.size + 1 ≠ w.heap.size := by omega
 refine ⟨⟨t2, far 5 u5 n1 (far 4 u4 n1 (far 3 u3 n1 (far 2 u2 n1 (far 1 u1 n1 (far 0 u0 n1 r1))))), far 5 u5 n2 (far 4 u4 n2 (far 3 u3 n2 (far 2 u2 n2 (far 1 u1 n2 (far 0 u0 n2 d1))))), ?_, ?_, fun g e => (nx g e).elim (fun e => h.nx g e) fun e => .inr (by omega)⟩, ?_⟩
 · exact s 5 u5 (s 4 u4 (s 3 u3 (s 2 u2 (s 1 u1 (s 0 u0 ts t1) (t1.set_ 0 u0)) ((t1.set_ 0 u0).set_ 1 u1)) (((t1.set_ 0 u0).set_ 1 u1).set_ 2 u2)) ((((t1.set_ 0 u0).set_ 1 u1).set_ 2 u2).set_ 3 u3)) (((((t1.set_ 0 u0).set_ 1 u1).set_ 2 u2).set_ 3 u3).set_ 4 u4)
 · exact ev2 5 u5 hA (ev2 4 u4 hA (ev2 3 u3 hA (ev2 2 u2 hA (ev2 1 u1 hA (ev2 0 u0 hA ea)))))
 · exact ev2 5 u5 hC (ev2 4 u4 hC (ev2 3 u3 hC (ev2 2 u2 hC (ev2 1 u1 hC (ev2 0 u0 hC eb)))))
structure FR (w W : World) (B size : Nat) (q : Q4) (A : Option Addr) (n : Nat) (xs : List Value) : Prop where
 r : Reads W B size A n xs
 hB : B ≤ W.heap.size
 f : ∀ ad, A = some ad → w.heap.size < ad.block ∧ (ad.block < B → ¬ q.own ad.block)
theorem FR.step {B size n : Nat} {A : Option Addr} {xs : List Value} (h : FR w W B size q A n xs) (he : EvT (fun g => q.own g ∨ g = w.heap.size) W W') (hn : NxT W q q') : FR w W' B size q' A n xs :=
 ⟨h.r.same_ fun ad e hb => he.block _ (by have := h.hB; omega) fun ho => ho.elim ((h.f ad e).2 hb) fun e2 => by have := (h.f ad e).1; omega, Nat.le_trans h.hB he.size, fun ad e => ⟨(h.f ad e).1, fun hb ho => (hn _ ho).elim ((h.f ad e).2 hb) fun k => by have := h.hB; omega⟩⟩
theorem FR.below {B size n : Nat} {A : Option Addr} {xs : List Value} (h : FR w W B size q A n xs) (hb : Below W.heap.size W W') : FR w W' B size q A n xs :=
 ⟨h.r.below (hb.mono h.hB), Nat.le_trans h.hB hb.size, h.f⟩
theorem FR.rd {B size n : Nat} {A : Option Addr} {xs : List Value} (h : FR w W B size q A n xs) : Reads W W.heap.size size A n xs := h.r.more h.hB
theorem BX.fin (h : BX w W base dk qi q st) (u0 u1 u2 u3 u4 u5 : Value) (W2 : World) (hW : W2 = ((((((W.setCell ⟨w.heap.size + 1 + 1, 0, none⟩ u0).setCell ⟨w.heap.size + 1 + 1, 1, none⟩ u1).setCell ⟨w.heap.size + 1 + 1, 2, none⟩ u2).setCell ⟨w.heap.size + 1 + 1, 3, none⟩ u3).setCell ⟨w.heap.size + 1 + 1, 4, none⟩ u4).setCell ⟨w.heap.size + 1 + 1, 5, none⟩ u5)) :
 Blk W2 (w.heap.size + 1 + 1) 95 #[u0, u1, u2, u3, u4, u5] ∧ RetT base qi w st (.returned (q.v st.hi false)) W2 := by
 subst hW
 refine ⟨set6 h.r, q, rfl, ?_, ?_, h.nx⟩
 · have s : ∀ {V : World} {cs : Array Value} (i : Nat) (u : Value), TS V base q st → Blk V (w.heap.size + 1 + 1) 95 cs → TS (V.setCell ⟨w.heap.size + 1 + 1, i, none⟩ u) base q st := fun i u hts hb => hts.far hb (by decide) (by decide) i u
   exact s 5 u5 (s 4 u4 (s 3 u3 (s 2 u2 (s 1 u1 (s 0 u0 h.ts h.r) (h.r.set_ 0 u0)) ((h.r.set_ 0 u0).set_ 1 u1)) (((h.r.set_ 0 u0).set_ 1 u1).set_ 2 u2)) ((((h.r.set_ 0 u0).set_ 1 u1).set_ 2 u2).set_ 3 u3)) (((((h.r.set_ 0 u0).set_ 1 u1).set_ 2 u2).set_ 3 u3).set_ 4 u4)
 · have s : ∀ {V : World} (i : Nat) (u : Value), EvT qi.own w V → EvT qi.own w (V.setCell ⟨w.heap.size + 1 + 1, i, none⟩ u) := fun {V} i u he => he.trans (EvT.of_set (w := V) (O := fun g => g = w.heap.size + 1 + 1) (p := ⟨w.heap.size + 1 + 1, i, none⟩) (.inr rfl) u) fun g e => .inr (by omega)
   exact s 5 u5 (s 4 u4 (s 3 u3 (s 2 u2 (s 1 u1 (s 0 u0 h.ev)))))
end
theorem step_go11 {P : Program} {w : World} {ops : Array Oper} {o : Oper} {a : Act} {K : Act → World → Prop} {Q : Exit → Act → World → Prop} {E : Prop} (hgd : o.guard = none) (h : Oper.wp P o a w K Q) : if Region.wanted o (yielded ops a.tmps) = true then Oper.wp P o a w K Q else E := by
 have hw : Region.wanted o (yielded ops a.tmps) = true := by simp [Region.wanted, hgd]
 rw [if_pos hw]
 exact h
theorem off_at {l : List En} {n k : Nat} {x : En} {p : En → Bool} (h : ¬ (l.drop n).any p = true) (hk : n ≤ k) (hx : l[k]? = some x) : p x = false := by
 rw [Bool.eq_false_iff]
 intro hp
 refine h (List.any_eq_true.2 ⟨x, List.mem_of_getElem? (i := k - n) ?_, hp⟩)
 rw [List.getElem?_drop, show n + (k - n) = k from by omega]
 exact hx
theorem off_lo {seps : List En} {j i : Nat} {x y : En} (h : offE seps j x = false) (hi : j = i + 1) (hy : seps[i]? = some y) : lessE x y = false := by
 unfold offE at h
 rw [Bool.or_eq_false_iff] at h
 have h1 := h.1
 subst hi
 rw [show i + 1 - 1 = i from rfl, hy] at h1
 simpa using h1
theorem off_hi {seps : List En} {j : Nat} {x z : En} (h : offE seps j x = false) (hz : seps[j]? = some z) : lessE x z = true := by
 unfold offE at h
 rw [Bool.or_eq_false_iff, hz] at h
 simpa using h.2
theorem tb_end {W : World} {R : Nat} {tm : Array Value} {Q : Ending → World → Prop} {q : Q4} {hi : Nat} {b : Bool} (hR : Blk W R 95 (q.arr hi b))
 (h8 : tm[8]? = some (.pointer (some ⟨R, 0, none⟩))) (h : Q (.returned (q.v hi b)) W) :
 bodyPost Tryz.prog Tryz.f70 Q Exit.ret { tmps := tm, defers := [] } W := by
 have q0 : W.cell? ⟨R, 0, none⟩ = _ := hR.cell 0
 have q1 : W.cell? ⟨R, 1, none⟩ = _ := hR.cell 1
 have q2 : W.cell? ⟨R, 2, none⟩ = _ := hR.cell 2
 have q3 : W.cell? ⟨R, 3, none⟩ = _ := hR.cell 3
 have q4 : W.cell? ⟨R, 4, none⟩ = _ := hR.cell 4
 have q5 : W.cell? ⟨R, 5, none⟩ = _ := hR.cell 5
 exact bodyPost_ret (v := q.v hi b) (by simp [results, Tryz.results70, go_sem, h8, q0, q1, q2, q3, q4, q5]) rfl h
end
end Go.Proofs.YtebobcbaloddaaaGreat
namespace Go.Proofs.YtebobcbaloddaaaGreat
section
set_option linter.unusedSimpArgs false
set_option linter.unusedVariables false
open Go.RowKit Go.Maps
section
variable {w : World} {base n : Nat} {vd : Value} {ps : List (List UInt8)} {T : List Bool} {q : Q4} {st s : RS}
set_option maxRecDepth 100000 in
set_option maxHeartbeats 8000000 in
theorem rbelow_leaf (f deep : Nat) (hn : n ≤ 5000) (hB : base ≤ w.heap.size) {L : List UInt8} {N : Nat} {es : List En}
 (h : TS w base q st) (hd : RD w base n vd ps T) (page : Nat) (hp : page < 4294967296) (hpg : ps[page]? = some L) (hpc : rdPg L = some (.leaf N es)) (hs : rbP ps (f + 1) page deep st = some s) (hok : s.ok) :
 Calls Tryz.prog 70 #[q.v st.hi false, vd, .int .u32 page, .int .i64 deep] w (RetT base q w s) := by
 have hle := rb_le _ _ _ _ _ hs
 have hok0 := RS.ok.of_le hle hok
 obtain ⟨hT, hpl⟩ := hd.hT
 have hlens := h.lens
 rw [rbP] at hs
 split at hs
 · cases hs
 rename_i hg
 have hdeep : deep ≤ 12 := by omega
 have hmem : decide (page ∈ st.P) = false := by rw [decide_eq_false_iff_not]; exact fun e => hg (.inr e)
 clear hg
 rw [hpg] at hs
 simp only at hs
 have hpn : page < n := by rw [← hpl]; exact lt_of_at hpg
 rw [hpc] at hs
 simp only at hs
 obtain ⟨A, c, A', c', rfl, hr, hr', hc, hc'⟩ := hd
 have hd : RD w base n (.agg #[.slice A n c, .slice A' n c']) ps T := ⟨A, c, A', c', rfl, hr, hr', hc, hc'⟩
 clear hr'
 obtain ⟨⟨A0, n0, c0⟩, ⟨A1, n1, c1⟩, ⟨A2, n2, c2⟩, ⟨A3, n3, c3⟩⟩ := q
 simp only at hlens
 obtain ⟨ln0, ln1, ln2, ln3⟩ := hlens
 obtain ⟨hi, hhi⟩ : ∃ hi, st.hi = hi := ⟨_, rfl⟩
 rw [hhi]
 have hpI : (page : Int) < (n : Int) := by omega
 have hpI0 : (0 : Int) ≤ (page : Int) := by omega
 have hdI : (deep : Int) ≤ 12 := by omega
 have hdI0 : (0 : Int) ≤ (deep : Int) := by omega
 have hbT := ball (ball (ball (Below.refl w.heap.size w) (.cells #[.slice A0 n0 c0, .slice A1 n1 c1, .slice A2 n2 c2, .slice A3 n3 c3, .int .i64 (hi : Int), .bool false] 95)) (.cells #[.slice A n c, .slice A' n c'] 90)) (.cells #[.slice none 0 0, .slice none 0 0, .slice none 0 0, .slice none 0 0, .int .i64 0, .bool false] 95)
 have X0 := ((Blk.new w 95 #[.slice A0 n0 c0, .slice A1 n1 c1, .slice A2 n2 c2, .slice A3 n3 c3, .int .i64 (hi : Int), .bool false]).alloc (.cells #[.slice A n c, .slice A' n c'] 90)).alloc (.cells #[.slice none 0 0, .slice none 0 0, .slice none 0 0, .slice none 0 0, .int .i64 0, .bool false] 95)
 have X1 := (Blk.newAt (w := w.alloc (.cells #[.slice A0 n0 c0, .slice A1 n1 c1, .slice A2 n2 c2, .slice A3 n3 c3, .int .i64 (hi : Int), .bool false] 95)) (t := 90) (cs := #[.slice A n c, .slice A' n c']) (g := w.heap.size + 1) (by simp)).alloc (.cells #[.slice none 0 0, .slice none 0 0, .slice none 0 0, .slice none 0 0, .int .i64 0, .bool false] 95)
 have X2 := Blk.newAt (w := (w.alloc (.cells #[.slice A0 n0 c0, .slice A1 n1 c1, .slice A2 n2 c2, .slice A3 n3 c3, .int .i64 (hi : Int), .bool false] 95)).alloc (.cells #[.slice A n c, .slice A' n c'] 90)) (t := 95) (cs := #[.slice none 0 0, .slice none 0 0, .slice none 0 0, .slice none 0 0, .int .i64 0, .bool false]) (g := w.heap.size + 1 + 1) (by simp)
 have hT1 := h.below hbT
 have hrT := (hr.below (hbT.mono hB))
 have hdT := hd.below (hbT.mono hB) (Nat.le_refl _)
 have hzT : (((w.alloc (.cells #[.slice A0 n0 c0, .slice A1 n1 c1, .slice A2 n2 c2, .slice A3 n3 c3, .int .i64 (hi : Int), .bool false] 95)).alloc (.cells #[.slice A n c, .slice A' n c'] 90)).alloc (.cells #[.slice none 0 0, .slice none 0 0, .slice none 0 0, .slice none 0 0, .int .i64 0, .bool false] 95)).heap.size = w.heap.size + 1 + 1 + 1 := by simp
 obtain ⟨i0, hi0, hz0, hs0, hy0⟩ := int_info8 Tryz.infoE
 obtain ⟨i1, hi1, hz1, hs1, hy1⟩ := int_info8 Tryz.infoN
 have HI := Lib.hid (And.intro hn (And.intro hle (And.intro hok0 (And.intro hok (And.intro hs hhi)))))
 have HL := Lib.hid (And.intro ln0 (And.intro ln1 (And.intro ln2 ln3)))
 have HPc := Lib.hid hpc
 have Hpg := Lib.hid hpg
 clear hle hok0 hok hs hhi ln0 ln1 ln2 ln3 h hr hd hpc hT hpl hn
 go_enter Tryz.func70, Tryz.ntmps70
 go_upto_region 1 with fail
 obtain ⟨WX, hWX⟩ : ∃ WX, (((w.alloc (.cells #[.slice A0 n0 c0, .slice A1 n1 c1, .slice A2 n2 c2, .slice A3 n3 c3, .int .i64 (hi : Int), .bool false] 95)).alloc (.cells #[.slice A n c, .slice A' n c'] 90)).alloc (.cells #[.slice none 0 0, .slice none 0 0, .slice none 0 0, .slice none 0 0, .int .i64 0, .bool false] 95)) = WX := ⟨_, rfl⟩
 rw [hWX] at hbT X0 X1 X2 hT1 hrT hdT hzT ⊢
 clear hWX
 have HAS := Lib.hid (rhas_any11 A3 n3 c3 st.P page WX (Reads.of_own hT1.p) (by have := HL.out.2.2.2; have := HI.out.2.2.1.2.2.2; omega))
 rw [hmem] at HAS
 have a0 : WX.cell? ⟨w.heap.size, 0, none⟩ = some (.slice A0 n0 c0) := X0.cell 0
 have a3 : WX.cell? ⟨w.heap.size, 3, none⟩ = some (.slice A3 n3 c3) := X0.cell 3
 have a5 : WX.cell? ⟨w.heap.size, 5, none⟩ = some (.bool false) := X0.cell 5
 have b0 : WX.cell? ⟨w.heap.size + 1, 0, none⟩ = some (.slice A n c) := X1.cell 0
 have HX : BX w WX base #[.slice A n c, .slice A' n c'] ⟨⟨A0, n0, c0⟩, ⟨A1, n1, c1⟩, ⟨A2, n2, c2⟩, ⟨A3, n3, c3⟩⟩ ⟨⟨A0, n0, c0⟩, ⟨A1, n1, c1⟩, ⟨A2, n2, c2⟩, ⟨A3, n3, c3⟩⟩ st := ⟨by rw [HI.out.2.2.2.2.2]; exact X0, X2, X1, hT1, EvT.of_below hbT, NxT.refl _ _⟩
 have wP : IntKind.i64.wrap (page : Int) = (page : Int) := IntWalk.i64_in _ (by omega)
 have H0 := Lib.hid (And.intro HX (And.intro hrT hdT))
 clear HX hbT X0 X1 X2 hT1 hrT hdT hmem
 go_wp2_with fail
 refine HAS.out.mono ?_
 rintro e w1 ⟨rfl, hb1⟩
 have hrw1 := H0.out.2.1.below (hb1.mono (by omega))
 obtain ⟨ad, L', rfl, hadb, hL', p0⟩ := hrw1.text hpn
 have hLL : L' = L := by have := Hpg.out; rw [hL'] at this; injection this
 subst hLL
 have B1 := H0.out.1.below hb1
 have b1 : w1.cell? ⟨w.heap.size + 1, 0, none⟩ = some (.slice (some ad) n c) := B1.k.cell 0
 have hzw1 := hb1.size
 clear hrw1 hL' a0 a3 a5 b0
 obtain ⟨PG, hN⟩ := rpg_leaf HPc.out w1
 have PG := Lib.hid PG
 have B1 := Lib.hid B1
 go_wp2_with fail
 refine PG.out.mono ?_
 rintro e w2 ⟨A5, c5, A6, c6, rfl, r5, r6, hb2, -, f6⟩
 have B2 := B1.out.below hb2
 have d3 : w2.cell? ⟨w.heap.size, 3, none⟩ = some (.slice A3 n3 c3) := B2.t.cell 3
 have hzw2 := hb2.size
 have hzb : base ≤ w2.heap.size := by omega
 have l3 : n3 + 1 ≤ 1000000000 := by have := HL.out.2.2.2; have := HI.out.2.2.1.2.2.2; omega
 have l1 : n1 + 1 ≤ 1000000000 := by have := HL.out.2.1; have := HI.out.2.2.1.2.1; omega
 have l2 : n2 + 1 ≤ 1000000000 := by have := HL.out.2.2.1; have := HI.out.2.2.1.2.2.1; omega
 have R2 : FR w w2 w2.heap.size 3 ⟨⟨A0, n0, c0⟩, ⟨A1, n1, c1⟩, ⟨A2, n2, c2⟩, ⟨A3, n3, c3⟩⟩ A6 es.length (vE es) := ⟨r6, Nat.le_refl _, fun ad e => ⟨by have := f6 ad e; omega, fun _ ho => by have := f6 ad e; have := (B1.out.ts.lt ho).2; omega⟩⟩
 have H2 := Lib.hid (And.intro B2 R2)
 have hcase : n1 = 0 ∨ (n1 ≠ 0 ∧ hi = deep) := by
  rcases Nat.eq_zero_or_pos n1 with h0 | h0
  · exact .inl h0
  · have h1 := HI.out.2.2.2.2.1
    split at h1
    · cases h1
    · rename_i hne
      refine .inr ⟨by omega, ?_⟩
      rw [← HI.out.2.2.2.2.2]
      by_cases he : st.hi = deep
      · exact he
      · exact absurd ⟨fun e => by have := HL.out.2.1; rw [e] at this; simp at this; omega, he⟩ hne
 have hs : s = ⟨st.L ++ es, st.F ++ [page], st.X ++ [N], st.P ++ [page], deep⟩ := by
  have h1 := HI.out.2.2.2.2.1
  split at h1
  · cases h1
  · injection h1 with h1; exact h1.symm
 have HC := Lib.hid hcase
 have HS := Lib.hid hs
 have lL : n0 + es.length ≤ 1000000 := by
  have h1 := HI.out.2.2.2.1.1
  have h2 := HL.out.1
  rw [hs] at h1
  simp only [List.length_append] at h1
  omega
 clear B2 R2 B1 r6 r5 f6 p0 b1 hcase hs
 go_upto_region 7 with (at_builtin; refine wpList_pushR (news := [.int .u32 (page : Int)]) rfl (.tmp 54) (.tmp 56) 73 rfl base 30 i1 _ 1 4 Tryz.underlying73 hi1 hz1 hs1 hy1 rfl (by decide) _ n3 (vN st.P) rfl H2.out.1.ts.p rfl _ rfl rfl rfl (by intro u hu; rw [List.mem_singleton] at hu; subst hu; rfl) l3 (by omega) hzb ?_; intro v6 w6 ho6 hg6 hv6; obtain ⟨A7, c7, rfl, X6, B7, e7, n7⟩ := H2.out.1.push1P page ho6 hg6 hv6; have d3 : w6.cell? ⟨w.heap.size, 3, none⟩ = some (.slice A3 n3 c3) := X6.cell 3; have g3 := X6.frozen 3; have m3 := X6.lt; have R7 := H2.out.2.step e7 n7; have H7 := Lib.hid (And.intro B7 (And.intro R7 e7.size)); clear ho6 hg6 hv6 X6 B7 e7 n7 R7)
 obtain ⟨w7, hw7⟩ : ∃ x, w6.setCell ⟨w.heap.size, 3, none⟩ (.slice A7 (n3 + 1) c7) = x := ⟨_, rfl⟩
 rw [hw7] at H7 ⊢
 clear hw7 d3 g3 m3
 have d0 : w7.cell? ⟨w.heap.size, 0, none⟩ = some (.slice A0 n0 c0) := H7.out.1.t.cell 0
 have d1 : w7.cell? ⟨w.heap.size, 1, none⟩ = some (.slice A1 n1 c1) := H7.out.1.t.cell 1
 have d4 : w7.cell? ⟨w.heap.size, 4, none⟩ = some (.int .i64 (hi : Int)) := by rw [← HI.out.2.2.2.2.2]; exact H7.out.1.t.cell 4
 have g4 := H7.out.1.t.frozen 4
 have m4 := H7.out.1.t.lt
 have hz7 := H7.out.2.2
 have B8 := H7.out.1.high deep
 have R8 := H7.out.2.1.step B8.2 (NxT.refl _ _)
 have H8 := Lib.hid (And.intro B8.1 (And.intro R8 B8.2.size))
 have hN0 := hN
 clear B8 R8
 rcases HC.out with h0 | ⟨h0, h0'⟩
 have e1 : (n1 : Int) ≤ 0 := by omega
 clear h0
 rotate_left 1
 have e1 : (0 : Int) < (n1 : Int) := by omega
 have e1n : 0 < n1 := by omega
 have e2 : ((hi : Int) != (deep : Int)) = false := by rw [h0']; simp
 clear h0 h0'
 go_upto_region 11 with fail
 all_goals (
  obtain ⟨w8, hw8⟩ : ∃ x, w7.setCell ⟨w.heap.size, 4, none⟩ (.int .i64 (deep : Int)) = x := ⟨_, rfl⟩
  rw [hw8] at H8 ⊢
  clear hw8 d0 d1 d4 g4 m4
  have d0 : w8.cell? ⟨w.heap.size, 0, none⟩ = some (.slice A0 n0 c0) := H8.out.1.t.cell 0
  have hz8 := H8.out.2.2
  have hb8 : base ≤ w8.heap.size := by omega
  go_upto_region 12 with (at_builtin; go_loud (refine wpList_append_any _ rfl (.tmp 76) (.tmp 77) 22 rfl base 37 i0 _ 3 24 Tryz.underlying22 hi0 hz0 hs0 hy0 rfl (by decide) _ n0 (vE st.L) rfl H8.out.1.ts.l _ A6 es.length c6 (vE es) rfl H8.out.2.1.r (cells_oneVE es) (by unfold maxLen; omega) (by omega) hb8 ?_); intro v9 w9 ho9 hg9 hv9; go_loud (obtain ⟨A9, c9, rfl, X9, B9, e9, n9⟩ := H8.out.1.moreL es rfl ho9 hg9 hv9; have d0 : w9.cell? ⟨w.heap.size, 0, none⟩ = some (.slice A0 n0 c0) := X9.cell 0; have g0 := X9.frozen 0; have m0 := X9.lt; have H9 := Lib.hid (And.intro B9 e9.size); clear ho9 hg9 hv9 X9 B9 e9 n9))
  obtain ⟨wa, hwa⟩ : ∃ x, w9.setCell ⟨w.heap.size, 0, none⟩ (.slice A9 (n0 + es.length) c9) = x := ⟨_, rfl⟩
  rw [hwa] at H9 ⊢
  clear hwa d0 g0 m0
  have d1 : wa.cell? ⟨w.heap.size, 1, none⟩ = some (.slice A1 n1 c1) := H9.out.1.t.cell 1
  have hz9 := H9.out.2
  have hb9 : base ≤ wa.heap.size := by omega
  go_upto_region 13 with (at_builtin; go_loud (refine wpList_pushR (news := [.int .u32 (page : Int)]) rfl (.tmp 81) (.tmp 83) 73 rfl base 30 i1 _ 1 4 Tryz.underlying73 hi1 hz1 hs1 hy1 rfl (by decide) _ n1 (vN st.F) rfl H9.out.1.ts.f rfl _ rfl rfl rfl (by intro u hu; rw [List.mem_singleton] at hu; subst hu; rfl) l1 (by omega) hb9 ?_); intro vb wb hob hgb hvb; go_loud (obtain ⟨Ab, cb, rfl, Xb, Bb, eb, nb⟩ := H9.out.1.push1F page hob hgb hvb; have d1 : wb.cell? ⟨w.heap.size, 1, none⟩ = some (.slice A1 n1 c1) := Xb.cell 1; have g1 := Xb.frozen 1; have m1 := Xb.lt; have Hb := Lib.hid (And.intro Bb eb.size); clear hob hgb hvb Xb Bb eb nb))
  obtain ⟨wc, hwc⟩ : ∃ x, wb.setCell ⟨w.heap.size, 1, none⟩ (.slice Ab (n1 + 1) cb) = x := ⟨_, rfl⟩
  rw [hwc] at Hb ⊢
  clear hwc d1 g1 m1
  have d2 : wc.cell? ⟨w.heap.size, 2, none⟩ = some (.slice A2 n2 c2) := Hb.out.1.t.cell 2
  have hzc := Hb.out.2
  have hbc : base ≤ wc.heap.size := by omega
  go_upto_region 14 with (at_builtin; go_loud (refine wpList_pushR (news := [.int .u32 (N : Int)]) rfl (.tmp 87) (.tmp 89) 73 rfl base 30 i1 _ 1 4 Tryz.underlying73 hi1 hz1 hs1 hy1 rfl (by decide) _ n2 (vN st.X) rfl Hb.out.1.ts.x rfl _ rfl rfl rfl (by intro u hu; rw [List.mem_singleton] at hu; subst hu; rfl) l2 (by omega) hbc ?_); intro vd wd hod hgd hvd; go_loud (obtain ⟨Ad, cd, rfl, Xd, Bd, ed, nd⟩ := Hb.out.1.push1X N hod hgd hvd; have d2 : wd.cell? ⟨w.heap.size, 2, none⟩ = some (.slice A2 n2 c2) := Xd.cell 2; have g2 := Xd.frozen 2; have m2 := Xd.lt; have Hd := Lib.hid (And.intro Bd ed.size); clear hod hgd hvd Xd Bd ed nd))
  obtain ⟨we, hwe⟩ : ∃ x, wd.setCell ⟨w.heap.size, 2, none⟩ (.slice Ad (n2 + 1) cd) = x := ⟨_, rfl⟩
  rw [hwe] at Hd ⊢
  clear hwe d2 g2 m2
  have a0 : we.cell? ⟨w.heap.size, 0, none⟩ = some (.slice A9 (n0 + es.length) c9) := Hd.out.1.t.cell 0
  have a1 : we.cell? ⟨w.heap.size, 1, none⟩ = some (.slice Ab (n1 + 1) cb) := Hd.out.1.t.cell 1
  have a2 : we.cell? ⟨w.heap.size, 2, none⟩ = some (.slice Ad (n2 + 1) cd) := Hd.out.1.t.cell 2
  have a3 : we.cell? ⟨w.heap.size, 3, none⟩ = some (.slice A7 (n3 + 1) c7) := Hd.out.1.t.cell 3
  have a4 : we.cell? ⟨w.heap.size, 4, none⟩ = some (.int .i64 (deep : Int)) := Hd.out.1.t.cell 4
  have a5 : we.cell? ⟨w.heap.size, 5, none⟩ = some (.bool false) := Hd.out.1.t.cell 5
  have F0 := Hd.out.1.r.frozen 0
  have F1 := Hd.out.1.r.frozen 1
  have F2 := Hd.out.1.r.frozen 2
  have F3 := Hd.out.1.r.frozen 3
  have F4 := Hd.out.1.r.frozen 4
  have F5 := Hd.out.1.r.frozen 5
  have r0 : we.cell? ⟨w.heap.size + 1 + 1, 0, none⟩ = some (.slice none 0 0) := Hd.out.1.r.cell 0
  have r1 : we.cell? ⟨w.heap.size + 1 + 1, 1, none⟩ = some (.slice none 0 0) := Hd.out.1.r.cell 1
  have r2 : we.cell? ⟨w.heap.size + 1 + 1, 2, none⟩ = some (.slice none 0 0) := Hd.out.1.r.cell 2
  have r3 : we.cell? ⟨w.heap.size + 1 + 1, 3, none⟩ = some (.slice none 0 0) := Hd.out.1.r.cell 3
  have r4 : we.cell? ⟨w.heap.size + 1 + 1, 4, none⟩ = some (.int .i64 0) := Hd.out.1.r.cell 4
  have r5 : we.cell? ⟨w.heap.size + 1 + 1, 5, none⟩ = some (.bool false) := Hd.out.1.r.cell 5
  have mr := Hd.out.1.r.lt
  go_wp2_with fail
  obtain ⟨kk, kr⟩ := Hd.out.1.fin (.slice A9 (n0 + es.length) c9) (.slice Ab (n1 + 1) cb) (.slice Ad (n2 + 1) cd) (.slice A7 (n3 + 1) c7) (.int .i64 (deep : Int)) (.bool false) _ rfl
  refine tb_end (q := ⟨⟨A9, n0 + es.length, c9⟩, ⟨Ab, n1 + 1, cb⟩, ⟨Ad, n2 + 1, cd⟩, ⟨A7, n3 + 1, c7⟩⟩) (hi := deep) (b := false) kk rfl ?_
  rw [HS.out]
  exact kr)
end
end
end Go.Proofs.YtebobcbaloddaaaGreat
namespace Go.Proofs.YtebobcbaloddaaaGreat
section
set_option linter.unusedSimpArgs false
set_option linter.unusedVariables false
open Go.RowKit Go.Maps
section
variable {w : World} {base n : Nat} {vd : Value} {ps : List (List UInt8)} {T : List Bool} {q : Q4} {st s : RS}
set_option maxRecDepth 100000 in
set_option maxHeartbeats 8000000 in
theorem rbelow_inner (f deep : Nat) (hn : n ≤ 5000) (hB : base ≤ w.heap.size) {L : List UInt8} {cc : Nat} {prs : List (En × Nat)}
 (HF : ∀ (W : World) (q : Q4) (st s : RS) (page : Nat), base ≤ W.heap.size → TS W base q st → RD W base n vd ps T → page < 4294967296 → rbP ps f page (deep + 1) st = some s → s.ok →
  Calls Tryz.prog 70 #[q.v st.hi false, vd, .int .u32 page, .int .i64 (deep + 1 : Nat)] W (RetT base q W s))
 (h : TS w base q st) (hd : RD w base n vd ps T) (page : Nat) (hp : page < 4294967296) (hpg : ps[page]? = some L) (hpc : rdPg L = some (.inner cc prs)) (hs : rbP ps (f + 1) page deep st = some s) (hok : s.ok) :
 Calls Tryz.prog 70 #[q.v st.hi false, vd, .int .u32 page, .int .i64 deep] w (RetT base q w s) := by
 have hle := rb_le _ _ _ _ _ hs
 have hok0 := RS.ok.of_le hle hok
 obtain ⟨hT, hpl⟩ := hd.hT
 have hlens := h.lens
 rw [rbP] at hs
 split at hs
 · cases hs
 rename_i hg
 have hdeep : deep ≤ 12 := by omega
 have hmem : decide (page ∈ st.P) = false := by rw [decide_eq_false_iff_not]; exact fun e => hg (.inr e)
 clear hg
 rw [hpg] at hs
 simp only at hs
 have hpn : page < n := by rw [← hpl]; exact lt_of_at hpg
 rw [hpc] at hs
 simp only at hs
 obtain ⟨A, c, A', c', rfl, hr, hr', hc, hc'⟩ := hd
 have hd : RD w base n (.agg #[.slice A n c, .slice A' n c']) ps T := ⟨A, c, A', c', rfl, hr, hr', hc, hc'⟩
 clear hr'
 obtain ⟨⟨A0, n0, c0⟩, ⟨A1, n1, c1⟩, ⟨A2, n2, c2⟩, ⟨A3, n3, c3⟩⟩ := q
 simp only at hlens
 obtain ⟨ln0, ln1, ln2, ln3⟩ := hlens
 obtain ⟨hi, hhi⟩ : ∃ hi, st.hi = hi := ⟨_, rfl⟩
 rw [hhi]
 have hpI : (page : Int) < (n : Int) := by omega
 have hpI0 : (0 : Int) ≤ (page : Int) := by omega
 have hdI : (deep : Int) ≤ 12 := by omega
 have hdI0 : (0 : Int) ≤ (deep : Int) := by omega
 have hbT := ball (ball (ball (Below.refl w.heap.size w) (.cells #[.slice A0 n0 c0, .slice A1 n1 c1, .slice A2 n2 c2, .slice A3 n3 c3, .int .i64 (hi : Int), .bool false] 95)) (.cells #[.slice A n c, .slice A' n c'] 90)) (.cells #[.slice none 0 0, .slice none 0 0, .slice none 0 0, .slice none 0 0, .int .i64 0, .bool false] 95)
 have X0 := ((Blk.new w 95 #[.slice A0 n0 c0, .slice A1 n1 c1, .slice A2 n2 c2, .slice A3 n3 c3, .int .i64 (hi : Int), .bool false]).alloc (.cells #[.slice A n c, .slice A' n c'] 90)).alloc (.cells #[.slice none 0 0, .slice none 0 0, .slice none 0 0, .slice none 0 0, .int .i64 0, .bool false] 95)
 have X1 := (Blk.newAt (w := w.alloc (.cells #[.slice A0 n0 c0, .slice A1 n1 c1, .slice A2 n2 c2, .slice A3 n3 c3, .int .i64 (hi : Int), .bool false] 95)) (t := 90) (cs := #[.slice A n c, .slice A' n c']) (g := w.heap.size + 1) (by simp)).alloc (.cells #[.slice none 0 0, .slice none 0 0, .slice none 0 0, .slice none 0 0, .int .i64 0, .bool false] 95)
 have X2 := Blk.newAt (w := (w.alloc (.cells #[.slice A0 n0 c0, .slice A1 n1 c1, .slice A2 n2 c2, .slice A3 n3 c3, .int .i64 (hi : Int), .bool false] 95)).alloc (.cells #[.slice A n c, .slice A' n c'] 90)) (t := 95) (cs := #[.slice none 0 0, .slice none 0 0, .slice none 0 0, .slice none 0 0, .int .i64 0, .bool false]) (g := w.heap.size + 1 + 1) (by simp)
 have hT1 := h.below hbT
 have hrT := (hr.below (hbT.mono hB))
 have hdT := hd.below (hbT.mono hB) (Nat.le_refl _)
 have hzT : (((w.alloc (.cells #[.slice A0 n0 c0, .slice A1 n1 c1, .slice A2 n2 c2, .slice A3 n3 c3, .int .i64 (hi : Int), .bool false] 95)).alloc (.cells #[.slice A n c, .slice A' n c'] 90)).alloc (.cells #[.slice none 0 0, .slice none 0 0, .slice none 0 0, .slice none 0 0, .int .i64 0, .bool false] 95)).heap.size = w.heap.size + 1 + 1 + 1 := by simp
 obtain ⟨i0, hi0, hz0, hs0, hy0⟩ := int_info8 Tryz.infoE
 obtain ⟨i1, hi1, hz1, hs1, hy1⟩ := int_info8 Tryz.infoN
 have HI := Lib.hid (And.intro hn (And.intro hle (And.intro hok0 (And.intro hok (And.intro hs hhi)))))
 have HL := Lib.hid (And.intro ln0 (And.intro ln1 (And.intro ln2 ln3)))
 have HFh := Lib.hid HF
 have HPc := Lib.hid hpc
 have HD := Lib.hid hd
 have hkl : (cc :: prs.map Prod.snd).length = prs.length + 1 := by simp
 have hsl : (prs.map Prod.fst).length = prs.length := by simp
 have Hpg := Lib.hid hpg
 clear HF hle hok0 hok hs hhi ln0 ln1 ln2 ln3 h hr hd hpc hT hpl hn
 go_enter Tryz.func70, Tryz.ntmps70
 go_upto_region 1 with fail
 obtain ⟨WX, hWX⟩ : ∃ WX, (((w.alloc (.cells #[.slice A0 n0 c0, .slice A1 n1 c1, .slice A2 n2 c2, .slice A3 n3 c3, .int .i64 (hi : Int), .bool false] 95)).alloc (.cells #[.slice A n c, .slice A' n c'] 90)).alloc (.cells #[.slice none 0 0, .slice none 0 0, .slice none 0 0, .slice none 0 0, .int .i64 0, .bool false] 95)) = WX := ⟨_, rfl⟩
 rw [hWX] at hbT X0 X1 X2 hT1 hrT hdT hzT ⊢
 clear hWX
 have HAS := Lib.hid (rhas_any11 A3 n3 c3 st.P page WX (Reads.of_own hT1.p) (by have := HL.out.2.2.2; have := HI.out.2.2.1.2.2.2; omega))
 rw [hmem] at HAS
 have a0 : WX.cell? ⟨w.heap.size, 0, none⟩ = some (.slice A0 n0 c0) := X0.cell 0
 have a3 : WX.cell? ⟨w.heap.size, 3, none⟩ = some (.slice A3 n3 c3) := X0.cell 3
 have a5 : WX.cell? ⟨w.heap.size, 5, none⟩ = some (.bool false) := X0.cell 5
 have b0 : WX.cell? ⟨w.heap.size + 1, 0, none⟩ = some (.slice A n c) := X1.cell 0
 have HX : BX w WX base #[.slice A n c, .slice A' n c'] ⟨⟨A0, n0, c0⟩, ⟨A1, n1, c1⟩, ⟨A2, n2, c2⟩, ⟨A3, n3, c3⟩⟩ ⟨⟨A0, n0, c0⟩, ⟨A1, n1, c1⟩, ⟨A2, n2, c2⟩, ⟨A3, n3, c3⟩⟩ st := ⟨by rw [HI.out.2.2.2.2.2]; exact X0, X2, X1, hT1, EvT.of_below hbT, NxT.refl _ _⟩
 have wP : IntKind.i64.wrap (page : Int) = (page : Int) := IntWalk.i64_in _ (by omega)
 have H0 := Lib.hid (And.intro HX (And.intro hrT hdT))
 clear HX hbT X0 X1 X2 hT1 hrT hdT hmem
 go_wp2_with fail
 refine HAS.out.mono ?_
 rintro e w1 ⟨rfl, hb1⟩
 have hrw1 := H0.out.2.1.below (hb1.mono (by omega))
 obtain ⟨ad, L', rfl, hadb, hL', p0⟩ := hrw1.text hpn
 have hLL : L' = L := by have := Hpg.out; rw [hL'] at this; injection this
 subst hLL
 have B1 := H0.out.1.below hb1
 have b1 : w1.cell? ⟨w.heap.size + 1, 0, none⟩ = some (.slice (some ad) n c) := B1.k.cell 0
 have hzw1 := hb1.size
 clear hrw1 hL' a0 a3 a5 b0
 obtain ⟨PG, hne, hmle, hkid⟩ := rpg_inner HPc.out w1
 generalize hkids : cc :: prs.map Prod.snd = kids at *
 generalize hseps : prs.map Prod.fst = seps at *
 generalize hm : prs.length = m at *
 have PG := Lib.hid PG
 have B1 := Lib.hid B1
 have Hkid := Lib.hid hkid
 have hmS := Lib.hid (And.intro hkl hsl)
 clear hkid
 unfold RetPg11 at PG
 rw [hkl, hsl] at PG
 clear hkl hsl
 go_wp2_with fail
 refine PG.out.mono ?_
 rintro e w2 ⟨A5, c5, A6, c6, rfl, r5, r6, hb2, f5, f6⟩
 have B2 := B1.out.below hb2
 have d3 : w2.cell? ⟨w.heap.size, 3, none⟩ = some (.slice A3 n3 c3) := B2.t.cell 3
 have hzw2 := hb2.size
 have hzb : base ≤ w2.heap.size := by omega
 have l3 : n3 + 1 ≤ 1000000000 := by have := HL.out.2.2.2; have := HI.out.2.2.1.2.2.2; omega
 have R2 : FR w w2 w2.heap.size 3 ⟨⟨A0, n0, c0⟩, ⟨A1, n1, c1⟩, ⟨A2, n2, c2⟩, ⟨A3, n3, c3⟩⟩ A6 m (vE seps) := ⟨r6, Nat.le_refl _, fun ad e => ⟨by have := f6 ad e; omega, fun _ ho => by have := f6 ad e; have := (B1.out.ts.lt ho).2; omega⟩⟩
 have Q2 : FR w w2 w2.heap.size 1 ⟨⟨A0, n0, c0⟩, ⟨A1, n1, c1⟩, ⟨A2, n2, c2⟩, ⟨A3, n3, c3⟩⟩ A5 (m + 1) (vN kids) := ⟨r5, Nat.le_refl _, fun ad e => ⟨by have := f5 ad e; omega, fun _ ho => by have := f5 ad e; have := (B1.out.ts.lt ho).2; omega⟩⟩
 have H2 := Lib.hid (And.intro B2 (And.intro R2 Q2))
 clear B2 R2 Q2 B1 r6 r5 f5 f6 p0 b1
 go_upto_region 7 with (at_builtin; refine wpList_pushR (news := [.int .u32 (page : Int)]) rfl (.tmp 54) (.tmp 56) 73 rfl base 30 i1 _ 1 4 Tryz.underlying73 hi1 hz1 hs1 hy1 rfl (by decide) _ n3 (vN st.P) rfl H2.out.1.ts.p rfl _ rfl rfl rfl (by intro u hu; rw [List.mem_singleton] at hu; subst hu; rfl) l3 (by omega) hzb ?_; intro v6 w6 ho6 hg6 hv6; obtain ⟨A7, c7, rfl, X6, B7, e7, n7⟩ := H2.out.1.push1P page ho6 hg6 hv6; have d3 : w6.cell? ⟨w.heap.size, 3, none⟩ = some (.slice A3 n3 c3) := X6.cell 3; have g3 := X6.frozen 3; have m3 := X6.lt; have R7 := H2.out.2.1.step e7 n7; have Q7 := H2.out.2.2.step e7 n7; have H7 := Lib.hid (And.intro B7 (And.intro R7 (And.intro Q7 e7.size))); clear ho6 hg6 hv6 X6 B7 e7 n7 R7 Q7)
 obtain ⟨w7, hw7⟩ : ∃ x, w6.setCell ⟨w.heap.size, 3, none⟩ (.slice A7 (n3 + 1) c7) = x := ⟨_, rfl⟩
 rw [hw7] at H7 ⊢
 clear hw7 d3 g3 m3
 have hmI : (m : Int) ≤ 65535 := by omega
 go_wp2_with fail
 have hkS : kids.length = m + 1 := hmS.out.1
 have HKS := Lib.hid hkS
 clear hkS
 go_loopw [95] (fun v wr => ∃ (j : Nat) (q' : Q4) (st' : RS), v = .int .i64 j ∧ j ≤ m + 1 ∧ BX w wr base #[.slice (some ad) n c, .slice A' n c'] ⟨⟨A0, n0, c0⟩, ⟨A1, n1, c1⟩, ⟨A2, n2, c2⟩, ⟨A3, n3, c3⟩⟩ q' st' ∧ FR w wr w2.heap.size 3 q' A6 m (vE seps) ∧ FR w wr w2.heap.size 1 q' A5 (m + 1) (vN kids) ∧ rbKids (fun c st' => rbP ps f c (deep + 1) st') seps (kids.drop j) j st' = some s) (fun v _ => m + 1 - (intOf v).toNat)
 case atStart => exact ⟨0, _, _, rfl, by omega, H7.out.1, H7.out.2.1, H7.out.2.2.1, HI.out.2.2.2.2.1⟩
 case round =>
  obtain ⟨j, q', st', rfl, hj, hB', hR6, hR5, hres⟩ := hrel
  have j0 : (0 : Int) ≤ (j : Int) := by omega
  obtain ⟨⟨Al, nl, cl⟩, ⟨Af, nf, cf⟩, ⟨Ax, nx, cx⟩, ⟨Ap, np, cp⟩⟩ := q'
  obtain ⟨hi', hhi'⟩ : ∃ hi', st'.hi = hi' := ⟨_, rfl⟩
  by_cases hlt : j < m + 1
  · have j1 : (j : Int) < (m : Int) + 1 := by omega
    obtain ⟨a5, x, rfl, _, hx, u0⟩ := hR5.rd.num hlt
    have hx32 := Lib.hid (Hkid.out x (List.mem_of_getElem? hx))
    have hkd : kids.drop j = x :: kids.drop (j + 1) := by
     have hjl := lt_of_at hx
     rw [List.drop_eq_getElem_cons hjl]
     have : kids[j] = x := by rw [List.getElem?_eq_getElem hjl] at hx; injection hx
     rw [this]
    rw [hkd, rbKids] at hres
    cases hG : rbP ps f x (deep + 1) st' with
    | none => rw [hG] at hres; cases hres
    | some s1 =>
    rw [hG] at hres
    simp only [Option.bind_some] at hres
    split at hres
    · cases hres
    rename_i hany
    have hgd := HFh.out
    have k0 : wr.cell? ⟨w.heap.size, 0, none⟩ = some (.slice Al nl cl) := hB'.t.cell 0
    have k1 : wr.cell? ⟨w.heap.size, 1, none⟩ = some (.slice Af nf cf) := hB'.t.cell 1
    have k2 : wr.cell? ⟨w.heap.size, 2, none⟩ = some (.slice Ax nx cx) := hB'.t.cell 2
    have k3 : wr.cell? ⟨w.heap.size, 3, none⟩ = some (.slice Ap np cp) := hB'.t.cell 3
    have k4 : wr.cell? ⟨w.heap.size, 4, none⟩ = some (.int .i64 (hi' : Int)) := by rw [← hhi']; exact hB'.t.cell 4
    have k5 : wr.cell? ⟨w.heap.size, 5, none⟩ = some (.bool false) := hB'.t.cell 5
    have b0 : wr.cell? ⟨w.heap.size + 1, 0, none⟩ = some (.slice (some ad) n c) := hB'.k.cell 0
    have b1 : wr.cell? ⟨w.heap.size + 1, 1, none⟩ = some (.slice A' n c') := hB'.k.cell 1
    have HG := Lib.hid (And.intro hG (And.intro hany (And.intro hres (And.intro hx (And.intro hkd hhi')))))
    have HB := Lib.hid (And.intro hB' (And.intro hR6 hR5))
    clear hgd hG hany hres hx hkd hB' hR6 hR5 hhi'
    go_upto_region 19 with fail
    have hs1 : s1.ok := RS.ok.of_le (rbKids_le (fun c st' s' h' => rb_le f c (deep + 1) st' s' h') _ _ _ _ HG.out.2.2.1) HI.out.2.2.2.1
    have hzr : base ≤ wr.drew.heap.size := by have h1 := HB.out.1.ev.size; show base ≤ wr.heap.size; omega
    have CK := HFh.out wr.drew _ st' s1 x hzr (HB.out.1.ts.below (Below.drew (Below.refl _ _))) ((HD.out.ev HB.out.1.ev hB fun g e => (H0.out.1.ts.lt e).1).below (B' := base) (Below.drew (Below.refl _ _)) (Nat.le_refl _)) hx32.out HG.out.1 hs1
    have dd1 : ((deep + 1 : Nat) : Int) = (deep : Int) + 1 := by omega
    have wD : IntKind.i64.wrap ((deep : Int) + 1) = (deep : Int) + 1 := IntWalk.i64_in _ (by omega)
    rw [dd1, HG.out.2.2.2.2.2] at CK
    have CK := Lib.hid CK
    have HS1 := Lib.hid hs1
    clear dd1 hs1
    have HBd := Lib.hid (HB.out.1.below (Below.drew (Below.refl wr.heap.size wr)))
    go_cut [] (fun wx => ∃ q1 : Q4, BX w wx base #[.slice (some ad) n c, .slice A' n c'] ⟨⟨A0, n0, c0⟩, ⟨A1, n1, c1⟩, ⟨A2, n2, c2⟩, ⟨A3, n3, c3⟩⟩ q1 s1 ∧ FR w wx w2.heap.size 3 q1 A6 m (vE seps) ∧ FR w wx w2.heap.size 1 q1 (some a5) (m + 1) (vN kids))
    case first =>
     go_region_law (
      (refine step_go11 rfl ?_; go_simp; go_at_call 70; refine CK.out.mono ?_; rintro e w4 ⟨⟨⟨Bl, ml, el⟩, ⟨Bf, mf, ef⟩, ⟨Bx, mx, ex⟩, ⟨Bp, mp, ep⟩⟩, rfl, ts1, ev1, nx1⟩; have X4 := ev1.blk HBd.out.t (HBd.out.ts.ne_ HBd.out.t (by decide) (by decide)); have z0 := X4.cell 0; have z1 := X4.cell 1; have z2 := X4.cell 2; have z3 := X4.cell 3; have z4 := X4.cell 4; have z5 := X4.cell 5; have y0 := X4.frozen 0; have y1 := X4.frozen 1; have y2 := X4.frozen 2; have y3 := X4.frozen 3; have y4 := X4.frozen 4; have y5 := X4.frozen 5; have yl := X4.lt; have H4 := Lib.hid (And.intro ts1 (And.intro ev1 nx1)); clear ts1 ev1 nx1 X4))
     all_goals (
      have KK := Lib.hid (HBd.out.child H4.out.1 H4.out.2.1 H4.out.2.2 (.slice Bl ml el) (.slice Bf mf ef) (.slice Bx mx ex) (.slice Bp mp ep) (.int .i64 (s1.hi : Int)) (.bool false) rfl)
      go_wp2_with fail
      go_meet
      case rel => exact ⟨_, KK.out.1, (HB.out.2.1.below (Below.drew (Below.refl _ _))).step KK.out.2 H4.out.2.2, (HB.out.2.2.below (Below.drew (Below.refl _ _))).step KK.out.2 H4.out.2.2⟩)
    case rest =>
     obtain ⟨⟨⟨Bl, ml, el⟩, ⟨Bf, mf, ef⟩, ⟨Bx, mx, ex⟩, ⟨Bp, mp, ep⟩⟩, hB1, hR6, hR5⟩ := hcut
     rename World => wc
     have hls := hB1.ts.lens
     have hls0 := HB.out.1.ts.lens
     simp only at hls hls0
     have v0 : wc.cell? ⟨w.heap.size, 0, none⟩ = some (.slice Bl ml el) := hB1.t.cell 0
     have v5 : wc.cell? ⟨w.heap.size, 5, none⟩ = some (.bool false) := hB1.t.cell 5
     have hle1 := rb_le _ _ _ _ _ HG.out.1
     have nl0 : nl ≤ ml := by rw [hls.1, hls0.1]; exact hle1.1
     have ml0 : ml ≤ 1000000 := by rw [hls.1]; exact HS1.out.1
     have HR6 := Lib.hid hR6
     have HL1 := Lib.hid (And.intro hls.1 hls0.1)
     have HB1 := Lib.hid (And.intro hB1 hR5)
     clear hls hls0 hle1 hB1 hR6 hR5 k0 k1 k2 k3 k4 k5 b0 b1 u0 CK HBd hb1 hb2
     go_wp2_with fail
     go_loopw [15] (fun v wr => ∃ k : Nat, v = .int .i64 k ∧ nl ≤ k ∧ k ≤ ml ∧ Below wc.heap.size wc wr) (fun v _ => ml - (intOf v).toNat)
     case atStart => exact ⟨nl, rfl, Nat.le_refl _, nl0, Below.refl _ _⟩
     case round =>
      obtain ⟨k, rfl, hk0, hk1, hbk⟩ := hrel
      have hBk := HB1.out.1.below hbk
      have HR6 := Lib.hid (HR6.out.below hbk)
      have q0 : wr.cell? ⟨w.heap.size, 0, none⟩ = some (.slice Bl ml el) := hBk.t.cell 0
      have kI0 : (0 : Int) ≤ (k : Int) := by omega
      have hHQ := Lib.hid (And.intro hBk hbk)
      by_cases hkm : k < ml
      · have kI1 : (k : Int) < (ml : Int) := by omega
        go_upto_region 25 with fail
        obtain ⟨x, hx⟩ : ∃ x, s1.L[k]? = some x := ⟨_, List.getElem?_eq_getElem (by rw [← HL1.out.1]; exact hkm)⟩
        obtain ⟨al, rfl, hab, hak, HXX⟩ := ent_of (Reads.of_own hBk.ts.l) hx
        have hoff := off_at HG.out.2.1 (by rw [← HL1.out.2]; exact hk0) hx
        have HOF := Lib.hid hoff
        have HX := Lib.hid HXX
        have HQ := hHQ
        have g4 : (al.add (k * 3)).block < wr.heap.size := hab
        clear hoff HXX hx hBk hHQ q0
        obtain ⟨xs, xp, xq⟩ := x
        by_cases hj0 : j = 0
        ·
         have g0 : decide ((0 : Int) < (j : Int)) = false := decide_eq_false (by omega)
         have g0n : decide (0 < j) = false := decide_eq_false (by omega)
         obtain ⟨z, hz⟩ : ∃ z, seps[j]? = some z := ⟨_, List.getElem?_eq_getElem (by rw [hmS.out.2]; omega)⟩
         obtain ⟨sa, rfl, hsb, hsi, HZZ⟩ := ent_of HR6.out.rd hz
         have hlz := off_hi HOF.out hz
         obtain ⟨zs, zp, zq⟩ := z
         have HZ := Lib.hid HZZ
         have C2 := Lib.hid fun W => lessE_any ⟨xs, xp, xq⟩ ⟨zs, zp, zq⟩ W
         rw [hlz] at C2
         have d1 : decide ((j : Int) < (m : Int)) = true := decide_eq_true (by omega)
         have d1n : decide (j < m) = true := decide_eq_true (by omega)
         have jm : (j : Int) < (m : Int) := by omega
         have hkI : k < ml := hkm
         have hS : Hid (∀ W, Below wr.heap.size wr W → W.cell? ⟨w.heap.size, 0, none⟩ = some (.slice (some al) ml el) ∧ W.cell? (al.add (k * 3)) = some (.string xs) ∧ W.cell? ⟨(al.add (k * 3)).block, (al.add (k * 3)).off + 1, none⟩ = some (.int .u32 xp) ∧ W.cell? ⟨(al.add (k * 3)).block, (al.add (k * 3)).off + 2, none⟩ = some (.int .u16 xq) ∧ W.cell? (sa.add (j * 3)) = some (.string zs) ∧ W.cell? ⟨(sa.add (j * 3)).block, (sa.add (j * 3)).off + 1, none⟩ = some (.int .u32 zp) ∧ W.cell? ⟨(sa.add (j * 3)).block, (sa.add (j * 3)).off + 2, none⟩ = some (.int .u16 zq) ∧ Below wr.heap.size wr W) := Lib.hid fun W hW => ⟨(hW.cell (p := ⟨w.heap.size, 0, none⟩) HQ.out.1.t.lt).trans (HQ.out.1.t.cell 0), (HX.out W hW).1, (HX.out W hW).2.1, (HX.out W hW).2.2, (HZ.out W hW).1, (HZ.out W hW).2.1, (HZ.out W hW).2.2, hW⟩
         clear hz HZZ hlz hj0
         refine wp_region_held_drew (S := (fun W => W.cell? ⟨w.heap.size, 0, none⟩ = some (.slice (some al) ml el) ∧ W.cell? (al.add (k * 3)) = some (.string xs) ∧ W.cell? ⟨(al.add (k * 3)).block, (al.add (k * 3)).off + 1, none⟩ = some (.int .u32 xp) ∧ W.cell? ⟨(al.add (k * 3)).block, (al.add (k * 3)).off + 2, none⟩ = some (.int .u16 xq) ∧ W.cell? (sa.add (j * 3)) = some (.string zs) ∧ W.cell? ⟨(sa.add (j * 3)).block, (sa.add (j * 3)).off + 1, none⟩ = some (.int .u32 zp) ∧ W.cell? ⟨(sa.add (j * 3)).block, (sa.add (j * 3)).off + 2, none⟩ = some (.int .u16 zq) ∧ Below wr.heap.size wr W)) (by kernel_rfl) (by exact hS.out _ (Below.drew (Below.refl _ _))) (fun hHeld => ?_)
         try dsimp only at hHeld
         refine zt 0 ?_ rfl (by kernel_rfl) (fun _ _ _ h => h) ⟨rfl, ?_⟩ hHeld ?_
         rotate_left
         focus (intro wx hSw; (try dsimp only at hSw); (try go_split_ands); go_simp; (try with_reducible rfl))
         try simp only [Act.put, za1, za2, za3, za4, za5, za6]
         refine zt 1 ?_ rfl (by kernel_rfl) (fun _ _ _ h => h) ⟨rfl, ?_⟩ hHeld ?_
         rotate_left
         focus (intro wx hSw; (try dsimp only at hSw); (try go_split_ands); go_simp; (try with_reducible rfl))
         try simp only [Act.put, za1, za2, za3, za4, za5, za6]
         refine zt 2 ?_ rfl (by kernel_rfl) (fun _ _ _ h => h) ⟨rfl, ?_⟩ hHeld ?_
         rotate_left
         focus (intro wx hSw; (try dsimp only at hSw); (try go_split_ands); go_simp; (try with_reducible rfl))
         try simp only [Act.put, za1, za2, za3, za4, za5, za6]
         refine wpAnyH_take (i := 3) (v := undef) rfl (by kernel_rfl) (by kernel_rfl) (by kernel_rfl) (fun _ _ _ h => h) (Or.inr ⟨rfl, rfl⟩) hHeld ?_
         try simp only [Act.put, za1, za2, za3, za4, za5, za6]
         refine wpAnyH_take (i := 4) (v := undef) rfl (by kernel_rfl) (by kernel_rfl) (by kernel_rfl) (fun _ _ _ h => h) (Or.inr ⟨rfl, rfl⟩) hHeld ?_
         try simp only [Act.put, za1, za2, za3, za4, za5, za6]
         refine wpAnyH_take (i := 5) (v := undef) rfl (by kernel_rfl) (by kernel_rfl) (by kernel_rfl) (fun _ _ _ h => h) (Or.inr ⟨rfl, rfl⟩) hHeld ?_
         try simp only [Act.put, za1, za2, za3, za4, za5, za6]
         refine wpAnyH_take (i := 6) (v := undef) rfl (by kernel_rfl) (by kernel_rfl) (by kernel_rfl) (fun _ _ _ h => h) (Or.inr ⟨rfl, rfl⟩) hHeld ?_
         try simp only [Act.put, za1, za2, za3, za4, za5, za6]
         refine wpAnyH_take (i := 7) (v := undef) rfl (by kernel_rfl) (by kernel_rfl) (by kernel_rfl) (fun _ _ _ h => h) (Or.inr ⟨rfl, rfl⟩) hHeld ?_
         try simp only [Act.put, za1, za2, za3, za4, za5, za6]
         refine wpAnyH_take (i := 8) (v := undef) rfl (by kernel_rfl) (by kernel_rfl) (by kernel_rfl) (fun _ _ _ h => h) (Or.inr ⟨rfl, rfl⟩) hHeld ?_
         try simp only [Act.put, za1, za2, za3, za4, za5, za6]
         refine wpAnyH_take (i := 9) (v := undef) rfl (by kernel_rfl) (by kernel_rfl) (by kernel_rfl) (fun _ _ _ h => h) (Or.inr ⟨rfl, rfl⟩) hHeld ?_
         try simp only [Act.put, za1, za2, za3, za4, za5, za6]
         refine wpAnyH_take (i := 10) (v := undef) rfl (by kernel_rfl) (by kernel_rfl) (by kernel_rfl) (fun _ _ _ h => h) (Or.inr ⟨rfl, rfl⟩) hHeld ?_
         try simp only [Act.put, za1, za2, za3, za4, za5, za6]
         refine wpAnyH_take (i := 11) (v := undef) rfl (by kernel_rfl) (by kernel_rfl) (by kernel_rfl) (fun _ _ _ h => h) (Or.inr ⟨rfl, rfl⟩) hHeld ?_
         try simp only [Act.put, za1, za2, za3, za4, za5, za6]
         refine wpAnyH_take (i := 12) (v := undef) rfl (by kernel_rfl) (by kernel_rfl) (by kernel_rfl) (fun _ _ _ h => h) (Or.inr ⟨rfl, rfl⟩) hHeld ?_
         try simp only [Act.put, za1, za2, za3, za4, za5, za6]
         refine wpAnyH_take (i := 13) (v := undef) rfl (by kernel_rfl) (by kernel_rfl) (by kernel_rfl) (fun _ _ _ h => h) (Or.inr ⟨rfl, rfl⟩) hHeld ?_
         try simp only [Act.put, za1, za2, za3, za4, za5, za6]
         refine zt 14 ?_ rfl (by kernel_rfl) (fun _ _ _ h => h) ⟨rfl, ?_⟩ hHeld ?_
         rotate_left
         focus (intro wx hSw; (try dsimp only at hSw); (try go_split_ands); go_simp; (try with_reducible rfl))
         try simp only [Act.put, za1, za2, za3, za4, za5, za6]
         refine zt 15 ?_ rfl (by kernel_rfl) (fun _ _ _ h => h) ⟨rfl, ?_⟩ hHeld ?_
         rotate_left
         focus (intro wx hSw; (try dsimp only at hSw); (try go_split_ands); go_simp; (try with_reducible rfl))
         try simp only [Act.put, za1, za2, za3, za4, za5, za6]
         refine zt 16 ?_ rfl (by kernel_rfl) (fun _ _ _ h => h) ⟨rfl, ?_⟩ hHeld ?_
         rotate_left
         focus (intro wx hSw; (try dsimp only at hSw); (try go_split_ands); go_simp; (try with_reducible rfl))
         try simp only [Act.put, za1, za2, za3, za4, za5, za6]
         refine zt 17 ?_ rfl (by kernel_rfl) (fun _ _ _ h => h) ⟨rfl, ?_⟩ hHeld ?_
         rotate_left
         focus (intro wx hSw; (try dsimp only at hSw); (try go_split_ands); go_simp; (try with_reducible rfl))
         try simp only [Act.put, za1, za2, za3, za4, za5, za6]
         refine zt 18 ?_ rfl (by kernel_rfl) (fun _ _ _ h => h) ⟨rfl, ?_⟩ hHeld ?_
         rotate_left
         focus (intro wx hSw; (try dsimp only at hSw); (try go_split_ands); go_simp; (try with_reducible rfl))
         try simp only [Act.put, za1, za2, za3, za4, za5, za6]
         refine zt 19 ?_ rfl (by kernel_rfl) (fun _ _ _ h => h) ⟨rfl, ?_⟩ hHeld ?_
         rotate_left
         focus (intro wx hSw; (try dsimp only at hSw); (try go_split_ands); go_simp; (try with_reducible rfl))
         try simp only [Act.put, za1, za2, za3, za4, za5, za6]
         refine zt 20 ?_ rfl (by kernel_rfl) (fun _ _ _ h => h) ⟨rfl, ?_⟩ hHeld ?_
         rotate_left
         focus (intro wx hSw; (try dsimp only at hSw); (try go_split_ands); go_simp; (try with_reducible rfl))
         try simp only [Act.put, za1, za2, za3, za4, za5, za6]
         refine zt 21 ?_ rfl (by kernel_rfl) (fun _ _ _ h => h) ⟨rfl, ?_⟩ hHeld ?_
         rotate_left
         focus (intro wx hSw; (try dsimp only at hSw); (try go_split_ands); go_simp; (try with_reducible rfl))
         try simp only [Act.put, za1, za2, za3, za4, za5, za6]
         refine zt 22 ?_ rfl (by kernel_rfl) (fun _ _ _ h => h) ⟨rfl, ?_⟩ hHeld ?_
         rotate_left
         focus (intro wx hSw; (try dsimp only at hSw); (try go_split_ands); go_simp; (try with_reducible rfl))
         try simp only [Act.put, za1, za2, za3, za4, za5, za6]
         refine zt 23 ?_ rfl (by kernel_rfl) (fun _ _ _ h => h) ⟨rfl, ?_⟩ hHeld ?_
         rotate_left
         focus (intro wx hSw; (try dsimp only at hSw); (try go_split_ands); go_simp; (try with_reducible rfl))
         try simp only [Act.put, za1, za2, za3, za4, za5, za6]
         refine zt 24 ?_ rfl (by kernel_rfl) (fun _ _ _ h => h) ⟨rfl, ?_⟩ hHeld ?_
         rotate_left
         focus (intro wx hSw; (try dsimp only at hSw); (try go_split_ands); go_simp; (try with_reducible rfl))
         try simp only [Act.put, za1, za2, za3, za4, za5, za6]
         refine zt 25 ?_ rfl (by kernel_rfl) (fun _ _ _ h => h) ⟨rfl, ?_⟩ hHeld ?_
         rotate_left
         focus (intro wx hSw; (try dsimp only at hSw); (try go_split_ands); go_simp; (try with_reducible rfl))
         try simp only [Act.put, za1, za2, za3, za4, za5, za6]
         refine zt 26 ?_ rfl (by kernel_rfl) (fun _ _ _ h => h) ⟨rfl, ?_⟩ hHeld ?_
         rotate_left
         focus (intro wx hSw; (try dsimp only at hSw); (try go_split_ands); go_simp; (try with_reducible rfl))
         try simp only [Act.put, za1, za2, za3, za4, za5, za6]
         refine zt 27 ?_ rfl (by kernel_rfl) (fun _ _ _ h => h) ⟨rfl, ?_⟩ hHeld ?_
         rotate_left
         focus (intro wx hSw; (try dsimp only at hSw); (try go_split_ands); go_simp; (try with_reducible rfl))
         try simp only [Act.put, za1, za2, za3, za4, za5, za6]
         refine zt 28 ?_ rfl (by kernel_rfl) (fun _ _ _ h => h) ⟨rfl, ?_⟩ hHeld ?_
         rotate_left
         focus (intro wx hSw; (try dsimp only at hSw); (try go_split_ands); go_simp; (try with_reducible rfl))
         try simp only [Act.put, za1, za2, za3, za4, za5, za6]
         refine zt 29 ?_ rfl (by kernel_rfl) (fun _ _ _ h => h) ⟨rfl, ?_⟩ hHeld ?_
         rotate_left
         focus (intro wx hSw; (try dsimp only at hSw); (try go_split_ands); go_simp; (try with_reducible rfl))
         try simp only [Act.put, za1, za2, za3, za4, za5, za6]
         refine wpAnyH_ready (rs := [30]) (by kernel_rfl) (by simp) (AllReadyH.cons rfl (fun K hK => ?_) AllReadyH.nil)
         go_simp
         ((with_reducible refine (C2.out _).mono ?_); rintro e w1 ⟨rfl, hb1⟩)
         go_wp2_with fail
         refine hK.out _ _ ?_ (fun hHeld => ?_)
         · ((try dsimp only); (try dsimp only at hHeld); (first | exact hS.out _ (by (with_reducible repeat (first | exact Below.refl _ _ | exact hb1 | refine bto0 ?_ hb1 | refine bdr ?_ _ | refine Below.drew ?_ | refine ball ?_ _))) | assumption))
         clear hK K
         try dsimp only at hHeld
         try simp only [Act.put, za1, za2, za3, za4, za5, za6]
         refine zt 31 ?_ rfl (by kernel_rfl) (fun _ _ _ h => h) ⟨rfl, ?_⟩ hHeld ?_
         rotate_left
         focus (intro wx hSw; (try dsimp only at hSw); (try go_split_ands); go_simp; (try with_reducible rfl))
         try simp only [Act.put, za1, za2, za3, za4, za5, za6]
         refine zt 32 ?_ rfl (by kernel_rfl) (fun _ _ _ h => h) ⟨rfl, ?_⟩ hHeld ?_
         rotate_left
         focus (intro wx hSw; (try dsimp only at hSw); (try go_split_ands); go_simp; (try with_reducible rfl))
         try simp only [Act.put, za1, za2, za3, za4, za5, za6]
         refine zt 33 ?_ rfl (by kernel_rfl) (fun _ _ _ h => h) ⟨rfl, ?_⟩ hHeld ?_
         rotate_left
         focus (intro wx hSw; (try dsimp only at hSw); (try go_split_ands); go_simp; (try with_reducible rfl))
         try simp only [Act.put, za1, za2, za3, za4, za5, za6]
         refine wpAnyH_done (by kernel_rfl) ?_ _
         go_wp2_with fail
         go_roundw
         case rel => exact ⟨k + 1, by go_num, by omega, by omega, HQ.out.2.trans ((show Below wr.heap.size wr _ from by (with_reducible repeat (first | exact Below.refl _ _ | exact hb1 | refine bto0 ?_ hb1 | refine bdr ?_ _ | refine Below.drew ?_ | refine ball ?_ _))).mono HQ.out.2.size)⟩
         case measure => simp [intOf]; omega
        · obtain ⟨i, hji⟩ : ∃ i, j = i + 1 := ⟨j - 1, by omega⟩
          obtain ⟨y, hy⟩ : ∃ y, seps[i]? = some y := ⟨_, List.getElem?_eq_getElem (by rw [hmS.out.2]; omega)⟩
          obtain ⟨sa, rfl, hsb, hsi, HYY⟩ := ent_of HR6.out.rd hy
          by_cases hjm : j < m
          ·
           have g0 : decide ((0 : Int) < (j : Int)) = true := decide_eq_true (by omega)
           have g0n : decide (0 < j) = true := decide_eq_true (by omega)
           have hly := off_lo HOF.out hji hy
           obtain ⟨ys, yp, yq⟩ := y
           have HY := Lib.hid HYY
           have C1 := Lib.hid fun W => lessE_any ⟨xs, xp, xq⟩ ⟨ys, yp, yq⟩ W
           rw [hly] at C1
           have g1' : (j : Int) - 1 = (i : Int) := by omega
           have g1w : IntKind.i64.wrap ((j : Int) - 1) = (i : Int) := by rw [g1']; exact IntWalk.i64_in _ (by omega)
           have g1x : IntKind.i64.wrap (i : Int) = (i : Int) := IntWalk.i64_in _ (by omega)
           have g2 : (0 : Int) ≤ (i : Int) := by omega
           have g3 : (i : Int) < (m : Int) := by omega
           have g3n : i < m := by omega
           have hkI : k < ml := hkm
           obtain ⟨z, hz⟩ : ∃ z, seps[j]? = some z := ⟨_, List.getElem?_eq_getElem (by rw [hmS.out.2]; omega)⟩
           obtain ⟨sa', e', hsb', hsi', HZZ⟩ := ent_of HR6.out.rd hz
           injection e' with e'
           subst e'
           have hlz := off_hi HOF.out hz
           obtain ⟨zs, zp, zq⟩ := z
           have HZ := Lib.hid HZZ
           have C2 := Lib.hid fun W => lessE_any ⟨xs, xp, xq⟩ ⟨zs, zp, zq⟩ W
           rw [hlz] at C2
           have d1 : decide ((j : Int) < (m : Int)) = true := decide_eq_true (by omega)
           have d1n : decide (j < m) = true := decide_eq_true (by omega)
           have jm : (j : Int) < (m : Int) := by omega
           have hS : Hid (∀ W, Below wr.heap.size wr W → W.cell? ⟨w.heap.size, 0, none⟩ = some (.slice (some al) ml el) ∧ W.cell? (al.add (k * 3)) = some (.string xs) ∧ W.cell? ⟨(al.add (k * 3)).block, (al.add (k * 3)).off + 1, none⟩ = some (.int .u32 xp) ∧ W.cell? ⟨(al.add (k * 3)).block, (al.add (k * 3)).off + 2, none⟩ = some (.int .u16 xq) ∧ W.cell? (sa.add (i * 3)) = some (.string ys) ∧ W.cell? ⟨(sa.add (i * 3)).block, (sa.add (i * 3)).off + 1, none⟩ = some (.int .u32 yp) ∧ W.cell? ⟨(sa.add (i * 3)).block, (sa.add (i * 3)).off + 2, none⟩ = some (.int .u16 yq) ∧ W.cell? (sa.add (j * 3)) = some (.string zs) ∧ W.cell? ⟨(sa.add (j * 3)).block, (sa.add (j * 3)).off + 1, none⟩ = some (.int .u32 zp) ∧ W.cell? ⟨(sa.add (j * 3)).block, (sa.add (j * 3)).off + 2, none⟩ = some (.int .u16 zq) ∧ Below wr.heap.size wr W) := Lib.hid fun W hW => ⟨(hW.cell (p := ⟨w.heap.size, 0, none⟩) HQ.out.1.t.lt).trans (HQ.out.1.t.cell 0), (HX.out W hW).1, (HX.out W hW).2.1, (HX.out W hW).2.2, (HY.out W hW).1, (HY.out W hW).2.1, (HY.out W hW).2.2, (HZ.out W hW).1, (HZ.out W hW).2.1, (HZ.out W hW).2.2, hW⟩
           clear hz HZZ hlz hly HYY hy hji hj0 hjm
           refine wp_region_held_drew (S := (fun W => W.cell? ⟨w.heap.size, 0, none⟩ = some (.slice (some al) ml el) ∧ W.cell? (al.add (k * 3)) = some (.string xs) ∧ W.cell? ⟨(al.add (k * 3)).block, (al.add (k * 3)).off + 1, none⟩ = some (.int .u32 xp) ∧ W.cell? ⟨(al.add (k * 3)).block, (al.add (k * 3)).off + 2, none⟩ = some (.int .u16 xq) ∧ W.cell? (sa.add (i * 3)) = some (.string ys) ∧ W.cell? ⟨(sa.add (i * 3)).block, (sa.add (i * 3)).off + 1, none⟩ = some (.int .u32 yp) ∧ W.cell? ⟨(sa.add (i * 3)).block, (sa.add (i * 3)).off + 2, none⟩ = some (.int .u16 yq) ∧ W.cell? (sa.add (j * 3)) = some (.string zs) ∧ W.cell? ⟨(sa.add (j * 3)).block, (sa.add (j * 3)).off + 1, none⟩ = some (.int .u32 zp) ∧ W.cell? ⟨(sa.add (j * 3)).block, (sa.add (j * 3)).off + 2, none⟩ = some (.int .u16 zq) ∧ Below wr.heap.size wr W)) (by kernel_rfl) (by exact hS.out _ (Below.drew (Below.refl _ _))) (fun hHeld => ?_)
           try dsimp only at hHeld
           refine zt 0 ?_ rfl (by kernel_rfl) (fun _ _ _ h => h) ⟨rfl, ?_⟩ hHeld ?_
           rotate_left
           focus (intro wx hSw; (try dsimp only at hSw); (try go_split_ands); go_simp; (try with_reducible rfl))
           try simp only [Act.put, za1, za2, za3, za4, za5, za6]
           refine zt 1 ?_ rfl (by kernel_rfl) (fun _ _ _ h => h) ⟨rfl, ?_⟩ hHeld ?_
           rotate_left
           focus (intro wx hSw; (try dsimp only at hSw); (try go_split_ands); go_simp; (try with_reducible rfl))
           try simp only [Act.put, za1, za2, za3, za4, za5, za6]
           refine zt 2 ?_ rfl (by kernel_rfl) (fun _ _ _ h => h) ⟨rfl, ?_⟩ hHeld ?_
           rotate_left
           focus (intro wx hSw; (try dsimp only at hSw); (try go_split_ands); go_simp; (try with_reducible rfl))
           try simp only [Act.put, za1, za2, za3, za4, za5, za6]
           refine zt 3 ?_ rfl (by kernel_rfl) (fun _ _ _ h => h) ⟨rfl, ?_⟩ hHeld ?_
           rotate_left
           focus (intro wx hSw; (try dsimp only at hSw); (try go_split_ands); go_simp; (try with_reducible rfl))
           try simp only [Act.put, za1, za2, za3, za4, za5, za6]
           refine zt 4 ?_ rfl (by kernel_rfl) (fun _ _ _ h => h) ⟨rfl, ?_⟩ hHeld ?_
           rotate_left
           focus (intro wx hSw; (try dsimp only at hSw); (try go_split_ands); go_simp; (try with_reducible rfl))
           try simp only [Act.put, za1, za2, za3, za4, za5, za6]
           refine zt 5 ?_ rfl (by kernel_rfl) (fun _ _ _ h => h) ⟨rfl, ?_⟩ hHeld ?_
           rotate_left
           focus (intro wx hSw; (try dsimp only at hSw); (try go_split_ands); go_simp; (try with_reducible rfl))
           try simp only [Act.put, za1, za2, za3, za4, za5, za6]
           refine zt 6 ?_ rfl (by kernel_rfl) (fun _ _ _ h => h) ⟨rfl, ?_⟩ hHeld ?_
           rotate_left
           focus (intro wx hSw; (try dsimp only at hSw); (try go_split_ands); go_simp; (try with_reducible rfl))
           try simp only [Act.put, za1, za2, za3, za4, za5, za6]
           refine zt 7 ?_ rfl (by kernel_rfl) (fun _ _ _ h => h) ⟨rfl, ?_⟩ hHeld ?_
           rotate_left
           focus (intro wx hSw; (try dsimp only at hSw); (try go_split_ands); go_simp; (try with_reducible rfl))
           try simp only [Act.put, za1, za2, za3, za4, za5, za6]
           refine zt 8 ?_ rfl (by kernel_rfl) (fun _ _ _ h => h) ⟨rfl, ?_⟩ hHeld ?_
           rotate_left
           focus (intro wx hSw; (try dsimp only at hSw); (try go_split_ands); go_simp; (try with_reducible rfl))
           try simp only [Act.put, za1, za2, za3, za4, za5, za6]
           refine zt 9 ?_ rfl (by kernel_rfl) (fun _ _ _ h => h) ⟨rfl, ?_⟩ hHeld ?_
           rotate_left
           focus (intro wx hSw; (try dsimp only at hSw); (try go_split_ands); go_simp; (try with_reducible rfl))
           try simp only [Act.put, za1, za2, za3, za4, za5, za6]
           refine zt 10 ?_ rfl (by kernel_rfl) (fun _ _ _ h => h) ⟨rfl, ?_⟩ hHeld ?_
           rotate_left
           focus (intro wx hSw; (try dsimp only at hSw); (try go_split_ands); go_simp; (try with_reducible rfl))
           try simp only [Act.put, za1, za2, za3, za4, za5, za6]
           refine zt 11 ?_ rfl (by kernel_rfl) (fun _ _ _ h => h) ⟨rfl, ?_⟩ hHeld ?_
           rotate_left
           focus (intro wx hSw; (try dsimp only at hSw); (try go_split_ands); go_simp; (try with_reducible rfl))
           try simp only [Act.put, za1, za2, za3, za4, za5, za6]
           refine zt 12 ?_ rfl (by kernel_rfl) (fun _ _ _ h => h) ⟨rfl, ?_⟩ hHeld ?_
           rotate_left
           focus (intro wx hSw; (try dsimp only at hSw); (try go_split_ands); go_simp; (try with_reducible rfl))
           try simp only [Act.put, za1, za2, za3, za4, za5, za6]
           refine wpAnyH_ready (rs := [13]) (by kernel_rfl) (by simp) (AllReadyH.cons rfl (fun K hK => ?_) AllReadyH.nil)
           go_simp
           (first | ((with_reducible refine (C1.out _).mono ?_); rintro e w1 ⟨rfl, hb1⟩) | ((with_reducible refine (C2.out _).mono ?_); rintro e w2 ⟨rfl, hb2⟩))
           go_wp2_with fail
           refine hK.out _ _ ?_ (fun hHeld => ?_)
           · ((try dsimp only); (try dsimp only at hHeld); (first | exact hS.out _ (by (with_reducible repeat (first | exact Below.refl _ _ | exact hb2 | exact hb1 | refine bto0 ?_ hb2 | refine bto0 ?_ hb1 | refine bdr ?_ _ | refine Below.drew ?_ | refine ball ?_ _))) | assumption))
           clear hK K
           try dsimp only at hHeld
           try simp only [Act.put, za1, za2, za3, za4, za5, za6]
           refine zt 14 ?_ rfl (by kernel_rfl) (fun _ _ _ h => h) ⟨rfl, ?_⟩ hHeld ?_
           rotate_left
           focus (intro wx hSw; (try dsimp only at hSw); (try go_split_ands); go_simp; (try with_reducible rfl))
           try simp only [Act.put, za1, za2, za3, za4, za5, za6]
           refine zt 15 ?_ rfl (by kernel_rfl) (fun _ _ _ h => h) ⟨rfl, ?_⟩ hHeld ?_
           rotate_left
           focus (intro wx hSw; (try dsimp only at hSw); (try go_split_ands); go_simp; (try with_reducible rfl))
           try simp only [Act.put, za1, za2, za3, za4, za5, za6]
           refine zt 16 ?_ rfl (by kernel_rfl) (fun _ _ _ h => h) ⟨rfl, ?_⟩ hHeld ?_
           rotate_left
           focus (intro wx hSw; (try dsimp only at hSw); (try go_split_ands); go_simp; (try with_reducible rfl))
           try simp only [Act.put, za1, za2, za3, za4, za5, za6]
           refine zt 17 ?_ rfl (by kernel_rfl) (fun _ _ _ h => h) ⟨rfl, ?_⟩ hHeld ?_
           rotate_left
           focus (intro wx hSw; (try dsimp only at hSw); (try go_split_ands); go_simp; (try with_reducible rfl))
           try simp only [Act.put, za1, za2, za3, za4, za5, za6]
           refine zt 18 ?_ rfl (by kernel_rfl) (fun _ _ _ h => h) ⟨rfl, ?_⟩ hHeld ?_
           rotate_left
           focus (intro wx hSw; (try dsimp only at hSw); (try go_split_ands); go_simp; (try with_reducible rfl))
           try simp only [Act.put, za1, za2, za3, za4, za5, za6]
           refine zt 19 ?_ rfl (by kernel_rfl) (fun _ _ _ h => h) ⟨rfl, ?_⟩ hHeld ?_
           rotate_left
           focus (intro wx hSw; (try dsimp only at hSw); (try go_split_ands); go_simp; (try with_reducible rfl))
           try simp only [Act.put, za1, za2, za3, za4, za5, za6]
           refine zt 20 ?_ rfl (by kernel_rfl) (fun _ _ _ h => h) ⟨rfl, ?_⟩ hHeld ?_
           rotate_left
           focus (intro wx hSw; (try dsimp only at hSw); (try go_split_ands); go_simp; (try with_reducible rfl))
           try simp only [Act.put, za1, za2, za3, za4, za5, za6]
           refine zt 21 ?_ rfl (by kernel_rfl) (fun _ _ _ h => h) ⟨rfl, ?_⟩ hHeld ?_
           rotate_left
           focus (intro wx hSw; (try dsimp only at hSw); (try go_split_ands); go_simp; (try with_reducible rfl))
           try simp only [Act.put, za1, za2, za3, za4, za5, za6]
           refine zt 22 ?_ rfl (by kernel_rfl) (fun _ _ _ h => h) ⟨rfl, ?_⟩ hHeld ?_
           rotate_left
           focus (intro wx hSw; (try dsimp only at hSw); (try go_split_ands); go_simp; (try with_reducible rfl))
           try simp only [Act.put, za1, za2, za3, za4, za5, za6]
           refine zt 23 ?_ rfl (by kernel_rfl) (fun _ _ _ h => h) ⟨rfl, ?_⟩ hHeld ?_
           rotate_left
           focus (intro wx hSw; (try dsimp only at hSw); (try go_split_ands); go_simp; (try with_reducible rfl))
           try simp only [Act.put, za1, za2, za3, za4, za5, za6]
           refine zt 24 ?_ rfl (by kernel_rfl) (fun _ _ _ h => h) ⟨rfl, ?_⟩ hHeld ?_
           rotate_left
           focus (intro wx hSw; (try dsimp only at hSw); (try go_split_ands); go_simp; (try with_reducible rfl))
           try simp only [Act.put, za1, za2, za3, za4, za5, za6]
           refine zt 25 ?_ rfl (by kernel_rfl) (fun _ _ _ h => h) ⟨rfl, ?_⟩ hHeld ?_
           rotate_left
           focus (intro wx hSw; (try dsimp only at hSw); (try go_split_ands); go_simp; (try with_reducible rfl))
           try simp only [Act.put, za1, za2, za3, za4, za5, za6]
           refine zt 26 ?_ rfl (by kernel_rfl) (fun _ _ _ h => h) ⟨rfl, ?_⟩ hHeld ?_
           rotate_left
           focus (intro wx hSw; (try dsimp only at hSw); (try go_split_ands); go_simp; (try with_reducible rfl))
           try simp only [Act.put, za1, za2, za3, za4, za5, za6]
           refine zt 27 ?_ rfl (by kernel_rfl) (fun _ _ _ h => h) ⟨rfl, ?_⟩ hHeld ?_
           rotate_left
           focus (intro wx hSw; (try dsimp only at hSw); (try go_split_ands); go_simp; (try with_reducible rfl))
           try simp only [Act.put, za1, za2, za3, za4, za5, za6]
           refine zt 28 ?_ rfl (by kernel_rfl) (fun _ _ _ h => h) ⟨rfl, ?_⟩ hHeld ?_
           rotate_left
           focus (intro wx hSw; (try dsimp only at hSw); (try go_split_ands); go_simp; (try with_reducible rfl))
           try simp only [Act.put, za1, za2, za3, za4, za5, za6]
           refine zt 29 ?_ rfl (by kernel_rfl) (fun _ _ _ h => h) ⟨rfl, ?_⟩ hHeld ?_
           rotate_left
           focus (intro wx hSw; (try dsimp only at hSw); (try go_split_ands); go_simp; (try with_reducible rfl))
           try simp only [Act.put, za1, za2, za3, za4, za5, za6]
           refine wpAnyH_ready (rs := [30]) (by kernel_rfl) (by simp) (AllReadyH.cons rfl (fun K hK => ?_) AllReadyH.nil)
           go_simp
           (first | ((with_reducible refine (C1.out _).mono ?_); rintro e w1 ⟨rfl, hb1⟩) | ((with_reducible refine (C2.out _).mono ?_); rintro e w2 ⟨rfl, hb2⟩))
           go_wp2_with fail
           refine hK.out _ _ ?_ (fun hHeld => ?_)
           · ((try dsimp only); (try dsimp only at hHeld); (first | exact hS.out _ (by (with_reducible repeat (first | exact Below.refl _ _ | exact hb2 | exact hb1 | refine bto0 ?_ hb2 | refine bto0 ?_ hb1 | refine bdr ?_ _ | refine Below.drew ?_ | refine ball ?_ _))) | assumption))
           clear hK K
           try dsimp only at hHeld
           try simp only [Act.put, za1, za2, za3, za4, za5, za6]
           refine zt 31 ?_ rfl (by kernel_rfl) (fun _ _ _ h => h) ⟨rfl, ?_⟩ hHeld ?_
           rotate_left
           focus (intro wx hSw; (try dsimp only at hSw); (try go_split_ands); go_simp; (try with_reducible rfl))
           try simp only [Act.put, za1, za2, za3, za4, za5, za6]
           refine zt 32 ?_ rfl (by kernel_rfl) (fun _ _ _ h => h) ⟨rfl, ?_⟩ hHeld ?_
           rotate_left
           focus (intro wx hSw; (try dsimp only at hSw); (try go_split_ands); go_simp; (try with_reducible rfl))
           try simp only [Act.put, za1, za2, za3, za4, za5, za6]
           refine zt 33 ?_ rfl (by kernel_rfl) (fun _ _ _ h => h) ⟨rfl, ?_⟩ hHeld ?_
           rotate_left
           focus (intro wx hSw; (try dsimp only at hSw); (try go_split_ands); go_simp; (try with_reducible rfl))
           try simp only [Act.put, za1, za2, za3, za4, za5, za6]
           refine wpAnyH_done (by kernel_rfl) ?_ _
           go_wp2_with fail
           go_roundw
           case rel => exact ⟨k + 1, by go_num, by omega, by omega, HQ.out.2.trans ((show Below wr.heap.size wr _ from by (with_reducible repeat (first | exact Below.refl _ _ | exact hb2 | exact hb1 | refine bto0 ?_ hb2 | refine bto0 ?_ hb1 | refine bdr ?_ _ | refine Below.drew ?_ | refine ball ?_ _))).mono HQ.out.2.size)⟩
           case measure => simp [intOf]; omega
          ·
           have g0 : decide ((0 : Int) < (j : Int)) = true := decide_eq_true (by omega)
           have g0n : decide (0 < j) = true := decide_eq_true (by omega)
           have hly := off_lo HOF.out hji hy
           obtain ⟨ys, yp, yq⟩ := y
           have HY := Lib.hid HYY
           have C1 := Lib.hid fun W => lessE_any ⟨xs, xp, xq⟩ ⟨ys, yp, yq⟩ W
           rw [hly] at C1
           have g1' : (j : Int) - 1 = (i : Int) := by omega
           have g1w : IntKind.i64.wrap ((j : Int) - 1) = (i : Int) := by rw [g1']; exact IntWalk.i64_in _ (by omega)
           have g1x : IntKind.i64.wrap (i : Int) = (i : Int) := IntWalk.i64_in _ (by omega)
           have g2 : (0 : Int) ≤ (i : Int) := by omega
           have g3 : (i : Int) < (m : Int) := by omega
           have g3n : i < m := by omega
           have hkI : k < ml := hkm
           have d1 : decide ((j : Int) < (m : Int)) = false := decide_eq_false (by omega)
           have d1n : decide (j < m) = false := decide_eq_false (by omega)
           have hS : Hid (∀ W, Below wr.heap.size wr W → W.cell? ⟨w.heap.size, 0, none⟩ = some (.slice (some al) ml el) ∧ W.cell? (al.add (k * 3)) = some (.string xs) ∧ W.cell? ⟨(al.add (k * 3)).block, (al.add (k * 3)).off + 1, none⟩ = some (.int .u32 xp) ∧ W.cell? ⟨(al.add (k * 3)).block, (al.add (k * 3)).off + 2, none⟩ = some (.int .u16 xq) ∧ W.cell? (sa.add (i * 3)) = some (.string ys) ∧ W.cell? ⟨(sa.add (i * 3)).block, (sa.add (i * 3)).off + 1, none⟩ = some (.int .u32 yp) ∧ W.cell? ⟨(sa.add (i * 3)).block, (sa.add (i * 3)).off + 2, none⟩ = some (.int .u16 yq) ∧ Below wr.heap.size wr W) := Lib.hid fun W hW => ⟨(hW.cell (p := ⟨w.heap.size, 0, none⟩) HQ.out.1.t.lt).trans (HQ.out.1.t.cell 0), (HX.out W hW).1, (HX.out W hW).2.1, (HX.out W hW).2.2, (HY.out W hW).1, (HY.out W hW).2.1, (HY.out W hW).2.2, hW⟩
           clear hly HYY hy hji hj0 hjm
           refine wp_region_held_drew (S := (fun W => W.cell? ⟨w.heap.size, 0, none⟩ = some (.slice (some al) ml el) ∧ W.cell? (al.add (k * 3)) = some (.string xs) ∧ W.cell? ⟨(al.add (k * 3)).block, (al.add (k * 3)).off + 1, none⟩ = some (.int .u32 xp) ∧ W.cell? ⟨(al.add (k * 3)).block, (al.add (k * 3)).off + 2, none⟩ = some (.int .u16 xq) ∧ W.cell? (sa.add (i * 3)) = some (.string ys) ∧ W.cell? ⟨(sa.add (i * 3)).block, (sa.add (i * 3)).off + 1, none⟩ = some (.int .u32 yp) ∧ W.cell? ⟨(sa.add (i * 3)).block, (sa.add (i * 3)).off + 2, none⟩ = some (.int .u16 yq) ∧ Below wr.heap.size wr W)) (by kernel_rfl) (by exact hS.out _ (Below.drew (Below.refl _ _))) (fun hHeld => ?_)
           try dsimp only at hHeld
           refine zt 0 ?_ rfl (by kernel_rfl) (fun _ _ _ h => h) ⟨rfl, ?_⟩ hHeld ?_
           rotate_left
           focus (intro wx hSw; (try dsimp only at hSw); (try go_split_ands); go_simp; (try with_reducible rfl))
           try simp only [Act.put, za1, za2, za3, za4, za5, za6]
           refine zt 1 ?_ rfl (by kernel_rfl) (fun _ _ _ h => h) ⟨rfl, ?_⟩ hHeld ?_
           rotate_left
           focus (intro wx hSw; (try dsimp only at hSw); (try go_split_ands); go_simp; (try with_reducible rfl))
           try simp only [Act.put, za1, za2, za3, za4, za5, za6]
           refine zt 2 ?_ rfl (by kernel_rfl) (fun _ _ _ h => h) ⟨rfl, ?_⟩ hHeld ?_
           rotate_left
           focus (intro wx hSw; (try dsimp only at hSw); (try go_split_ands); go_simp; (try with_reducible rfl))
           try simp only [Act.put, za1, za2, za3, za4, za5, za6]
           refine zt 3 ?_ rfl (by kernel_rfl) (fun _ _ _ h => h) ⟨rfl, ?_⟩ hHeld ?_
           rotate_left
           focus (intro wx hSw; (try dsimp only at hSw); (try go_split_ands); go_simp; (try with_reducible rfl))
           try simp only [Act.put, za1, za2, za3, za4, za5, za6]
           refine zt 4 ?_ rfl (by kernel_rfl) (fun _ _ _ h => h) ⟨rfl, ?_⟩ hHeld ?_
           rotate_left
           focus (intro wx hSw; (try dsimp only at hSw); (try go_split_ands); go_simp; (try with_reducible rfl))
           try simp only [Act.put, za1, za2, za3, za4, za5, za6]
           refine zt 5 ?_ rfl (by kernel_rfl) (fun _ _ _ h => h) ⟨rfl, ?_⟩ hHeld ?_
           rotate_left
           focus (intro wx hSw; (try dsimp only at hSw); (try go_split_ands); go_simp; (try with_reducible rfl))
           try simp only [Act.put, za1, za2, za3, za4, za5, za6]
           refine zt 6 ?_ rfl (by kernel_rfl) (fun _ _ _ h => h) ⟨rfl, ?_⟩ hHeld ?_
           rotate_left
           focus (intro wx hSw; (try dsimp only at hSw); (try go_split_ands); go_simp; (try with_reducible rfl))
           try simp only [Act.put, za1, za2, za3, za4, za5, za6]
           refine zt 7 ?_ rfl (by kernel_rfl) (fun _ _ _ h => h) ⟨rfl, ?_⟩ hHeld ?_
           rotate_left
           focus (intro wx hSw; (try dsimp only at hSw); (try go_split_ands); go_simp; (try with_reducible rfl))
           try simp only [Act.put, za1, za2, za3, za4, za5, za6]
           refine zt 8 ?_ rfl (by kernel_rfl) (fun _ _ _ h => h) ⟨rfl, ?_⟩ hHeld ?_
           rotate_left
           focus (intro wx hSw; (try dsimp only at hSw); (try go_split_ands); go_simp; (try with_reducible rfl))
           try simp only [Act.put, za1, za2, za3, za4, za5, za6]
           refine zt 9 ?_ rfl (by kernel_rfl) (fun _ _ _ h => h) ⟨rfl, ?_⟩ hHeld ?_
           rotate_left
           focus (intro wx hSw; (try dsimp only at hSw); (try go_split_ands); go_simp; (try with_reducible rfl))
           try simp only [Act.put, za1, za2, za3, za4, za5, za6]
           refine zt 10 ?_ rfl (by kernel_rfl) (fun _ _ _ h => h) ⟨rfl, ?_⟩ hHeld ?_
           rotate_left
           focus (intro wx hSw; (try dsimp only at hSw); (try go_split_ands); go_simp; (try with_reducible rfl))
           try simp only [Act.put, za1, za2, za3, za4, za5, za6]
           refine zt 11 ?_ rfl (by kernel_rfl) (fun _ _ _ h => h) ⟨rfl, ?_⟩ hHeld ?_
           rotate_left
           focus (intro wx hSw; (try dsimp only at hSw); (try go_split_ands); go_simp; (try with_reducible rfl))
           try simp only [Act.put, za1, za2, za3, za4, za5, za6]
           refine zt 12 ?_ rfl (by kernel_rfl) (fun _ _ _ h => h) ⟨rfl, ?_⟩ hHeld ?_
           rotate_left
           focus (intro wx hSw; (try dsimp only at hSw); (try go_split_ands); go_simp; (try with_reducible rfl))
           try simp only [Act.put, za1, za2, za3, za4, za5, za6]
           refine wpAnyH_ready (rs := [13]) (by kernel_rfl) (by simp) (AllReadyH.cons rfl (fun K hK => ?_) AllReadyH.nil)
           go_simp
           ((with_reducible refine (C1.out _).mono ?_); rintro e w1 ⟨rfl, hb1⟩)
           go_wp2_with fail
           refine hK.out _ _ ?_ (fun hHeld => ?_)
           · ((try dsimp only); (try dsimp only at hHeld); (first | exact hS.out _ (by (with_reducible repeat (first | exact Below.refl _ _ | exact hb1 | refine bto0 ?_ hb1 | refine bdr ?_ _ | refine Below.drew ?_ | refine ball ?_ _))) | assumption))
           clear hK K
           try dsimp only at hHeld
           try simp only [Act.put, za1, za2, za3, za4, za5, za6]
           refine zt 14 ?_ rfl (by kernel_rfl) (fun _ _ _ h => h) ⟨rfl, ?_⟩ hHeld ?_
           rotate_left
           focus (intro wx hSw; (try dsimp only at hSw); (try go_split_ands); go_simp; (try with_reducible rfl))
           try simp only [Act.put, za1, za2, za3, za4, za5, za6]
           refine zt 15 ?_ rfl (by kernel_rfl) (fun _ _ _ h => h) ⟨rfl, ?_⟩ hHeld ?_
           rotate_left
           focus (intro wx hSw; (try dsimp only at hSw); (try go_split_ands); go_simp; (try with_reducible rfl))
           try simp only [Act.put, za1, za2, za3, za4, za5, za6]
           refine zt 16 ?_ rfl (by kernel_rfl) (fun _ _ _ h => h) ⟨rfl, ?_⟩ hHeld ?_
           rotate_left
           focus (intro wx hSw; (try dsimp only at hSw); (try go_split_ands); go_simp; (try with_reducible rfl))
           try simp only [Act.put, za1, za2, za3, za4, za5, za6]
           refine zt 17 ?_ rfl (by kernel_rfl) (fun _ _ _ h => h) ⟨rfl, ?_⟩ hHeld ?_
           rotate_left
           focus (intro wx hSw; (try dsimp only at hSw); (try go_split_ands); go_simp; (try with_reducible rfl))
           try simp only [Act.put, za1, za2, za3, za4, za5, za6]
           refine zt 18 ?_ rfl (by kernel_rfl) (fun _ _ _ h => h) ⟨rfl, ?_⟩ hHeld ?_
           rotate_left
           focus (intro wx hSw; (try dsimp only at hSw); (try go_split_ands); go_simp; (try with_reducible rfl))
           try simp only [Act.put, za1, za2, za3, za4, za5, za6]
           refine zt 19 ?_ rfl (by kernel_rfl) (fun _ _ _ h => h) ⟨rfl, ?_⟩ hHeld ?_
           rotate_left
           focus (intro wx hSw; (try dsimp only at hSw); (try go_split_ands); go_simp; (try with_reducible rfl))
           try simp only [Act.put, za1, za2, za3, za4, za5, za6]
           refine zt 20 ?_ rfl (by kernel_rfl) (fun _ _ _ h => h) ⟨rfl, ?_⟩ hHeld ?_
           rotate_left
           focus (intro wx hSw; (try dsimp only at hSw); (try go_split_ands); go_simp; (try with_reducible rfl))
           try simp only [Act.put, za1, za2, za3, za4, za5, za6]
           refine wpAnyH_take (i := 21) (v := undef) rfl (by kernel_rfl) (by kernel_rfl) (by kernel_rfl) (fun _ _ _ h => h) (Or.inr ⟨rfl, rfl⟩) hHeld ?_
           try simp only [Act.put, za1, za2, za3, za4, za5, za6]
           refine wpAnyH_take (i := 22) (v := undef) rfl (by kernel_rfl) (by kernel_rfl) (by kernel_rfl) (fun _ _ _ h => h) (Or.inr ⟨rfl, rfl⟩) hHeld ?_
           try simp only [Act.put, za1, za2, za3, za4, za5, za6]
           refine wpAnyH_take (i := 23) (v := undef) rfl (by kernel_rfl) (by kernel_rfl) (by kernel_rfl) (fun _ _ _ h => h) (Or.inr ⟨rfl, rfl⟩) hHeld ?_
           try simp only [Act.put, za1, za2, za3, za4, za5, za6]
           refine wpAnyH_take (i := 24) (v := undef) rfl (by kernel_rfl) (by kernel_rfl) (by kernel_rfl) (fun _ _ _ h => h) (Or.inr ⟨rfl, rfl⟩) hHeld ?_
           try simp only [Act.put, za1, za2, za3, za4, za5, za6]
           refine wpAnyH_take (i := 25) (v := undef) rfl (by kernel_rfl) (by kernel_rfl) (by kernel_rfl) (fun _ _ _ h => h) (Or.inr ⟨rfl, rfl⟩) hHeld ?_
           try simp only [Act.put, za1, za2, za3, za4, za5, za6]
           refine wpAnyH_take (i := 26) (v := undef) rfl (by kernel_rfl) (by kernel_rfl) (by kernel_rfl) (fun _ _ _ h => h) (Or.inr ⟨rfl, rfl⟩) hHeld ?_
           try simp only [Act.put, za1, za2, za3, za4, za5, za6]
           refine wpAnyH_take (i := 27) (v := undef) rfl (by kernel_rfl) (by kernel_rfl) (by kernel_rfl) (fun _ _ _ h => h) (Or.inr ⟨rfl, rfl⟩) hHeld ?_
           try simp only [Act.put, za1, za2, za3, za4, za5, za6]
           refine wpAnyH_take (i := 28) (v := undef) rfl (by kernel_rfl) (by kernel_rfl) (by kernel_rfl) (fun _ _ _ h => h) (Or.inr ⟨rfl, rfl⟩) hHeld ?_
           try simp only [Act.put, za1, za2, za3, za4, za5, za6]
           refine wpAnyH_take (i := 29) (v := undef) rfl (by kernel_rfl) (by kernel_rfl) (by kernel_rfl) (fun _ _ _ h => h) (Or.inr ⟨rfl, rfl⟩) hHeld ?_
           try simp only [Act.put, za1, za2, za3, za4, za5, za6]
           refine wpAnyH_take (i := 30) (v := undef) rfl (by kernel_rfl) (by kernel_rfl) (by kernel_rfl) (fun _ _ _ h => h) (Or.inr ⟨rfl, rfl⟩) hHeld ?_
           try simp only [Act.put, za1, za2, za3, za4, za5, za6]
           refine wpAnyH_take (i := 31) (v := undef) rfl (by kernel_rfl) (by kernel_rfl) (by kernel_rfl) (fun _ _ _ h => h) (Or.inr ⟨rfl, rfl⟩) hHeld ?_
           try simp only [Act.put, za1, za2, za3, za4, za5, za6]
           refine zt 32 ?_ rfl (by kernel_rfl) (fun _ _ _ h => h) ⟨rfl, ?_⟩ hHeld ?_
           rotate_left
           focus (intro wx hSw; (try dsimp only at hSw); (try go_split_ands); go_simp; (try with_reducible rfl))
           try simp only [Act.put, za1, za2, za3, za4, za5, za6]
           refine zt 33 ?_ rfl (by kernel_rfl) (fun _ _ _ h => h) ⟨rfl, ?_⟩ hHeld ?_
           rotate_left
           focus (intro wx hSw; (try dsimp only at hSw); (try go_split_ands); go_simp; (try with_reducible rfl))
           try simp only [Act.put, za1, za2, za3, za4, za5, za6]
           refine wpAnyH_done (by kernel_rfl) ?_ _
           go_wp2_with fail
           go_roundw
           case rel => exact ⟨k + 1, by go_num, by omega, by omega, HQ.out.2.trans ((show Below wr.heap.size wr _ from by (with_reducible repeat (first | exact Below.refl _ _ | exact hb1 | refine bto0 ?_ hb1 | refine bdr ?_ _ | refine Below.drew ?_ | refine ball ?_ _))).mono HQ.out.2.size)⟩
           case measure => simp [intOf]; omega
      · have kI1 : (ml : Int) ≤ (k : Int) := by omega
        have HQ := hHQ
        clear hBk hHQ
        go_wp2_with fail
        go_roundw
        case rel => exact ⟨j + 1, _, _, by go_num, by omega, HQ.out.1, HR6.out, HB1.out.2.below HQ.out.2, HG.out.2.2.1⟩
        case measure => simp [intOf]; omega
  · have hjm : j = m + 1 := by omega
    have hst : st' = s := by
     rw [hjm, List.drop_eq_nil_of_le (by rw [HKS.out]; exact Nat.le_refl _)] at hres
     injection hres
    have j1 : (m : Int) + 1 ≤ (j : Int) := by omega
    have a0 : wr.cell? ⟨w.heap.size, 0, none⟩ = some (.slice Al nl cl) := hB'.t.cell 0
    have a1 : wr.cell? ⟨w.heap.size, 1, none⟩ = some (.slice Af nf cf) := hB'.t.cell 1
    have a2 : wr.cell? ⟨w.heap.size, 2, none⟩ = some (.slice Ax nx cx) := hB'.t.cell 2
    have a3 : wr.cell? ⟨w.heap.size, 3, none⟩ = some (.slice Ap np cp) := hB'.t.cell 3
    have a4 : wr.cell? ⟨w.heap.size, 4, none⟩ = some (.int .i64 (hi' : Int)) := by rw [← hhi']; exact hB'.t.cell 4
    have a5 : wr.cell? ⟨w.heap.size, 5, none⟩ = some (.bool false) := hB'.t.cell 5
    have F0 := hB'.r.frozen 0
    have F1 := hB'.r.frozen 1
    have F2 := hB'.r.frozen 2
    have F3 := hB'.r.frozen 3
    have F4 := hB'.r.frozen 4
    have F5 := hB'.r.frozen 5
    have r0 : wr.cell? ⟨w.heap.size + 1 + 1, 0, none⟩ = some (.slice none 0 0) := hB'.r.cell 0
    have r1 : wr.cell? ⟨w.heap.size + 1 + 1, 1, none⟩ = some (.slice none 0 0) := hB'.r.cell 1
    have r2 : wr.cell? ⟨w.heap.size + 1 + 1, 2, none⟩ = some (.slice none 0 0) := hB'.r.cell 2
    have r3 : wr.cell? ⟨w.heap.size + 1 + 1, 3, none⟩ = some (.slice none 0 0) := hB'.r.cell 3
    have r4 : wr.cell? ⟨w.heap.size + 1 + 1, 4, none⟩ = some (.int .i64 0) := hB'.r.cell 4
    have r5 : wr.cell? ⟨w.heap.size + 1 + 1, 5, none⟩ = some (.bool false) := hB'.r.cell 5
    have mr := hB'.r.lt
    have HE := Lib.hid (And.intro hB' (And.intro hst hhi'))
    clear hB' hR6 hR5 hres hst hhi' hjm
    go_wp2_with fail
    obtain ⟨kk, kr⟩ := HE.out.1.fin (.slice Al nl cl) (.slice Af nf cf) (.slice Ax nx cx) (.slice Ap np cp) (.int .i64 (hi' : Int)) (.bool false) _ rfl
    refine tb_end (q := ⟨⟨Al, nl, cl⟩, ⟨Af, nf, cf⟩, ⟨Ax, nx, cx⟩, ⟨Ap, np, cp⟩⟩) (hi := hi') (b := false) kk rfl ?_
    rw [HE.out.2.1, ← HE.out.2.2] at kr
    rw [← HE.out.2.2, HE.out.2.1]
    rw [HE.out.2.1] at kr
    exact kr
end
end
end Go.Proofs.YtebobcbaloddaaaGreat
namespace Go.Proofs.YtebobcbaloddaaaGreat
section
set_option linter.unusedSimpArgs false
set_option linter.unusedVariables false
open Go.RowKit Go.Maps
theorem rbelow_any {base n : Nat} {vd : Value} {ps : List (List UInt8)} {T : List Bool} (hn : n ≤ 5000) : ∀ (f deep : Nat) (W : World) (q : Q4) (st s : RS) (page : Nat), base ≤ W.heap.size → TS W base q st → RD W base n vd ps T → page < 4294967296 → rbP ps f page deep st = some s → s.ok →
 Calls Tryz.prog 70 #[q.v st.hi false, vd, .int .u32 page, .int .i64 (deep : Nat)] W (RetT base q W s)
 | 0, _, _, _, _, _, _, _, _, _, _, h, _ => by cases h
 | f + 1, deep, W, q, st, s, page, hB, hT, hD, hp, hs, hok => by
   have hs' := hs
   rw [rbP] at hs'
   split at hs'
   · cases hs'
   · cases hpg : ps[page]? with
     | none => rw [hpg] at hs'; cases hs'
     | some L =>
       rw [hpg] at hs'
       simp only at hs'
       cases hpc : rdPg L with
       | none => rw [hpc] at hs'; cases hs'
       | some pc =>
         cases pc with
         | leaf N es => exact rbelow_leaf f deep hn hB hT hD page hp hpg hpc hs hok
         | inner cc prs => exact rbelow_inner f deep hn hB (fun W q st s page h1 h2 h3 h4 h5 h6 => rbelow_any hn f (deep + 1) W q st s page h1 h2 h3 h4 h5 h6) hT hD page hp hpg hpc hs hok
theorem nx_at (F : List Nat) (j x : Nat) (h : (F.tail ++ [0])[j]? = some x) : (∀ y, F[j + 1]? = some y → x = y) ∧ (F.length ≤ j + 1 → x = 0) := by
 constructor
 · intro y hy
   have hlt : j + 1 < F.length := lt_of_at hy
   rw [List.getElem?_append_left (by rw [List.length_tail]; omega), List.getElem?_tail, hy] at h
   injection h with h
   exact h.symm
 · intro hl
   have hj := lt_of_at h
   rw [List.length_append, List.length_tail, List.length_singleton] at hj
   rw [List.getElem?_append_right (by rw [List.length_tail]; omega)] at h
   have : j - F.tail.length = 0 := by rw [List.length_tail]; omega
   rw [this] at h
   injection h with h
   exact h.symm
theorem TS.fin6 {V : World} {base R : Nat} {q : Q4} {st : RS} {cs : Array Value} (h : TS V base q st) (hR : Blk V R 95 cs) (u0 u1 u2 u3 u4 u5 : Value) :
 TS ((((((V.setCell ⟨R, 0, none⟩ u0).setCell ⟨R, 1, none⟩ u1).setCell ⟨R, 2, none⟩ u2).setCell ⟨R, 3, none⟩ u3).setCell ⟨R, 4, none⟩ u4).setCell ⟨R, 5, none⟩ u5) base q st := by
 have s : ∀ {V : World} {cs : Array Value} (i : Nat) (u : Value), TS V base q st → Blk V R 95 cs → TS (V.setCell ⟨R, i, none⟩ u) base q st := fun i u hts hb => hts.far hb (by decide) (by decide) i u
 exact s 5 u5 (s 4 u4 (s 3 u3 (s 2 u2 (s 1 u1 (s 0 u0 h hR) (hR.set_ 0 u0)) ((hR.set_ 0 u0).set_ 1 u1)) (((hR.set_ 0 u0).set_ 1 u1).set_ 2 u2)) ((((hR.set_ 0 u0).set_ 1 u1).set_ 2 u2).set_ 3 u3)) (((((hR.set_ 0 u0).set_ 1 u1).set_ 2 u2).set_ 3 u3).set_ 4 u4)
theorem below_fin6 {V W : World} {B R : Nat} (h : Below B W V) (hR : B ≤ R) (u0 u1 u2 u3 u4 u5 : Value) :
 Below B W ((((((V.setCell ⟨R, 0, none⟩ u0).setCell ⟨R, 1, none⟩ u1).setCell ⟨R, 2, none⟩ u2).setCell ⟨R, 3, none⟩ u3).setCell ⟨R, 4, none⟩ u4).setCell ⟨R, 5, none⟩ u5) :=
 (((((h.setCell (p := ⟨R, 0, none⟩) hR u0).setCell (p := ⟨R, 1, none⟩) hR u1).setCell (p := ⟨R, 2, none⟩) hR u2).setCell (p := ⟨R, 3, none⟩) hR u3).setCell (p := ⟨R, 4, none⟩) hR u4).setCell (p := ⟨R, 5, none⟩) hR u5
theorem rc_end {W : World} {R : Nat} {tm : Array Value} {Q : Ending → World → Prop} {q : Q4} {hi : Nat} {b : Bool} (hR : Blk W R 95 (q.arr hi b))
 (h4 : tm[4]? = some (.pointer (some ⟨R, 0, none⟩))) (h : Q (.returned (q.v hi b)) W) :
 bodyPost Tryz.prog Tryz.f38 Q Exit.ret { tmps := tm, defers := [] } W := by
 have q0 : W.cell? ⟨R, 0, none⟩ = _ := hR.cell 0
 have q1 : W.cell? ⟨R, 1, none⟩ = _ := hR.cell 1
 have q2 : W.cell? ⟨R, 2, none⟩ = _ := hR.cell 2
 have q3 : W.cell? ⟨R, 3, none⟩ = _ := hR.cell 3
 have q4 : W.cell? ⟨R, 4, none⟩ = _ := hR.cell 4
 have q5 : W.cell? ⟨R, 5, none⟩ = _ := hR.cell 5
 exact bodyPost_ret (v := q.v hi b) (by simp [results, Tryz.results38, go_sem, h4, q0, q1, q2, q3, q4, q5]) rfl h
def RetC (w : World) (s : RS) (e : Ending) (w' : World) : Prop := ∃ q : Q4, e = .returned (q.v s.hi false) ∧ TS w' w.heap.size q s ∧ Below w.heap.size w w'
theorem fin_c {w V : World} {s : RS} {q : Q4} {cs : Array Value} (hR : Blk V (w.heap.size + 1) 95 cs) (ht : TS V w.heap.size q s) (hb : Below w.heap.size w V) (u0 u1 u2 u3 u4 u5 : Value) (W2 : World) (hW : W2 = ((((((V.setCell ⟨w.heap.size + 1, 0, none⟩ u0).setCell ⟨w.heap.size + 1, 1, none⟩ u1).setCell ⟨w.heap.size + 1, 2, none⟩ u2).setCell ⟨w.heap.size + 1, 3, none⟩ u3).setCell ⟨w.heap.size + 1, 4, none⟩ u4).setCell ⟨w.heap.size + 1, 5, none⟩ u5)) (hcs : cs.size = 6) :
 Blk W2 (w.heap.size + 1) 95 #[u0, u1, u2, u3, u4, u5] ∧ RetC w s (.returned (q.v s.hi false)) W2 := by
 subst hW
 obtain ⟨l⟩ := cs
 match l, hcs with
 | [a0, a1, a2, a3, a4, a5], _ => exact ⟨set6 hR, q, rfl, ht.fin6 hR u0 u1 u2 u3 u4 u5, below_fin6 hb (Nat.le_succ _) u0 u1 u2 u3 u4 u5⟩
set_option maxRecDepth 100000 in
set_option maxHeartbeats 4000000 in
theorem rcheck_any {w : World} {n : Nat} {vd : Value} {ps : List (List UInt8)} {T : List Bool} {s : RS} {f root : Nat} (hn : n ≤ 5000) (hd : RD w w.heap.size n vd ps T) (hr : root < 4294967296) (hs : rbP ps f root 1 rs0 = some s) (hok : s.ok) (hX : s.X = s.F.tail ++ [0]) (hri : riseE s.L = true) :
 Calls Tryz.prog 38 #[vd, .int .u32 root] w (RetC w s) := by
 obtain ⟨A, c, A', c', rfl, hr1, hr2, hc, hc'⟩ := hd
 have hd : RD w w.heap.size n (.agg #[.slice A n c, .slice A' n c']) ps T := ⟨A, c, A', c', rfl, hr1, hr2, hc, hc'⟩
 have hb := ball (ball (Below.refl w.heap.size w) (.cells #[.slice A n c, .slice A' n c'] 90)) (.cells #[.slice none 0 0, .slice none 0 0, .slice none 0 0, .slice none 0 0, .int .i64 0, .bool false] 95)
 have X1 := Blk.newAt (w := w.alloc (.cells #[.slice A n c, .slice A' n c'] 90)) (t := 95) (cs := #[.slice none 0 0, .slice none 0 0, .slice none 0 0, .slice none 0 0, .int .i64 0, .bool false]) (g := w.heap.size + 1) (by simp)
 have BE := rbelow_any (base := w.heap.size) hn f 1 ((w.alloc (.cells #[.slice A n c, .slice A' n c'] 90)).alloc (.cells #[.slice none 0 0, .slice none 0 0, .slice none 0 0, .slice none 0 0, .int .i64 0, .bool false] 95)) Q40 rs0 s root hb.size (TS.nil _ _) (hd.below hb (Nat.le_refl _)) hr hs hok
 have BE : Calls Tryz.prog 70 #[.agg #[.slice none 0 0, .slice none 0 0, .slice none 0 0, .slice none 0 0, .int .i64 0, .bool false], .agg #[.slice A n c, .slice A' n c'], .int .u32 root, .int .i64 1] _ _ := BE
 have BE := Lib.hid BE
 have H0 := Lib.hid (And.intro hb (And.intro X1 (And.intro hok (And.intro hX hri))))
 clear hb X1 hok hX hri hr1 hr2 hd hs
 go_enter Tryz.func38, Tryz.ntmps38
 go_wp2_with fail
 refine BE.out.mono ?_
 rintro e w3 ⟨⟨⟨Bl, ml, el⟩, ⟨Bf, mf, ef⟩, ⟨Bx, mx, ex⟩, ⟨Bp, mp, ep⟩⟩, rfl, ts3, ev3, -⟩
 have hb3 : Below w.heap.size w w3 := ev3.below H0.out.1 H0.out.1.size fun g h => absurd h (Q40.own_ g)
 have R3 := ev3.blk H0.out.2.1 (Q40.own_ _)
 have X5 := Blk.new w3 95 #[.slice Bl ml el, .slice Bf mf ef, .slice Bx mx ex, .slice Bp mp ep, .int .i64 (s.hi : Int), .bool false]
 have R5 := R3.alloc (.cells #[.slice Bl ml el, .slice Bf mf ef, .slice Bx mx ex, .slice Bp mp ep, .int .i64 (s.hi : Int), .bool false] 95)
 have ts5 := ts3.below (ball (Below.refl w3.heap.size w3) (.cells #[.slice Bl ml el, .slice Bf mf ef, .slice Bx mx ex, .slice Bp mp ep, .int .i64 (s.hi : Int), .bool false] 95))
 have hb5 := ball hb3 (.cells #[.slice Bl ml el, .slice Bf mf ef, .slice Bx mx ex, .slice Bp mp ep, .int .i64 (s.hi : Int), .bool false] 95)
 have H5 := Lib.hid (And.intro X5 (And.intro R5 (And.intro ts5 hb5)))
 clear X5 R5 ts5 hb5 ts3 ev3 hb3 R3 BE
 go_upto_region 2 with fail
 obtain ⟨G, hG⟩ : ∃ G, w3.heap.size = G := ⟨_, rfl⟩
 obtain ⟨w5, hw5⟩ : ∃ x, w3.alloc (.cells #[.slice Bl ml el, .slice Bf mf ef, .slice Bx mx ex, .slice Bp mp ep, .int .i64 (s.hi : Int), .bool false] 95) = x := ⟨_, rfl⟩
 rw [hw5, hG] at H5 ⊢
 clear hG hw5
 have hls := H5.out.2.2.1.lens
 simp only at hls
 obtain ⟨ll, lf, lx, lp⟩ := hls
 have hmx : mx ≤ 1000000 := by rw [lx]; exact H0.out.2.2.1.2.2.1
 have hml : ml ≤ 1000000 := by rw [ll]; exact H0.out.2.2.1.1
 have rF := Reads.of_own H5.out.2.2.1.f
 have rX := Reads.of_own H5.out.2.2.1.x
 have k0 : w5.cell? ⟨G, 0, none⟩ = some (.slice Bl ml el) := H5.out.1.cell 0
 have k1 : w5.cell? ⟨G, 1, none⟩ = some (.slice Bf mf ef) := H5.out.1.cell 1
 have k2 : w5.cell? ⟨G, 2, none⟩ = some (.slice Bx mx ex) := H5.out.1.cell 2
 have k3 : w5.cell? ⟨G, 3, none⟩ = some (.slice Bp mp ep) := H5.out.1.cell 3
 have k4 : w5.cell? ⟨G, 4, none⟩ = some (.int .i64 (s.hi : Int)) := H5.out.1.cell 4
 have k5 : w5.cell? ⟨G, 5, none⟩ = some (.bool false) := H5.out.1.cell 5
 have HF := Lib.hid (And.intro rF rX)
 have HLL := Lib.hid (And.intro lf lx)
 have RI := Lib.hid (rriseE_any Bl ml el s.L w5 (Reads.of_own H5.out.2.2.1.l) hml)
 rw [H0.out.2.2.2.2] at RI
 clear rF rX lf lx ll lp
 go_wp2_with fail
 go_loopw [18] (fun v wr => ∃ j : Nat, v = .int .i64 (j : Int) ∧ j ≤ mx ∧ wr = w5) (fun v _ => mx - (intOf v).toNat)
 case atStart => exact ⟨0, rfl, Nat.zero_le _, rfl⟩
 case round =>
  obtain ⟨j, rfl, hj, rfl⟩ := hrel
  have j0 : (0 : Int) ≤ (j : Int) := by omega
  have j00 : (0 : Int) ≤ (j : Int) + 1 := by omega
  by_cases hlt : j < mx
  · have j1 : (j : Int) < (mx : Int) := by omega
    obtain ⟨ax, x, rfl, _, hx, ux⟩ := HF.out.2.num hlt
    rw [H0.out.2.2.2.1] at hx
    obtain ⟨n1, n2⟩ := nx_at _ _ _ hx
    by_cases hlf : j + 1 < mf
    · have j2 : (j : Int) + 1 < (mf : Int) := by omega
      obtain ⟨af, y, rfl, _, hy, uy⟩ := HF.out.1.num hlf
      have hxy := n1 y hy
      subst hxy
      have en : ((x : Int) != (x : Int)) = false := by simp
      have uy' : wr.cell? ⟨af.block, af.off + (j + 1), none⟩ = some (.int .u32 (x : Int)) := uy
      clear n1 n2 hx hy
      go_wp2_with fail
      go_roundw
      case rel => exact ⟨j + 1, by go_num, by omega, by first | rfl | trivial⟩
      case measure => simp [intOf]; omega
    · have j2 : (mf : Int) ≤ (j : Int) + 1 := by omega
      have hx0 := n2 (by have := HLL.out.1; omega)
      subst hx0
      clear n1 n2 hx
      go_wp2_with fail
      go_roundw
      case rel => exact ⟨j + 1, by go_num, by omega, by first | rfl | trivial⟩
      case measure => simp [intOf]; omega
  · have j1 : (mx : Int) ≤ (j : Int) := by omega
    have hjm : j = mx := by omega
    clear hjm
    go_wp2_with fail
    refine RI.out.mono ?_
    rintro e w6 ⟨rfl, hb6⟩
    have X6 := H5.out.1.below hb6 H5.out.1.lt
    have R6 := H5.out.2.1.below hb6 H5.out.2.1.lt
    have ts6 := H5.out.2.2.1.below hb6
    have hb60 := H5.out.2.2.2.trans (hb6.mono H5.out.2.2.2.size)
    have k0 : w6.cell? ⟨G, 0, none⟩ = some (.slice Bl ml el) := X6.cell 0
    have k1 : w6.cell? ⟨G, 1, none⟩ = some (.slice Bf mf ef) := X6.cell 1
    have k2 : w6.cell? ⟨G, 2, none⟩ = some (.slice Bx mx ex) := X6.cell 2
    have k3 : w6.cell? ⟨G, 3, none⟩ = some (.slice Bp mp ep) := X6.cell 3
    have k4 : w6.cell? ⟨G, 4, none⟩ = some (.int .i64 (s.hi : Int)) := X6.cell 4
    have k5 : w6.cell? ⟨G, 5, none⟩ = some (.bool false) := X6.cell 5
    have F0 := R6.frozen 0
    have F1 := R6.frozen 1
    have F2 := R6.frozen 2
    have F3 := R6.frozen 3
    have F4 := R6.frozen 4
    have F5 := R6.frozen 5
    have r0 : w6.cell? ⟨w.heap.size + 1, 0, none⟩ = some (.slice none 0 0) := R6.cell 0
    have r1 : w6.cell? ⟨w.heap.size + 1, 1, none⟩ = some (.slice none 0 0) := R6.cell 1
    have r2 : w6.cell? ⟨w.heap.size + 1, 2, none⟩ = some (.slice none 0 0) := R6.cell 2
    have r3 : w6.cell? ⟨w.heap.size + 1, 3, none⟩ = some (.slice none 0 0) := R6.cell 3
    have r4 : w6.cell? ⟨w.heap.size + 1, 4, none⟩ = some (.int .i64 0) := R6.cell 4
    have r5 : w6.cell? ⟨w.heap.size + 1, 5, none⟩ = some (.bool false) := R6.cell 5
    have mr := R6.lt
    have HE := Lib.hid (And.intro R6 (And.intro ts6 hb60))
    clear X6 R6 ts6 hb60 hb6
    go_wp2_with fail
    obtain ⟨kk, kr⟩ := fin_c HE.out.1 HE.out.2.1 HE.out.2.2 (.slice Bl ml el) (.slice Bf mf ef) (.slice Bx mx ex) (.slice Bp mp ep) (.int .i64 (s.hi : Int)) (.bool false) _ rfl rfl
    refine rc_end (q := ⟨⟨Bl, ml, el⟩, ⟨Bf, mf, ef⟩, ⟨Bx, mx, ex⟩, ⟨Bp, mp, ep⟩⟩) (hi := s.hi) (b := false) kk rfl ?_
    exact kr
end
end Go.Proofs.YtebobcbaloddaaaGreat
