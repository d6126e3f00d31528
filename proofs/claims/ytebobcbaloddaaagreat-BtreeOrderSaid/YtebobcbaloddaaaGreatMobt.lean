/-
  B36 B37 B32 B33 B34 B35 B21 B29 B38 B39.
-/
import Derived.Test.YtebobcbaloddaaaGreatMobs
import Derived.Test.YtebobcbaloddaaaGreatMoaz
import Derived.Test.YtebobcbaloddaaaGreatMobr
import Derived.Test.YtebobcbaloddaaaGreatMobd
import Derived.Test.YtebobcbaloddaaaGreatMoas
import Derived.Test.YtebobcbaloddaaaGreatMoau
import Derived.Test.YtebobcbaloddaaaGreatMoaf
import Derived.Test.YtebobcbaloddaaaGreatMobf
import Derived.Test.YtebobcbaloddaaaGreatMoaq
import Derived.Test.YtebobcbaloddaaaGreatMoaj
import Derived.Deep.DeepCutAuto
import Derived.BigQuiet
import Derived.KernelRfl
import Derived.BigGuardPart
import Derived.Test.YtebobcbaloddaaaGreatMozz
namespace Go.Proofs.YtebobcbaloddaaaGreat
section
set_option linter.unusedSimpArgs false
set_option linter.unusedVariables false
open Go.RowKit Go.Maps
theorem own_kept36 {w w' : World} {g n : Nat} {v : Value} {xs : List Value} {o : Obj} {cs : Array Value} (h : w.ownsRow (g + 1) 37 3 v n xs) (hb : Blk w g 37 cs) (hz : g + 1 ≤ w.heap.size) (hg : (w.alloc o).grownBy w' v.ownBlock) : Blk w' g 37 cs ∧ g + 1 ≤ w'.heap.size := by
 refine ⟨(hb.alloc o).grown hg fun e => ?_, ?_⟩
 · have := (World.ownsRow.lt h g e.symm).1; omega
 · have := hg.size
   simp at this
   omega
def RetEs (w : World) (l : List En) (e : Ending) (w' : World) : Prop := ∃ A c, e = .returned (.slice A l.length c) ∧ w'.ownsRow w.heap.size 37 3 (.slice A l.length c) l.length (vE l) ∧ Below w.heap.size w w'
theorem vE_snoc36 (l : List En) (x : En) : vE (l ++ [x]) = vE l ++ En.cells x := by simp [vE, List.flatMap_append]
theorem withP_no {l : List En} {x y : En} {i : Nat} (hy : l[i]? = some y) (h : lessE x y = false) : withP (l.drop i) x = y :: withP (l.drop (i + 1)) x := by
 have hi := lt_of_at hy
 rw [List.drop_eq_getElem_cons hi, withP]
 have : l[i] = y := by rw [List.getElem?_eq_getElem hi] at hy; injection hy
 rw [this, if_neg (by rw [h]; simp)]
theorem withP_yes {l : List En} {x y : En} {i : Nat} (hy : l[i]? = some y) (h : lessE x y = true) : withP (l.drop i) x = x :: y :: l.drop (i + 1) := by
 have hi := lt_of_at hy
 rw [List.drop_eq_getElem_cons hi, withP]
 have : l[i] = y := by rw [List.getElem?_eq_getElem hi] at hy; injection hy
 rw [this, if_pos h]
theorem drop_at36 {l : List En} {y : En} {i : Nat} (hy : l[i]? = some y) : l.drop i = y :: l.drop (i + 1) := by
 have hi := lt_of_at hy
 rw [List.drop_eq_getElem_cons hi]
 have : l[i] = y := by rw [List.getElem?_eq_getElem hi] at hy; injection hy
 rw [this]
set_option maxRecDepth 100000 in
set_option maxHeartbeats 8000000 in
theorem with_any (A : Option Addr) (n c : Nat) (l : List En) (x : En) (w : World) (hr : Reads w w.heap.size 3 A n (vE l)) (hn : n ≤ 1000000) :
 Calls Tryz.prog 14 #[.slice A n c, x.agg] w (RetEs w (withP l x)) := by
 have hl : l.length = n := by have := hr.1; rw [vE_len] at this; omega
 obtain ⟨i0, hi0, hz0, hs0, hy0⟩ := int_info8 Tryz.infoE
 obtain ⟨R, hR⟩ : ∃ R, withP l x = R := ⟨_, rfl⟩
 have hRl : R.length = n + 1 := by rw [← hR, with_len, hl]
 rw [hR]
 have HR := Lib.hid hR
 have hx' : ∃ x', x' = x := ⟨_, rfl⟩
 obtain ⟨xx, hxx⟩ := hx'
 rw [← hxx] at HR
 have Hxx := Lib.hid hxx
 clear hR hxx
 obtain ⟨xs, xp, xq⟩ := x
 have hbX := ball (ball (Below.refl w.heap.size w) (.cells #[.string xs, .int .u32 xp, .int .u16 xq] 37)) (.cells #[] 37)
 have X0 := (Blk.new w 37 #[.string xs, .int .u32 xp, .int .u16 xq]).alloc (.cells #[] 37)
 have O0 : ((w.alloc (.cells #[.string xs, .int .u32 xp, .int .u16 xq] 37)).alloc (.cells #[] 37)).ownsRow (w.heap.size + 1) 37 3 (.slice (some ⟨w.heap.size + 1, 0, none⟩) 0 0) 0 [] := by
  have h := own_empty (w.alloc (.cells #[.string xs, .int .u32 xp, .int .u16 xq] 37)) 37 3 (g := w.heap.size + 1) (by simp)
  exact World.ownsRow.mono h (by simp)
 have hz : w.heap.size + 1 ≤ ((w.alloc (.cells #[.string xs, .int .u32 xp, .int .u16 xq] 37)).alloc (.cells #[] 37)).heap.size := by simp
 have H0 := Lib.hid (And.intro hbX (And.intro X0 (And.intro O0 hz)))
 have HR0 := Lib.hid hr
 have HL := Lib.hid (And.intro hl hRl)
 clear hbX X0 O0 hz hr hl hRl
 go_enter Tryz.func14, Tryz.ntmps14
 go_wp2_with fail
 go_loopw [5, 6, 11] (fun v5 v6 v11 wr => ∃ (i : Nat) (O : List En) (d : Bool), v11 = .int .i64 (i : Int) ∧ i ≤ n ∧ v6 = .bool d ∧ wr.ownsRow (w.heap.size + 1) 37 3 v5 O.length (vE O) ∧ Below w.heap.size w wr ∧ Blk wr w.heap.size 37 #[.string xs, .int .u32 xp, .int .u16 xq] ∧ w.heap.size + 1 ≤ wr.heap.size ∧ O ++ (if d then l.drop i else withP (l.drop i) xx) = R) (fun _ _ v11 _ => n - (intOf v11).toNat)
 case atStart => exact ⟨0, [], false, rfl, Nat.zero_le _, rfl, H0.out.2.2.1, H0.out.1, H0.out.2.1, H0.out.2.2.2, by rw [← HR.out]; rfl⟩
 case round =>
  obtain ⟨i, O, d, rfl, hin, rfl, hO, hb, hX, hzr, hp⟩ := hrel
  have i0' : (0 : Int) ≤ (i : Int) := by omega
  have hOl : O.length ≤ n + 1 := by
   have h1 := congrArg List.length hp
   rw [List.length_append, HL.out.2] at h1
   omega
  obtain ⟨Ao, co, rfl, hco⟩ := own_form hO
  by_cases hlt : i < n
  · have i1 : (i : Int) < (n : Int) := by omega
    obtain ⟨y, hy⟩ : ∃ y, l[i]? = some y := ⟨_, List.getElem?_eq_getElem (by rw [HL.out.1]; exact hlt)⟩
    obtain ⟨ad, rfl, hab, _, HYY⟩ := ent_of (w := w) HR0.out hy
    obtain ⟨ly, hly⟩ : ∃ b, lessE xx y = b := ⟨_, rfl⟩
    have HP := Lib.hid (And.intro hp (And.intro hy hly))
    have C1 := Lib.hid fun W => lessE_any xx y W
    rw [hly, Hxx.out] at C1
    have HY' : Hid (∀ W, Below w.heap.size w W → W.cell? (ad.add (i * 3)) = some (.string y.s) ∧ W.cell? ⟨(ad.add (i * 3)).block, (ad.add (i * 3)).off + 1, none⟩ = some (.int .u32 y.p) ∧ W.cell? ⟨(ad.add (i * 3)).block, (ad.add (i * 3)).off + 2, none⟩ = some (.int .u16 y.q)) := Lib.hid HYY
    have hyy' : ∃ y', y' = y := ⟨_, rfl⟩
    obtain ⟨yy, hyy⟩ := hyy'
    rw [← hyy] at HP
    have Hyy := Lib.hid hyy
    clear hp hy hly HYY hyy
    obtain ⟨ys, yp, yq⟩ := y
    simp only at HY'
    unfold En.agg at C1
    simp only at C1
    have HH := Lib.hid (And.intro hO (And.intro hb (And.intro hX hzr)))
    have hS : Hid (∀ W, Below wr.heap.size wr W → W.cell? ⟨w.heap.size, 0, none⟩ = some (.string xs) ∧ W.cell? ⟨w.heap.size, 1, none⟩ = some (.int .u32 xp) ∧ W.cell? ⟨w.heap.size, 2, none⟩ = some (.int .u16 xq) ∧ W.cell? (ad.add (i * 3)) = some (.string ys) ∧ W.cell? ⟨(ad.add (i * 3)).block, (ad.add (i * 3)).off + 1, none⟩ = some (.int .u32 yp) ∧ W.cell? ⟨(ad.add (i * 3)).block, (ad.add (i * 3)).off + 2, none⟩ = some (.int .u16 yq) ∧ Below wr.heap.size wr W) := Lib.hid fun W hW => ⟨(HH.out.2.2.1.below hW HH.out.2.2.1.lt).cell 0, (HH.out.2.2.1.below hW HH.out.2.2.1.lt).cell 1, (HH.out.2.2.1.below hW HH.out.2.2.1.lt).cell 2, (HY'.out W (HH.out.2.1.trans (hW.mono (by have := HH.out.2.2.2; omega)))).1, (HY'.out W (HH.out.2.1.trans (hW.mono (by have := HH.out.2.2.2; omega)))).2.1, (HY'.out W (HH.out.2.1.trans (hW.mono (by have := HH.out.2.2.2; omega)))).2.2, hW⟩
    clear hO hb hX
    go_upto_region 6 with fail
    cases d
    · cases ly
      ·
       refine wp_region_held_drew (S := (fun W => W.cell? ⟨w.heap.size, 0, none⟩ = some (.string xs) ∧ W.cell? ⟨w.heap.size, 1, none⟩ = some (.int .u32 xp) ∧ W.cell? ⟨w.heap.size, 2, none⟩ = some (.int .u16 xq) ∧ W.cell? (ad.add (i * 3)) = some (.string ys) ∧ W.cell? ⟨(ad.add (i * 3)).block, (ad.add (i * 3)).off + 1, none⟩ = some (.int .u32 yp) ∧ W.cell? ⟨(ad.add (i * 3)).block, (ad.add (i * 3)).off + 2, none⟩ = some (.int .u16 yq) ∧ Below wr.heap.size wr W)) (by kernel_rfl) (by exact hS.out _ (Below.drew (Below.refl _ _))) (fun hHeld => ?_)
       try dsimp only at hHeld
       refine zt 0 ?_ rfl (by kernel_rfl) (fun _ _ _ h => h) ⟨rfl, ?_⟩ hHeld ?_
       rotate_left
       focus (intro wx hSw; (try dsimp only at hSw); (try go_split_ands); go_simp; (try with_reducible rfl))
       try simp only [Act.put, za1, za2, za3, za4, za5, za6]
       refine zt 1 ?_ rfl (by kernel_rfl) (fun _ _ _ h => h) ⟨rfl, ?_⟩ hHeld ?_
       rotate_left
       focus (intro wx hSw; (try dsimp only at hSw); (try go_split_ands); go_simp; (try with_reducible rfl))
       try simp only [Act.put, za1, za2, za3, za4, za5, za6]
       refine zt 2 ?_ rfl (by kernel_rfl) (fun _ _ _ h => h) ⟨rfl, ?_⟩ hHeld ?_
       rotate_left
       focus (intro wx hSw; (try dsimp only at hSw); (try go_split_ands); go_simp; (try with_reducible rfl))
       try simp only [Act.put, za1, za2, za3, za4, za5, za6]
       refine zt 3 ?_ rfl (by kernel_rfl) (fun _ _ _ h => h) ⟨rfl, ?_⟩ hHeld ?_
       rotate_left
       focus (intro wx hSw; (try dsimp only at hSw); (try go_split_ands); go_simp; (try with_reducible rfl))
       try simp only [Act.put, za1, za2, za3, za4, za5, za6]
       refine zt 4 ?_ rfl (by kernel_rfl) (fun _ _ _ h => h) ⟨rfl, ?_⟩ hHeld ?_
       rotate_left
       focus (intro wx hSw; (try dsimp only at hSw); (try go_split_ands); go_simp; (try with_reducible rfl))
       try simp only [Act.put, za1, za2, za3, za4, za5, za6]
       refine zt 5 ?_ rfl (by kernel_rfl) (fun _ _ _ h => h) ⟨rfl, ?_⟩ hHeld ?_
       rotate_left
       focus (intro wx hSw; (try dsimp only at hSw); (try go_split_ands); go_simp; (try with_reducible rfl))
       try simp only [Act.put, za1, za2, za3, za4, za5, za6]
       refine zt 6 ?_ rfl (by kernel_rfl) (fun _ _ _ h => h) ⟨rfl, ?_⟩ hHeld ?_
       rotate_left
       focus (intro wx hSw; (try dsimp only at hSw); (try go_split_ands); go_simp; (try with_reducible rfl))
       try simp only [Act.put, za1, za2, za3, za4, za5, za6]
       refine zt 7 ?_ rfl (by kernel_rfl) (fun _ _ _ h => h) ⟨rfl, ?_⟩ hHeld ?_
       rotate_left
       focus (intro wx hSw; (try dsimp only at hSw); (try go_split_ands); go_simp; (try with_reducible rfl))
       try simp only [Act.put, za1, za2, za3, za4, za5, za6]
       refine wpAnyH_ready (rs := [8]) (by kernel_rfl) (by simp) (AllReadyH.cons rfl (fun K hK => ?_) AllReadyH.nil)
       go_simp
       (with_reducible refine (C1.out _).mono ?_); rintro e w1 ⟨rfl, hb1⟩
       go_wp2_with fail
       refine hK.out _ _ ?_ (fun hHeld => ?_)
       · ((try dsimp only); (try dsimp only at hHeld); (first | exact hS.out _ (by (with_reducible repeat (first | exact Below.refl _ _ | exact hb1 | refine bto0 ?_ hb1 | refine bdr ?_ _ | refine Below.drew ?_ | refine ball ?_ _))) | assumption))
       clear hK K
       try dsimp only at hHeld
       try simp only [Act.put, za1, za2, za3, za4, za5, za6]
       refine zt 9 ?_ rfl (by kernel_rfl) (fun _ _ _ h => h) ⟨rfl, ?_⟩ hHeld ?_
       rotate_left
       focus (intro wx hSw; (try dsimp only at hSw); (try go_split_ands); go_simp; (try with_reducible rfl))
       try simp only [Act.put, za1, za2, za3, za4, za5, za6]
       refine wpAnyH_done (by kernel_rfl) ?_ _
       obtain ⟨y0, y1, y2, y3, y4, y5, hbW⟩ := hS.out (w1) (show Below wr.heap.size wr (w1) from by (with_reducible repeat (first | exact Below.refl _ _ | exact hb1 | refine bto0 ?_ hb1 | refine bdr ?_ _ | refine Below.drew ?_ | refine ball ?_ _)))
       have HW := Lib.hid (And.intro (own_below HH.out.1 hbW) (HH.out.2.1.trans (hbW.mono (by omega))))
       have hzw : w.heap.size + 1 ≤ (w1).heap.size := Nat.le_trans hzr hbW.size
       have hXw := Lib.hid (HH.out.2.2.1.below hbW HH.out.2.2.1.lt)
       clear hbW
       go_wp2_with (at_builtin; refine wpList_pushR (news := En.cells ⟨ys, yp, yq⟩) rfl (.tmp 28) (.tmp 33) 22 rfl (w.heap.size + 1) 37 i0 _ 3 24 Tryz.underlying22 hi0 hz0 hs0 hy0 rfl (by decide) _ O.length (vE O) rfl HW.out.1 rfl _ rfl (by simp) rfl (by intro u hu; simp only [En.cells, List.mem_cons, List.not_mem_nil, or_false] at hu; rcases hu with rfl | rfl | rfl <;> rfl) (by omega) (by omega) hzw ?_; intro v6 w6 ho6 hg6 hv6; have H6 := Lib.hid (And.intro ho6 (And.intro (below_grown HW.out.1 (by omega) hzw hg6 HW.out.2) (own_kept36 HW.out.1 hXw.out hzw hg6))); clear ho6 hg6)
       go_roundw
       case rel => exact ⟨i + 1, O ++ [yy], false, by go_num, by omega, rfl, by rw [List.length_append, List.length_singleton, vE_snoc36, Hyy.out]; exact H6.out.1, H6.out.2.1, H6.out.2.2.1, H6.out.2.2.2, by rw [← HP.out.1, withP_no HP.out.2.1 HP.out.2.2]; simp⟩
       case measure => simp [intOf]; omega
      ·
       refine wp_region_held_drew (S := (fun W => W.cell? ⟨w.heap.size, 0, none⟩ = some (.string xs) ∧ W.cell? ⟨w.heap.size, 1, none⟩ = some (.int .u32 xp) ∧ W.cell? ⟨w.heap.size, 2, none⟩ = some (.int .u16 xq) ∧ W.cell? (ad.add (i * 3)) = some (.string ys) ∧ W.cell? ⟨(ad.add (i * 3)).block, (ad.add (i * 3)).off + 1, none⟩ = some (.int .u32 yp) ∧ W.cell? ⟨(ad.add (i * 3)).block, (ad.add (i * 3)).off + 2, none⟩ = some (.int .u16 yq) ∧ Below wr.heap.size wr W)) (by kernel_rfl) (by exact hS.out _ (Below.drew (Below.refl _ _))) (fun hHeld => ?_)
       try dsimp only at hHeld
       refine zt 0 ?_ rfl (by kernel_rfl) (fun _ _ _ h => h) ⟨rfl, ?_⟩ hHeld ?_
       rotate_left
       focus (intro wx hSw; (try dsimp only at hSw); (try go_split_ands); go_simp; (try with_reducible rfl))
       try simp only [Act.put, za1, za2, za3, za4, za5, za6]
       refine zt 1 ?_ rfl (by kernel_rfl) (fun _ _ _ h => h) ⟨rfl, ?_⟩ hHeld ?_
       rotate_left
       focus (intro wx hSw; (try dsimp only at hSw); (try go_split_ands); go_simp; (try with_reducible rfl))
       try simp only [Act.put, za1, za2, za3, za4, za5, za6]
       refine zt 2 ?_ rfl (by kernel_rfl) (fun _ _ _ h => h) ⟨rfl, ?_⟩ hHeld ?_
       rotate_left
       focus (intro wx hSw; (try dsimp only at hSw); (try go_split_ands); go_simp; (try with_reducible rfl))
       try simp only [Act.put, za1, za2, za3, za4, za5, za6]
       refine zt 3 ?_ rfl (by kernel_rfl) (fun _ _ _ h => h) ⟨rfl, ?_⟩ hHeld ?_
       rotate_left
       focus (intro wx hSw; (try dsimp only at hSw); (try go_split_ands); go_simp; (try with_reducible rfl))
       try simp only [Act.put, za1, za2, za3, za4, za5, za6]
       refine zt 4 ?_ rfl (by kernel_rfl) (fun _ _ _ h => h) ⟨rfl, ?_⟩ hHeld ?_
       rotate_left
       focus (intro wx hSw; (try dsimp only at hSw); (try go_split_ands); go_simp; (try with_reducible rfl))
       try simp only [Act.put, za1, za2, za3, za4, za5, za6]
       refine zt 5 ?_ rfl (by kernel_rfl) (fun _ _ _ h => h) ⟨rfl, ?_⟩ hHeld ?_
       rotate_left
       focus (intro wx hSw; (try dsimp only at hSw); (try go_split_ands); go_simp; (try with_reducible rfl))
       try simp only [Act.put, za1, za2, za3, za4, za5, za6]
       refine zt 6 ?_ rfl (by kernel_rfl) (fun _ _ _ h => h) ⟨rfl, ?_⟩ hHeld ?_
       rotate_left
       focus (intro wx hSw; (try dsimp only at hSw); (try go_split_ands); go_simp; (try with_reducible rfl))
       try simp only [Act.put, za1, za2, za3, za4, za5, za6]
       refine zt 7 ?_ rfl (by kernel_rfl) (fun _ _ _ h => h) ⟨rfl, ?_⟩ hHeld ?_
       rotate_left
       focus (intro wx hSw; (try dsimp only at hSw); (try go_split_ands); go_simp; (try with_reducible rfl))
       try simp only [Act.put, za1, za2, za3, za4, za5, za6]
       refine wpAnyH_ready (rs := [8]) (by kernel_rfl) (by simp) (AllReadyH.cons rfl (fun K hK => ?_) AllReadyH.nil)
       go_simp
       (with_reducible refine (C1.out _).mono ?_); rintro e w1 ⟨rfl, hb1⟩
       go_wp2_with fail
       refine hK.out _ _ ?_ (fun hHeld => ?_)
       · ((try dsimp only); (try dsimp only at hHeld); (first | exact hS.out _ (by (with_reducible repeat (first | exact Below.refl _ _ | exact hb1 | refine bto0 ?_ hb1 | refine bdr ?_ _ | refine Below.drew ?_ | refine ball ?_ _))) | assumption))
       clear hK K
       try dsimp only at hHeld
       try simp only [Act.put, za1, za2, za3, za4, za5, za6]
       refine zt 9 ?_ rfl (by kernel_rfl) (fun _ _ _ h => h) ⟨rfl, ?_⟩ hHeld ?_
       rotate_left
       focus (intro wx hSw; (try dsimp only at hSw); (try go_split_ands); go_simp; (try with_reducible rfl))
       try simp only [Act.put, za1, za2, za3, za4, za5, za6]
       refine wpAnyH_done (by kernel_rfl) ?_ _
       obtain ⟨y0, y1, y2, y3, y4, y5, hbW⟩ := hS.out (w1) (show Below wr.heap.size wr (w1) from by (with_reducible repeat (first | exact Below.refl _ _ | exact hb1 | refine bto0 ?_ hb1 | refine bdr ?_ _ | refine Below.drew ?_ | refine ball ?_ _)))
       have HW := Lib.hid (And.intro (own_below HH.out.1 hbW) (HH.out.2.1.trans (hbW.mono (by omega))))
       have hzw : w.heap.size + 1 ≤ (w1).heap.size := Nat.le_trans hzr hbW.size
       have hXw := Lib.hid (HH.out.2.2.1.below hbW HH.out.2.2.1.lt)
       clear hbW
       go_wp2_with (first | (at_builtin; refine wpList_pushR (news := En.cells ⟨xs, xp, xq⟩) rfl (.tmp 24) (.tmp 26) 22 rfl (w.heap.size + 1) 37 i0 _ 3 24 Tryz.underlying22 hi0 hz0 hs0 hy0 rfl (by decide) _ O.length (vE O) rfl HW.out.1 rfl _ rfl (by simp) rfl (by intro u hu; simp only [En.cells, List.mem_cons, List.not_mem_nil, or_false] at hu; rcases hu with rfl | rfl | rfl <;> rfl) (by omega) (by omega) hzw ?_; intro v6 w6 ho6 hg6 hv6; obtain ⟨A6, c6, rfl, hc6⟩ := own_form ho6; have hbk := below_grown HW.out.1 (by omega) hzw hg6 HW.out.2; have hzz := own_kept36 HW.out.1 hXw.out hzw hg6; obtain ⟨y3, y4, y5⟩ := HY'.out _ hbk; have hz6 := hzz.2; have H6 := Lib.hid (And.intro ho6 (And.intro hbk hzz.1)); clear ho6 hg6 hbk hzz) | (at_builtin; refine wpList_pushR (news := En.cells ⟨ys, yp, yq⟩) rfl (.tmp 28) (.tmp 33) 22 rfl (w.heap.size + 1) 37 i0 _ 3 24 Tryz.underlying22 hi0 hz0 hs0 hy0 rfl (by decide) _ (O.length + 1) (vE O ++ En.cells ⟨xs, xp, xq⟩) rfl H6.out.1 rfl _ rfl (by simp) rfl (by intro u hu; simp only [En.cells, List.mem_cons, List.not_mem_nil, or_false] at hu; rcases hu with rfl | rfl | rfl <;> rfl) (by omega) (by omega) hz6 ?_; intro v7 w7 ho7 hg7 hv7; have H7 := Lib.hid (And.intro ho7 (And.intro (below_grown H6.out.1 (by omega) hz6 hg7 H6.out.2.1) (own_kept36 H6.out.1 H6.out.2.2 hz6 hg7))); clear ho7 hg7))
       go_roundw
       case rel => exact ⟨i + 1, O ++ [xx] ++ [yy], true, by go_num, by omega, rfl, by rw [List.length_append, List.length_append, List.length_singleton, List.length_singleton, vE_snoc36, vE_snoc36, Hyy.out, Hxx.out]; exact H7.out.1, H7.out.2.1, H7.out.2.2.1, H7.out.2.2.2, by rw [← HP.out.1]; simp [withP_yes HP.out.2.1 HP.out.2.2]⟩
       case measure => simp [intOf]; omega
    · clear C1
      refine wp_region_held_drew (S := (fun W => W.cell? ⟨w.heap.size, 0, none⟩ = some (.string xs) ∧ W.cell? ⟨w.heap.size, 1, none⟩ = some (.int .u32 xp) ∧ W.cell? ⟨w.heap.size, 2, none⟩ = some (.int .u16 xq) ∧ W.cell? (ad.add (i * 3)) = some (.string ys) ∧ W.cell? ⟨(ad.add (i * 3)).block, (ad.add (i * 3)).off + 1, none⟩ = some (.int .u32 yp) ∧ W.cell? ⟨(ad.add (i * 3)).block, (ad.add (i * 3)).off + 2, none⟩ = some (.int .u16 yq) ∧ Below wr.heap.size wr W)) (by kernel_rfl) (by exact hS.out _ (Below.drew (Below.refl _ _))) (fun hHeld => ?_)
      try dsimp only at hHeld
      refine zt 0 ?_ rfl (by kernel_rfl) (fun _ _ _ h => h) ⟨rfl, ?_⟩ hHeld ?_
      rotate_left
      focus (intro wx hSw; (try dsimp only at hSw); (try go_split_ands); go_simp; (try with_reducible rfl))
      try simp only [Act.put, za1, za2, za3, za4, za5, za6]
      refine zt 1 ?_ rfl (by kernel_rfl) (fun _ _ _ h => h) ⟨rfl, ?_⟩ hHeld ?_
      rotate_left
      focus (intro wx hSw; (try dsimp only at hSw); (try go_split_ands); go_simp; (try with_reducible rfl))
      try simp only [Act.put, za1, za2, za3, za4, za5, za6]
      refine zt 2 ?_ rfl (by kernel_rfl) (fun _ _ _ h => h) ⟨rfl, ?_⟩ hHeld ?_
      rotate_left
      focus (intro wx hSw; (try dsimp only at hSw); (try go_split_ands); go_simp; (try with_reducible rfl))
      try simp only [Act.put, za1, za2, za3, za4, za5, za6]
      refine wpAnyH_take (i := 3) (v := undef) rfl (by kernel_rfl) (by kernel_rfl) (by kernel_rfl) (fun _ _ _ h => h) (Or.inr ⟨rfl, rfl⟩) hHeld ?_
      try simp only [Act.put, za1, za2, za3, za4, za5, za6]
      refine wpAnyH_take (i := 4) (v := undef) rfl (by kernel_rfl) (by kernel_rfl) (by kernel_rfl) (fun _ _ _ h => h) (Or.inr ⟨rfl, rfl⟩) hHeld ?_
      try simp only [Act.put, za1, za2, za3, za4, za5, za6]
      refine wpAnyH_take (i := 5) (v := undef) rfl (by kernel_rfl) (by kernel_rfl) (by kernel_rfl) (fun _ _ _ h => h) (Or.inr ⟨rfl, rfl⟩) hHeld ?_
      try simp only [Act.put, za1, za2, za3, za4, za5, za6]
      refine wpAnyH_take (i := 6) (v := undef) rfl (by kernel_rfl) (by kernel_rfl) (by kernel_rfl) (fun _ _ _ h => h) (Or.inr ⟨rfl, rfl⟩) hHeld ?_
      try simp only [Act.put, za1, za2, za3, za4, za5, za6]
      refine wpAnyH_take (i := 7) (v := undef) rfl (by kernel_rfl) (by kernel_rfl) (by kernel_rfl) (fun _ _ _ h => h) (Or.inr ⟨rfl, rfl⟩) hHeld ?_
      try simp only [Act.put, za1, za2, za3, za4, za5, za6]
      refine wpAnyH_take (i := 8) (v := undef) rfl (by kernel_rfl) (by kernel_rfl) (by kernel_rfl) (fun _ _ _ h => h) (Or.inr ⟨rfl, rfl⟩) hHeld ?_
      try simp only [Act.put, za1, za2, za3, za4, za5, za6]
      refine zt 9 ?_ rfl (by kernel_rfl) (fun _ _ _ h => h) ⟨rfl, ?_⟩ hHeld ?_
      rotate_left
      focus (intro wx hSw; (try dsimp only at hSw); (try go_split_ands); go_simp; (try with_reducible rfl))
      try simp only [Act.put, za1, za2, za3, za4, za5, za6]
      refine wpAnyH_done (by kernel_rfl) ?_ _
      obtain ⟨y0, y1, y2, y3, y4, y5, hbW⟩ := hS.out (wr.drew) (show Below wr.heap.size wr (wr.drew) from by exact Below.drew (Below.refl _ _))
      have HW := Lib.hid (And.intro (own_below HH.out.1 hbW) (HH.out.2.1.trans (hbW.mono (by omega))))
      have hzw : w.heap.size + 1 ≤ (wr.drew).heap.size := Nat.le_trans hzr hbW.size
      have hXw := Lib.hid (HH.out.2.2.1.below hbW HH.out.2.2.1.lt)
      clear hbW
      go_wp2_with (at_builtin; refine wpList_pushR (news := En.cells ⟨ys, yp, yq⟩) rfl (.tmp 28) (.tmp 33) 22 rfl (w.heap.size + 1) 37 i0 _ 3 24 Tryz.underlying22 hi0 hz0 hs0 hy0 rfl (by decide) _ O.length (vE O) rfl HW.out.1 rfl _ rfl (by simp) rfl (by intro u hu; simp only [En.cells, List.mem_cons, List.not_mem_nil, or_false] at hu; rcases hu with rfl | rfl | rfl <;> rfl) (by omega) (by omega) hzw ?_; intro v6 w6 ho6 hg6 hv6; have H6 := Lib.hid (And.intro ho6 (And.intro (below_grown HW.out.1 (by omega) hzw hg6 HW.out.2) (own_kept36 HW.out.1 hXw.out hzw hg6))); clear ho6 hg6)
      go_roundw
      case rel => exact ⟨i + 1, O ++ [yy], true, by go_num, by omega, rfl, by rw [List.length_append, List.length_singleton, vE_snoc36, Hyy.out]; exact H6.out.1, H6.out.2.1, H6.out.2.2.1, H6.out.2.2.2, by rw [← HP.out.1]; simp [drop_at36 HP.out.2.1]⟩
      case measure => simp [intOf]; omega
  · have hin' : i = n := by omega
    have i1 : (n : Int) ≤ (i : Int) := by omega
    have hdn : l.drop i = [] := List.drop_eq_nil_of_le (by rw [HL.out.1]; omega)
    rw [hdn] at hp
    have y0 : wr.cell? ⟨w.heap.size, 0, none⟩ = some (.string xs) := hX.cell 0
    have y1 : wr.cell? ⟨w.heap.size, 1, none⟩ = some (.int .u32 xp) := hX.cell 1
    have y2 : wr.cell? ⟨w.heap.size, 2, none⟩ = some (.int .u16 xq) := hX.cell 2
    have HH := Lib.hid (And.intro hO (And.intro hb hp))
    clear hO hb hX hp hdn hin'
    cases d
    · go_wp2_with (at_builtin; refine wpList_pushR (news := En.cells ⟨xs, xp, xq⟩) rfl (.tmp 38) (.tmp 40) 22 rfl (w.heap.size + 1) 37 i0 _ 3 24 Tryz.underlying22 hi0 hz0 hs0 hy0 rfl (by decide) _ O.length (vE O) rfl HH.out.1 rfl _ rfl (by simp) rfl (by intro u hu; simp only [En.cells, List.mem_cons, List.not_mem_nil, or_false] at hu; rcases hu with rfl | rfl | rfl <;> rfl) (by omega) (by omega) hzr ?_; intro v6 w6 ho6 hg6 hv6; obtain ⟨A6, c6, rfl, hc6⟩ := own_form ho6; have H6 := Lib.hid (And.intro ho6 (below_grown HH.out.1 (by omega) hzr hg6 HH.out.2.1)); clear ho6 hg6)
      go_ret
      have hp := HH.out.2.2
      simp only [Bool.false_eq_true, if_false, withP] at hp
      rw [← hp]
      unfold RetEs
      rw [List.length_append, List.length_singleton, vE_snoc36, Hxx.out]
      exact ⟨A6, c6, rfl, World.ownsRow.mono H6.out.1 (by omega), H6.out.2⟩
    · go_wp2_with fail
      go_ret
      have hp := HH.out.2.2
      simp only [if_true, List.append_nil] at hp
      rw [← hp]
      unfold RetEs
      exact ⟨Ao, co, rfl, World.ownsRow.mono HH.out.1 (by omega), HH.out.2.1⟩
end
end Go.Proofs.YtebobcbaloddaaaGreat
namespace Go.Proofs.YtebobcbaloddaaaGreat
section
set_option linter.unusedSimpArgs false
set_option linter.unusedVariables false
open Go.RowKit Go.Maps
theorem take_in {l : List En} {i : Nat} {x : En} (hx : l[i]? = some x) (hi : i < 400) : (l.take 400).take (i + 1) = (l.take 400).take i ++ [x] := by
 rw [List.take_add_one, List.getElem?_take, if_pos hi, hx]; rfl
theorem take_out {l : List En} {i : Nat} (hi : 400 ≤ i) : (l.take 400).take (i + 1) = (l.take 400).take i := by
 have h : (l.take 400).length ≤ i := by rw [List.length_take]; omega
 rw [List.take_of_length_le (i := i + 1) (by omega), List.take_of_length_le h]
def sortN (l : List En) (i : Nat) : List En := ((l.take 400).take i).foldl stepP []
theorem sortN_len (l : List En) (i : Nat) : (sortN l i).length ≤ 400 := by
 have := (fold_ok (l := l) ((l.take 400).take i) 0 [] ⟨List.Pairwise.nil, fun x hx => (by cases hx), fun x hx => (by cases hx), Nat.le_refl _⟩ fun x hx => List.mem_of_mem_take (List.mem_of_mem_take hx)).len
 rw [List.length_take, List.length_take] at this
 unfold sortN
 omega
theorem sortN_in {l : List En} {i : Nat} {x : En} (hx : l[i]? = some x) (hi : i < 400) : sortN l (i + 1) = stepP (sortN l i) x := by
 unfold sortN; rw [take_in hx hi, List.foldl_append]; rfl
theorem sortN_out {l : List En} {i : Nat} (hi : 400 ≤ i) : sortN l (i + 1) = sortN l i := by unfold sortN; rw [take_out hi]
theorem sortN_end (l : List En) : sortN l l.length = sortP l := by
 unfold sortN sortP
 rw [List.take_of_length_le (l := l.take 400) (by rw [List.length_take]; omega)]
set_option maxRecDepth 100000 in
set_option maxHeartbeats 8000000 in
theorem sorted_any (A : Option Addr) (n c : Nat) (l : List En) (w : World) (hr : Reads w w.heap.size 3 A n (vE l)) (hn : n ≤ 1000000) :
 Calls Tryz.prog 9 #[.slice A n c] w (RetEs w (sortP l)) := by
 have hl : l.length = n := by have := hr.1; rw [vE_len] at this; omega
 have hbX := ball (Below.refl w.heap.size w) (.cells #[] 37)
 have O0 : (w.alloc (.cells #[] 37)).ownsRow w.heap.size 37 3 (.slice (some ⟨w.heap.size, 0, none⟩) 0 0) 0 [] := own_empty w 37 3 rfl
 have H0 := Lib.hid (And.intro hbX O0)
 have HR0 := Lib.hid hr
 have HL := Lib.hid hl
 clear hbX O0 hr hl
 go_enter Tryz.func9, Tryz.ntmps9
 go_wp2_with fail
 go_loopw [3, 9] (fun v3 v9 wr => ∃ (i : Nat), v9 = .int .i64 (i : Int) ∧ i ≤ n ∧ wr.ownsRow w.heap.size 37 3 v3 (sortN l i).length (vE (sortN l i)) ∧ Below w.heap.size w wr) (fun _ v9 _ => n - (intOf v9).toNat)
 case atStart => exact ⟨0, rfl, Nat.zero_le _, by unfold sortN; rw [List.take_zero]; exact H0.out.2, H0.out.1⟩
 case round =>
  obtain ⟨i, rfl, hin, hO, hb⟩ := hrel
  have i0' : (0 : Int) ≤ (i : Int) := by omega
  obtain ⟨Ao, co, rfl, hco⟩ := own_form hO
  have hlen := sortN_len l i
  by_cases hlt : i < n
  · have i1 : (i : Int) < (n : Int) := by omega
    obtain ⟨x, hx⟩ : ∃ x, l[i]? = some x := ⟨_, List.getElem?_eq_getElem (by rw [HL.out]; exact hlt)⟩
    obtain ⟨ad, rfl, hab, _, HXX⟩ := ent_of (w := w) HR0.out hx
    have hyy' : ∃ y', y' = x := ⟨_, rfl⟩
    obtain ⟨xx, hxx⟩ := hyy'
    have hS1 : Hid (i < 400 → sortN l (i + 1) = stepP (sortN l i) xx) := Lib.hid fun h => by rw [hxx]; exact sortN_in hx h
    have hS2 : Hid (400 ≤ i → sortN l (i + 1) = sortN l i) := Lib.hid fun h => sortN_out h
    obtain ⟨O, hOO⟩ : ∃ O, sortN l i = O := ⟨_, rfl⟩
    rw [hOO] at hO hlen hS1 hS2 hco ⊢
    obtain ⟨u0, u1, u2⟩ := HXX wr hb
    have hz := hb.size
    have HXX := Lib.hid hxx
    clear hOO hx hxx
    obtain ⟨xs, xp, xq⟩ := x
    have HO := Lib.hid (And.intro hO hb)
    clear hO hb
    have OX := HO.out.1.alloc (.cells #[.string xs, .int .u32 xp, .int .u16 xq] 37)
    have BX := ball HO.out.2 (.cells #[.string xs, .int .u32 xp, .int .u16 xq] 37)
    have XX := Blk.new wr 37 #[.string xs, .int .u32 xp, .int .u16 xq]
    have HB := Lib.hid (And.intro OX (And.intro BX XX))
    clear OX BX XX
    simp only at u0 u1 u2
    by_cases h4 : 400 ≤ i
    · have i4 : (400 : Int) ≤ (i : Int) := by omega
      have hs := Lib.hid (hS2.out h4)
      clear hS1 hS2 h4
      go_wp2_with fail
      go_roundw
      case rel => exact ⟨i + 1, by go_num, by omega, by rw [hs.out]; exact HB.out.1, HB.out.2.1⟩
      case measure => simp [intOf]; omega
    · have i4 : (i : Int) < 400 := by omega
      have hs := Lib.hid (hS1.out (by omega))
      by_cases hsz : xs.size ≤ 200
      · have zI : (xs.size : Int) ≤ 200 := by omega
        have HS := Lib.hid hsz
        clear hS1 hS2 h4 hsz
        have HAS := Lib.hid (hasE_any Ao O.length co O ⟨xs, xp, xq⟩ (wr.alloc (.cells #[.string xs, .int .u32 xp, .int .u16 xq] 37)) (Reads.of_own HB.out.1) (by omega))
        have WI := Lib.hid fun W hr => with_any Ao O.length co O ⟨xs, xp, xq⟩ W hr (by omega)
        go_wp2_with fail
        refine HAS.out.mono ?_
        rintro e w1 ⟨⟨b, rfl, hbx⟩, hb1⟩
        have HBX := Lib.hid hbx
        have O1 := own_below HB.out.1 hb1
        have X1 := HB.out.2.2.below hb1 HB.out.2.2.lt
        have B1 := HB.out.2.1.trans (hb1.mono (HB.out.2.1.size))
        have k0 : w1.cell? ⟨wr.heap.size, 0, none⟩ = some (.string xs) := X1.cell 0
        have k1 : w1.cell? ⟨wr.heap.size, 1, none⟩ = some (.int .u32 xp) := X1.cell 1
        have k2 : w1.cell? ⟨wr.heap.size, 2, none⟩ = some (.int .u16 xq) := X1.cell 2
        have H1 := Lib.hid (And.intro O1 B1)
        clear hbx hb1 O1 X1 B1
        cases b
        · have WJ := Lib.hid (WI.out w1 (Reads.of_own H1.out.1))
          go_wp2_with fail
          refine WJ.out.mono ?_
          rintro e w2 ⟨A2, c2, rfl, o2, hb2⟩
          have hst : sortN l (i + 1) = withP O ⟨xs, xp, xq⟩ := by
           rw [hs.out]
           unfold stepP
           rw [HXX.out, if_pos ⟨HS.out, fun h => by have := HBX.out.2 h; cases this⟩]
          have H2 := Lib.hid (And.intro (World.ownsRow.mono o2 H1.out.2.size) (And.intro (H1.out.2.trans (hb2.mono H1.out.2.size)) hst))
          clear o2 hb2 hst
          go_wp2_with fail
          go_roundw
          case rel => exact ⟨i + 1, by go_num, by omega, by rw [H2.out.2.2]; exact H2.out.1, H2.out.2.1⟩
          case measure => simp [intOf]; omega
        · have hst : sortN l (i + 1) = O := by
           rw [hs.out]
           unfold stepP
           rw [HXX.out, if_neg fun h => h.2 (HBX.out.1 rfl)]
          have H2 := Lib.hid hst
          clear hst
          go_wp2_with fail
          go_roundw
          case rel => exact ⟨i + 1, by go_num, by omega, by rw [H2.out]; exact H1.out.1, H1.out.2⟩
          case measure => simp [intOf]; omega
      · have zI : (200 : Int) < (xs.size : Int) := by omega
        have hst : sortN l (i + 1) = O := by
         rw [hs.out]
         unfold stepP
         rw [HXX.out, if_neg fun h => hsz h.1]
        have H2 := Lib.hid hst
        clear hS1 hS2 h4 hsz hst
        go_wp2_with fail
        go_roundw
        case rel => exact ⟨i + 1, by go_num, by omega, by rw [H2.out]; exact HB.out.1, HB.out.2.1⟩
        case measure => simp [intOf]; omega
  · have i1 : (n : Int) ≤ (i : Int) := by omega
    have hin' : i = l.length := by rw [HL.out]; omega
    have hE : sortN l i = sortP l := by rw [hin']; exact sortN_end l
    rw [hE] at hO ⊢
    have HO := Lib.hid (And.intro hO hb)
    clear hO hb hE hin' hlen hco
    go_wp2_with fail
    go_ret
    exact ⟨Ao, co, rfl, HO.out.1, HO.out.2⟩
end
end Go.Proofs.YtebobcbaloddaaaGreat
namespace Go.Proofs.YtebobcbaloddaaaGreat
section
set_option linter.unusedSimpArgs false
set_option linter.unusedVariables false
open Go.RowKit Go.Maps
section
variable {w W W' : World} {base : Nat} {dk : Array Value} {o : Obj} {v' : Value}
end
end
end Go.Proofs.YtebobcbaloddaaaGreat
namespace Go.Proofs.YtebobcbaloddaaaGreat
section
set_option linter.unusedSimpArgs false
set_option linter.unusedVariables false
open Go.RowKit Go.Maps
section
variable {w : World} {base n : Nat} {vd : Value} {ps : List (List UInt8)} {T : List Bool}
end
end
end Go.Proofs.YtebobcbaloddaaaGreat
namespace Go.Proofs.YtebobcbaloddaaaGreat
section
set_option linter.unusedSimpArgs false
set_option linter.unusedVariables false
open Go.RowKit Go.Maps
section
variable {w : World} {base n : Nat} {vd : Value} {ps : List (List UInt8)} {T : List Bool}
end
end
end Go.Proofs.YtebobcbaloddaaaGreat
namespace Go.Proofs.YtebobcbaloddaaaGreat
section
set_option linter.unusedSimpArgs false
set_option linter.unusedVariables false
open Go.RowKit Go.Maps
end
end Go.Proofs.YtebobcbaloddaaaGreat
namespace Go.Proofs.YtebobcbaloddaaaGreat
section
set_option linter.unusedSimpArgs false
set_option linter.unusedVariables false
open Go.RowKit Go.Maps
def shV (a b c d : Int) : Value := .agg #[.int .i64 a, .int .i64 b, .int .i64 c, .int .i64 d]
def ChTold (w : World) (r : Option Ck) (e : Ending) (w' : World) : Prop :=
 (∃ st A c, r = some st ∧ e = .returned (.tuple #[.slice A st.L.length c, shV st.L.length st.lv st.pgs st.hi, .int .i64 0]) ∧ w'.ownsRow w.heap.size 37 3 (.slice A st.L.length c) st.L.length (vE st.L) ∧ st.L.length ≤ c ∧ CkOk (st.met.length) st) ∨
 (r = none ∧ ∃ x : Int, x ≠ 0 ∧ e = .returned (.tuple #[.slice none 0 0, shV 0 0 0 0, .int .i64 x]))
def RetCh (w : World) (lo gp gd gb gt n : Nat) (ps : List (List UInt8)) (T : List Bool) (gm size : Nat) (K : List Fr) (m : Nat) (r : Option Ck) (e : Ending) (w' : World) : Prop :=
 (∃ K' D' rd' ht', PS w' lo gp gd gb gt n ps T gm size K' D' rd' ht' ∧ rd' ≤ m + n + 1 ∧ ht' ≤ m + n + 1 ∧ ∀ (j : Nat) (f : Fr), K'[j]? = some f → (∃ i : Nat, K[i]? = some f) ∨ w.heap.size ≤ f.g) ∧ Turn w w' lo gp gm K ∧ ChTold w r e w'
theorem ck0_ok (n : Nat) : CkOk n (ck0 n) := ⟨by simp [ck0, trues], by simp [ck0], Nat.le_refl _, Nat.zero_le _, by simp [ck0]⟩
theorem ch_end {W : World} {R : Nat} {tm : Array Value} {Q : Ending → World → Prop} {u v a b c d : Value} (hR : Blk W R 55 #[a, b, c, d])
 (h4 : tm[4]? = some u) (h5 : tm[5]? = some (.pointer (some ⟨R, 0, none⟩))) (h6 : tm[6]? = some v) (h : Q (.returned (.tuple #[u, .agg #[a, b, c, d], v])) W) :
 bodyPost Tryz.prog Tryz.f22 Q Exit.ret { tmps := tm, defers := [] } W := by
 have q0 : W.cell? ⟨R, 0, none⟩ = _ := hR.cell 0
 have q1 : W.cell? ⟨R, 1, none⟩ = _ := hR.cell 1
 have q2 : W.cell? ⟨R, 2, none⟩ = _ := hR.cell 2
 have q3 : W.cell? ⟨R, 3, none⟩ = _ := hR.cell 3
 exact bodyPost_ret (v := .tuple #[u, .agg #[a, b, c, d], v]) (by simp [results, Tryz.results22, go_sem, h4, h5, h6, q0, q1, q2, q3]) rfl h
section
variable {w : World} {lo gp gd gb gt n : Nat} {ps : List (List UInt8)} {T : List Bool} {gm size : Nat} {K : List Fr} {D : DataW Unit} {rd ht m : Nat}
set_option maxRecDepth 100000 in
set_option maxHeartbeats 8000000 in
theorem check_any (h : PS w lo gp gd gb gt n ps T gm size K D rd ht) (hn : n ≤ 1000) (hn1 : 1 ≤ n) (hrd : rd ≤ m) (hht : ht ≤ m) (hm : m ≤ 800000) (hlo : lo ≤ w.heap.size) (root : Nat) (hroot : root < 4294967296) :
 Calls Tryz.prog 22 #[.pointer (some ⟨gp, 0, none⟩), .int .u32 root] w (RetCh w lo gp gd gb gt n ps T gm size K m (chkP ps root)) := by
 obtain ⟨i1, hi1, hz1, hs1, hy1⟩ := int_info8 Tryz.infoBool
 have mk1 : ∀ W, (Instr.makeSlice 59 (.int .i64 (n : Int)) (.int .i64 (n : Int))).run Tryz.prog W = .ok (.slice (some ⟨W.heap.size, 0, none⟩) n n) (W.alloc (.cells (tV (List.replicate n false)) 4)) := by
  intro W
  have h := run_make (P := Tryz.prog) W 59 4 i1 (.bool false) Tryz.underlying59 hi1 hz1 .i64 .i64 (n : Int) (n : Int) (by omega) (by omega) (by rw [hy1]; omega) (by omega)
  rw [Int.toNat_natCast, hs1, Nat.mul_one] at h
  have e : madeCells #[.bool false] n = tV (List.replicate n false) := by
   apply Array.ext
   · simp [size_madeCells, tV, tL]
   · intro j h1 h2
     simp [madeCells, Nat.mod_one, tV, tL]
  rw [show madeCells (Value.bool false).cells n = madeCells #[.bool false] n from rfl, e] at h
  exact h
 have hlt := h.dk.lts
 have hps := h.dk.hp
 have hfull := h.dk.full
 have hb0 := ball (Below.refl w.heap.size w) (.cells #[.int .i64 0, .int .i64 0, .int .i64 0, .int .i64 0] 55)
 have PGS := Lib.hid (pages_any (h.below hb0))
 have H0 := Lib.hid h
 clear hi1 hz1 hs1 hy1 h
 go_enter Tryz.func22, Tryz.ntmps22
 go_wp2_with fail
 refine PGS.out.mono ?_
 rintro e w1 ⟨rfl, rfl⟩
 have hb1 := ball (ball hb0 (.cells (tV (List.replicate n false)) 4)) (.cells #[.pointer (some ⟨gp, 0, none⟩), .slice (some ⟨w.heap.size + 1, 0, none⟩) n n, .slice none 0 0, .int .i64 0, .int .i64 0, .int .i64 0, .int .i64 0, .int .u32 0] 116)
 have XS := ((Blk.new w 55 #[.int .i64 0, .int .i64 0, .int .i64 0, .int .i64 0]).alloc (.cells (tV (List.replicate n false)) 4)).alloc (.cells #[.pointer (some ⟨gp, 0, none⟩), .slice (some ⟨w.heap.size + 1, 0, none⟩) n n, .slice none 0 0, .int .i64 0, .int .i64 0, .int .i64 0, .int .i64 0, .int .u32 0] 116)
 have XQ := (Blk.new (w.alloc (.cells #[.int .i64 0, .int .i64 0, .int .i64 0, .int .i64 0] 55)) 4 (tV (List.replicate n false))).alloc (.cells #[.pointer (some ⟨gp, 0, none⟩), .slice (some ⟨w.heap.size + 1, 0, none⟩) n n, .slice none 0 0, .int .i64 0, .int .i64 0, .int .i64 0, .int .i64 0, .int .u32 0] 116)
 have XC := Blk.new ((w.alloc (.cells #[.int .i64 0, .int .i64 0, .int .i64 0, .int .i64 0] 55)).alloc (.cells (tV (List.replicate n false)) 4)) 116 #[.pointer (some ⟨gp, 0, none⟩), .slice (some ⟨w.heap.size + 1, 0, none⟩) n n, .slice none 0 0, .int .i64 0, .int .i64 0, .int .i64 0, .int .i64 0, .int .u32 0]
 rw [alloc_size] at XQ
 rw [alloc_size, alloc_size] at XC
 go_wp2_with fail
 obtain ⟨W, hW⟩ : ∃ W, (((w.alloc (.cells #[.int .i64 0, .int .i64 0, .int .i64 0, .int .i64 0] 55)).alloc (.cells (tV (List.replicate n false)) 4)).alloc (.cells #[.pointer (some ⟨gp, 0, none⟩), .slice (some ⟨w.heap.size + 1, 0, none⟩) n n, .slice none 0 0, .int .i64 0, .int .i64 0, .int .i64 0, .int .i64 0, .int .u32 0] 116)) = W := ⟨_, rfl⟩
 rw [hW] at hb1 XS XQ XC ⊢
 clear hW mk1
 have hCS : CS w lo gp gd gb gt n ps T gm size K m (w.heap.size + 1 + 1) (w.heap.size + 1) (ck0 n) (.slice none 0 0) W :=
  ⟨⟨K, D, rd, ht, H0.out.below hb1, hrd, hht, fun j f hj => .inl ⟨j, hj⟩⟩, Turn.of_below hb1 hlo, XC, XQ, World.ownsRow_nil _ _ _ _, hlo, by omega, by omega, by omega, by simp [ck0], Nat.le_refl _⟩
 have HPG := Lib.hid (ckPage_any hps hfull hm hn 13 1 (by omega) (by omega) W (ck0 n) (.slice none 0 0) m root bnd0 hCS (ck0_ok n) (Nat.le_add_right _ _) hroot)
 have HCK : Hid (chkP ps root = (ckP ps 13 root 1 bnd0 (ck0 n)).bind fun st => if st.nx = 0 then some st else none) := Lib.hid (by unfold chkP; rw [hps])
 have HOK : Hid (∀ s, ckP ps 13 root 1 bnd0 (ck0 n) = some s → CkOk n s) := Lib.hid fun s hs => ckP_ok hps hfull 13 root 1 bnd0 (ck0 n) s (by omega) (ck0_ok n) hs
 generalize ckP ps 13 root 1 bnd0 (ck0 n) = R0 at *
 unfold bnd0 enZ Bnd.agg at HPG
 simp only at HPG
 have HXS := Lib.hid (And.intro XS (And.intro hCS hb1))
 clear XS XQ XC hCS hb0 hb1 PGS hps hfull
 refine HPG.out.mono ?_
 rintro e w2 ⟨st, v, c, hC, hE, hv, hres⟩
 -- what stands there at the end
 have XS2 := hE.blk HXS.out.1 (by decide) (by decide) (HXS.out.2.1.ne_m HXS.out.1) (HXS.out.2.1.ne_c HXS.out.1 (by decide)) (HXS.out.2.1.ne_q HXS.out.1 (by decide)) (HXS.out.2.1.ne_v HXS.out.1 (by decide))
 have s0 : w2.cell? ⟨w.heap.size, 0, none⟩ = some (.int .i64 0) := XS2.cell 0
 have s1 : w2.cell? ⟨w.heap.size, 1, none⟩ = some (.int .i64 0) := XS2.cell 1
 have s2 : w2.cell? ⟨w.heap.size, 2, none⟩ = some (.int .i64 0) := XS2.cell 2
 have s3 : w2.cell? ⟨w.heap.size, 3, none⟩ = some (.int .i64 0) := XS2.cell 3
 have t0 := XS2.frozen 0
 have t1 := XS2.frozen 1
 have t2 := XS2.frozen 2
 have t3 := XS2.frozen 3
 have ls := XS2.lt
 have k7 : w2.cell? ⟨w.heap.size + 1 + 1, 7, none⟩ = some (.int .u32 (st.nx : Int)) := hC.cb.cell 7
 have lc := hC.cb.lt
 -- a pool and its turn, behind stores into the shape
 have HBAD : Hid (∀ (x : Int), x ≠ 0 → c ≤ m + n + 1 → chkP ps root = none → RetCh w lo gp gd gb gt n ps T gm size K m (chkP ps root) (.returned (.tuple #[.slice none 0 0, .agg #[.int .i64 0, .int .i64 0, .int .i64 0, .int .i64 0], .int .i64 x])) ((((w2.setCell ⟨w.heap.size, 0, none⟩ (.int .i64 0)).setCell ⟨w.heap.size, 1, none⟩ (.int .i64 0)).setCell ⟨w.heap.size, 2, none⟩ (.int .i64 0)).setCell ⟨w.heap.size, 3, none⟩ (.int .i64 0))) := by
  refine Lib.hid fun x hx hc hno => ?_
  obtain ⟨K', D', rd', ht', p1, p2, p3, p4⟩ := hC.pool
  have hf : Far w2 ((((w2.setCell ⟨w.heap.size, 0, none⟩ (.int .i64 0)).setCell ⟨w.heap.size, 1, none⟩ (.int .i64 0)).setCell ⟨w.heap.size, 2, none⟩ (.int .i64 0)).setCell ⟨w.heap.size, 3, none⟩ (.int .i64 0)) w.heap.size :=
   ⟨fun g hg => (Below.heap_setCell _ _ _ _ hg).trans ((Below.heap_setCell _ _ _ _ hg).trans ((Below.heap_setCell _ _ _ _ hg).trans (Below.heap_setCell _ _ _ _ hg))), by simp [World.setCell], fun B w0 hB hb => below_set4 hb hB⟩
  exact ⟨⟨K', D', rd', ht', p1.far XS2 hf (by decide) (by decide) (by decide) (by decide) (by decide), by omega, by omega, p4⟩, hC.turn.far hf (Nat.le_refl _) hlo, .inr ⟨hno, x, hx, rfl⟩⟩
 have HXS2 := Lib.hid XS2
 have HC := Lib.hid hC
 have hpg := hE.size
 clear hC hE hv XS2
 rcases hres with ⟨s, hs, rfl, rfl, hcs⟩ | ⟨hno, ⟨x, hx, rfl⟩, hcs⟩
 · have hokS := HOK.out st hs
   by_cases hnx : st.nx = 0
   · have hnx' : ((st.nx : Int) != 0) = false := by rw [hnx]; rfl
     obtain ⟨A, ca, rfl, hca⟩ := own_form HC.out.row
     have hll := HC.out.ll
     have hlvn : st.lv ≤ 1000 := by have h0 := hokS.lv; have h1 := hokS.pg; have h2 := trues_le st.met; rw [hokS.ml] at h2; omega
     have hpn : st.pgs ≤ n := by have h1 := hokS.pg; have h2 := trues_le st.met; rw [hokS.ml] at h2; omega
     have k2 : w2.cell? ⟨w.heap.size + 1 + 1, 2, none⟩ = some (.slice A st.L.length ca) := HC.out.cb.cell 2
     have k3 : w2.cell? ⟨w.heap.size + 1 + 1, 3, none⟩ = some (.int .i64 0) := HC.out.cb.cell 3
     have f3 := HC.out.cb.frozen 3
     have X3 : Blk (w2.setCell ⟨w.heap.size + 1 + 1, 3, none⟩ (.int .i64 (st.L.length : Int))) (w.heap.size + 1 + 1) 116 #[.pointer (some ⟨gp, 0, none⟩), .slice (some ⟨w.heap.size + 1, 0, none⟩) n n, .slice A st.L.length ca, .int .i64 (st.L.length : Int), .int .i64 (st.lv : Int), .int .i64 (st.pgs : Int), .int .i64 (st.hi : Int), .int .u32 (st.nx : Int)] := by
      have := HC.out.cb.set_ 3 (.int .i64 (st.L.length : Int))
      simpa [ckArr] using this
     obtain ⟨K', D', rd', ht', p1, p2, p3, p4⟩ := HC.out.pool
     have hf1 := Far.set1 w2 (w.heap.size + 1 + 1) 3 (.int .i64 (st.L.length : Int))
     have q1 := p1.far HC.out.cb hf1 (by decide) (by decide) (by decide) (by decide) (by decide)
     have q2 := HC.out.turn.far hf1 (by omega) hlo
     have q3 := own_far HC.out.row HC.out.cb (by decide) 3 (.int .i64 (st.L.length : Int))
     have q4 := HXS2.out.far (p := ⟨w.heap.size + 1 + 1, 3, none⟩) (by simp; omega) (.int .i64 (st.L.length : Int))
     have HQ := Lib.hid (And.intro q1 (And.intro q2 (And.intro q3 (And.intro q4 X3))))
     have HF : Hid (chkP ps root = some st) := Lib.hid (by rw [HCK.out, hs]; simp [hnx])
     have HP := Lib.hid (And.intro p2 (And.intro p3 (And.intro p4 (And.intro hcs (And.intro hpn (And.intro hokS hca))))))
     clear q1 q2 q3 q4 X3 p1 p2 p3 p4 hf1 hs hcs hnx hokS HBAD
     go_wp2_with fail
     obtain ⟨w3, hw3⟩ : ∃ w3, (w2.setCell ⟨w.heap.size + 1 + 1, 3, none⟩ (.int .i64 (st.L.length : Int))) = w3 := ⟨_, rfl⟩
     rw [hw3] at HQ ⊢
     clear hw3 k2 k3 f3 k7 s0 s1 s2 s3 t0 t1 t2 t3 ls
     have k2 : w3.cell? ⟨w.heap.size + 1 + 1, 2, none⟩ = some (.slice A st.L.length ca) := HQ.out.2.2.2.2.cell 2
     have k3 : w3.cell? ⟨w.heap.size + 1 + 1, 3, none⟩ = some (.int .i64 (st.L.length : Int)) := HQ.out.2.2.2.2.cell 3
     have k4 : w3.cell? ⟨w.heap.size + 1 + 1, 4, none⟩ = some (.int .i64 (st.lv : Int)) := HQ.out.2.2.2.2.cell 4
     have k5 : w3.cell? ⟨w.heap.size + 1 + 1, 5, none⟩ = some (.int .i64 (st.pgs : Int)) := HQ.out.2.2.2.2.cell 5
     have k6 : w3.cell? ⟨w.heap.size + 1 + 1, 6, none⟩ = some (.int .i64 (st.hi : Int)) := HQ.out.2.2.2.2.cell 6
     have s0 : w3.cell? ⟨w.heap.size, 0, none⟩ = some (.int .i64 0) := HQ.out.2.2.2.1.cell 0
     have s1 : w3.cell? ⟨w.heap.size, 1, none⟩ = some (.int .i64 0) := HQ.out.2.2.2.1.cell 1
     have s2 : w3.cell? ⟨w.heap.size, 2, none⟩ = some (.int .i64 0) := HQ.out.2.2.2.1.cell 2
     have s3 : w3.cell? ⟨w.heap.size, 3, none⟩ = some (.int .i64 0) := HQ.out.2.2.2.1.cell 3
     have t0 := HQ.out.2.2.2.1.frozen 0
     have t1 := HQ.out.2.2.2.1.frozen 1
     have t2 := HQ.out.2.2.2.1.frozen 2
     have t3 := HQ.out.2.2.2.1.frozen 3
     have ls := HQ.out.2.2.2.1.lt
     have HEND : Hid (RetCh w lo gp gd gb gt n ps T gm size K m (chkP ps root) (.returned (.tuple #[.slice A st.L.length ca, .agg #[.int .i64 (st.L.length : Int), .int .i64 (st.lv : Int), .int .i64 (st.pgs : Int), .int .i64 (st.hi : Int)], .int .i64 0])) ((((w3.setCell ⟨w.heap.size, 0, none⟩ (.int .i64 (st.L.length : Int))).setCell ⟨w.heap.size, 1, none⟩ (.int .i64 (st.lv : Int))).setCell ⟨w.heap.size, 2, none⟩ (.int .i64 (st.pgs : Int))).setCell ⟨w.heap.size, 3, none⟩ (.int .i64 (st.hi : Int))).drew ∧
      Blk ((((w3.setCell ⟨w.heap.size, 0, none⟩ (.int .i64 (st.L.length : Int))).setCell ⟨w.heap.size, 1, none⟩ (.int .i64 (st.lv : Int))).setCell ⟨w.heap.size, 2, none⟩ (.int .i64 (st.pgs : Int))).setCell ⟨w.heap.size, 3, none⟩ (.int .i64 (st.hi : Int))).drew w.heap.size 55 #[.int .i64 (st.L.length : Int), .int .i64 (st.lv : Int), .int .i64 (st.pgs : Int), .int .i64 (st.hi : Int)]) := by
      have hf : Far w3 ((((w3.setCell ⟨w.heap.size, 0, none⟩ (.int .i64 (st.L.length : Int))).setCell ⟨w.heap.size, 1, none⟩ (.int .i64 (st.lv : Int))).setCell ⟨w.heap.size, 2, none⟩ (.int .i64 (st.pgs : Int))).setCell ⟨w.heap.size, 3, none⟩ (.int .i64 (st.hi : Int))) w.heap.size :=
       ⟨fun g hg => (Below.heap_setCell _ _ _ _ hg).trans ((Below.heap_setCell _ _ _ _ hg).trans ((Below.heap_setCell _ _ _ _ hg).trans (Below.heap_setCell _ _ _ _ hg))), by simp [World.setCell], fun B w0 hB hb => below_set4 hb hB⟩
      have X := HQ.out.2.2.2.1
      have hdr := Below.drew (Below.refl ((((w3.setCell ⟨w.heap.size, 0, none⟩ (.int .i64 (st.L.length : Int))).setCell ⟨w.heap.size, 1, none⟩ (.int .i64 (st.lv : Int))).setCell ⟨w.heap.size, 2, none⟩ (.int .i64 (st.pgs : Int))).setCell ⟨w.heap.size, 3, none⟩ (.int .i64 (st.hi : Int))).heap.size ((((w3.setCell ⟨w.heap.size, 0, none⟩ (.int .i64 (st.L.length : Int))).setCell ⟨w.heap.size, 1, none⟩ (.int .i64 (st.lv : Int))).setCell ⟨w.heap.size, 2, none⟩ (.int .i64 (st.pgs : Int))).setCell ⟨w.heap.size, 3, none⟩ (.int .i64 (st.hi : Int))))
      obtain ⟨p2, p3, p4, hcs, hpn, hokS, hca⟩ := HP.out
      refine Lib.hid ⟨⟨⟨K', D', rd', ht', (HQ.out.1.far X hf (by decide) (by decide) (by decide) (by decide) (by decide)).below hdr, by omega, by omega, p4⟩, (HQ.out.2.1.far hf (Nat.le_refl _) hlo).more hdr hlo, .inl ⟨st, A, ca, HF.out, rfl, own_below (ownR_stays HQ.out.2.2.1 fun g cs _ hb => hf.heap g (hb.ne_ X (by decide))) hdr, hca, by rw [hokS.ml]; exact hokS⟩⟩, (blk4 X).drew⟩
     go_region
     all_goals (go_wp2; exact ch_end HEND.out.2 rfl rfl rfl HEND.out.1)
   · have hnx' : ((st.nx : Int) != 0) = true := by simp; omega
     have hpn : st.pgs ≤ n := by have h1 := hokS.pg; have h2 := trues_le st.met; rw [hokS.ml] at h2; omega
     have HF := Lib.hid (HBAD.out 2 (by decide) (by omega) (by rw [HCK.out, hs]; simp [hnx]))
     clear hnx hs hokS hcs HBAD
     go_wp2
     exact ch_end (blk4 HXS2.out) rfl rfl rfl HF.out
 · have hxb : (x == 0) = false := by simpa using hx
   have hxb2 : (x != 0) = true := by simpa using hx
   have HF := Lib.hid (HBAD.out x hx hcs (by rw [HCK.out, hno]; rfl))
   clear hno hx hcs HBAD
   go_wp2
   exact ch_end (blk4 HXS2.out) rfl rfl rfl HF.out
end
end
end Go.Proofs.YtebobcbaloddaaaGreat
namespace Go.Proofs.YtebobcbaloddaaaGreat
section
set_option linter.unusedSimpArgs false
set_option linter.unusedVariables false
open Go.RowKit Go.Maps
theorem bdF_root : (bdP [] (pagesOf (zb 3) 3) (marksOf (zb 3) 3)).2.2 = some 1 := by kernel_rfl
theorem bdF_chk : chkP (bdP [] (pagesOf (zb 3) 3) (marksOf (zb 3) 3)).1 1 = some ⟨[false, true, false], [], 1, 1, 1, 0⟩ := by kernel_rfl
set_option maxRecDepth 100000 in
set_option maxHeartbeats 2000000 in
theorem fixed11_any (w : World) : Calls Tryz.prog 8 #[] w (RetB w (.bool true)) := by
 have ND := Lib.hid (newDP 3 (by omega) (by omega) w)
 go_enter Tryz.func8, Tryz.ntmps8
 go_wp2_with fail
 refine ND.out.mono ?_
 rintro e w1 ⟨g, gb, gt, rfl, hd, k1, k2, k3, hb1⟩
 have BU := Lib.hid (build_any hd (by omega) (A := none) (m := 0) (c := 0) (l := []) ⟨rfl, fun h => absurd h (by omega)⟩ (fun ad h => by cases h) (fun e he => by cases he) rfl (by omega) (by omega) (by decide))
 have hB := bdF_root
 have hC := bdF_chk
 generalize bdP [] (pagesOf (zb 3) 3) (marksOf (zb 3) 3) = R at *
 have HC := Lib.hid hC
 clear hd ND hC
 go_wp2_with fail
 refine BU.out.mono ?_
 rintro e w2 ⟨hd2, hL, hres⟩
 rcases hres with ⟨root, hroot, rfl⟩ | ⟨hno, rfl⟩
 rotate_left
 · rw [hno] at hB; cases hB
 rw [hB] at hroot
 injection hroot with hroot
 subst hroot
 have hb2 : Below w.heap.size w1 w2 := hL.below w.heap.size k2 k3 hb1.size
 have hb3 := hb1.trans hb2
 have PN := Lib.hid (pnew_any hd2 (size := 3) (by omega) (by omega))
 clear hB hL hd2 BU hb1 hb2
 go_wp2_with fail
 refine PN.out.mono ?_
 rintro e w3 ⟨gp, gm, D, rfl, hp, hb4, k4, k5⟩
 have hz := hb3.size
 have hb5 := hb3.trans (hb4.mono hz)
 have CH := Lib.hid (check_any hp (m := 0) (by omega) (by omega) (by omega) (by omega) (by omega) hb4.size 1 (by omega))
 rw [HC.out] at CH
 clear hp PN hb4
 go_wp2_with fail
 refine CH.out.mono ?_
 rintro e w4 ⟨_, tn, ht⟩
 rcases ht with ⟨st, A, c, hst, rfl, _, _, _⟩ | ⟨hno, _⟩
 rotate_left
 · cases hno
 injection hst with hst
 subst hst
 have hb6 := tn.below w.heap.size w hz hb5
 have HB := Lib.hid hb6
 clear tn CH hb5 hb6
 unfold shV
 go_wp2
 go_ret
 exact ⟨rfl, ball HB.out _⟩
end
end Go.Proofs.YtebobcbaloddaaaGreat
namespace Go.Proofs.YtebobcbaloddaaaGreat
section
set_option linter.unusedSimpArgs false
set_option linter.unusedVariables false
open Go.RowKit Go.Maps
end
end Go.Proofs.YtebobcbaloddaaaGreat
namespace Go.Proofs.YtebobcbaloddaaaGreat
section
set_option linter.unusedSimpArgs false
set_option linter.unusedVariables false
open Go.RowKit Go.Maps
theorem marks_len (L : List UInt8) (n : Nat) : (marksOf L n).length = n := by simp [marksOf]
end
end Go.Proofs.YtebobcbaloddaaaGreat
