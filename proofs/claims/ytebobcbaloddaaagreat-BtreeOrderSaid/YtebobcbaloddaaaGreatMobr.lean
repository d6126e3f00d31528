/-
  B16 B17 B18 B19 B20 B22 B23.
-/
import Derived.Test.YtebobcbaloddaaaGreatMobq
import Derived.Test.YtebobcbaloddaaaGreatMobn
import Derived.Deep.DeepCutAuto
import Derived.Test.YtebobcbaloddaaaGreatMozz
namespace Go.Proofs.YtebobcbaloddaaaGreat
section
set_option linter.unusedSimpArgs false
set_option linter.unusedVariables false
open Go.RowKit Go.Maps
def bLo (b : Bnd) (l : List En) : Nat → En
 | 0 => b.lo
 | j + 1 => match l[j]? with
   | some x => if 0 < cmpE x b.lo then x else b.lo
   | none => b.lo
def bChild (b : Bnd) (l : List En) (i : Nat) : Bnd := match l[i]? with
 | some x => if b.ends = false ∨ cmpE x b.hi < 0 then ⟨bLo b l i, x, true⟩ else ⟨bLo b l i, b.hi, b.ends⟩
 | none => ⟨bLo b l i, b.hi, b.ends⟩
@[reducible] def bArr (lo hi : En) (en : Bool) : Array Value := #[.string lo.s, .int .u32 lo.p, .int .u16 lo.q, .string hi.s, .int .u32 hi.p, .int .u16 hi.q, .bool en]
theorem bn_end {W : World} {R : Nat} {tm : Array Value} {Q : Ending → World → Prop} {b : Bnd} (hR : Blk W R 119 b.arr)
 (h6 : tm[6]? = some (.pointer (some ⟨R, 0, none⟩))) (h : Q (.returned b.agg) W) :
 bodyPost Tryz.prog Tryz.f107 Q Exit.ret { tmps := tm, defers := [] } W := by
 have q0 : W.cell? ⟨R, 0, none⟩ = _ := hR.cell 0
 have q1 : W.cell? ⟨R, 1, none⟩ = _ := hR.cell 1
 have q2 : W.cell? ⟨R, 2, none⟩ = _ := hR.cell 2
 have q3 : W.cell? ⟨R, 3, none⟩ = _ := hR.cell 3
 have q4 : W.cell? ⟨R, 4, none⟩ = _ := hR.cell 4
 have q5 : W.cell? ⟨R, 5, none⟩ = _ := hR.cell 5
 have q6 : W.cell? ⟨R, 6, none⟩ = _ := hR.cell 6
 exact bodyPost_ret (v := b.agg) (by simp [results, Tryz.results107, go_sem, h6, q0, q1, q2, q3, q4, q5, q6, Bnd.agg]) rfl h
theorem set3 {W : World} {R : Nat} {t : TypeId} {a b c d e f g a' b' c' : Value} (h : Blk W R t #[a, b, c, d, e, f, g]) : Blk (((W.setCell ⟨R, 0, none⟩ a').setCell ⟨R, 1, none⟩ b').setCell ⟨R, 2, none⟩ c') R t #[a', b', c', d, e, f, g] := by
 have := ((h.set_ 0 a').set_ 1 b').set_ 2 c'
 simpa using this
theorem set4 {W : World} {R : Nat} {t : TypeId} {a b c d e f g d' e' f' g' : Value} (h : Blk W R t #[a, b, c, d, e, f, g]) : Blk ((((W.setCell ⟨R, 3, none⟩ d').setCell ⟨R, 4, none⟩ e').setCell ⟨R, 5, none⟩ f').setCell ⟨R, 6, none⟩ g') R t #[a, b, c, d', e', f', g'] := by
 have := (((h.set_ 3 d').set_ 4 e').set_ 5 f').set_ 6 g'
 simpa using this
theorem set7 {W : World} {R : Nat} {t : TypeId} {a b c d e f g a' b' c' d' e' f' g' : Value} (h : Blk W R t #[a, b, c, d, e, f, g]) : Blk (((((((W.setCell ⟨R, 0, none⟩ a').setCell ⟨R, 1, none⟩ b').setCell ⟨R, 2, none⟩ c').setCell ⟨R, 3, none⟩ d').setCell ⟨R, 4, none⟩ e').setCell ⟨R, 5, none⟩ f').setCell ⟨R, 6, none⟩ g') R t #[a', b', c', d', e', f', g'] := by
 have := ((((((h.set_ 0 a').set_ 1 b').set_ 2 c').set_ 3 d').set_ 4 e').set_ 5 f').set_ 6 g'
 simpa using this
def CutB (w : World) (lo hi : En) (en : Bool) (wx : World) : Prop := Blk wx w.heap.size 119 (bArr lo hi en) ∧ Blk wx (w.heap.size + 1) 119 (bArr enZ enZ false) ∧ Below w.heap.size w wx
theorem CutB.below {w wx W : World} {lo hi : En} {en : Bool} (h : CutB w lo hi en wx) (hb : Below wx.heap.size wx W) : CutB w lo hi en W := ⟨h.1.below hb h.1.lt, h.2.1.below hb h.2.1.lt, bto0 h.2.2 hb⟩
theorem CutB.drew {w wx : World} {lo hi : En} {en : Bool} (h : CutB w lo hi en wx) : CutB w lo hi en wx.drew := ⟨h.1.drew, h.2.1.drew, h.2.2.drew⟩
theorem CutB.lo_ {w wx : World} {lo hi x : En} {en : Bool} (h : CutB w lo hi en wx) : CutB w x hi en (((wx.setCell ⟨w.heap.size, 0, none⟩ (.string x.s)).setCell ⟨w.heap.size, 1, none⟩ (.int .u32 x.p)).setCell ⟨w.heap.size, 2, none⟩ (.int .u16 x.q)) :=
 ⟨set3 h.1, ((h.2.1.far (by simp) _).far (by simp) _).far (by simp) _, ((h.2.2.setCell (p := ⟨w.heap.size, 0, none⟩) (Nat.le_refl _) _).setCell (p := ⟨w.heap.size, 1, none⟩) (Nat.le_refl _) _).setCell (p := ⟨w.heap.size, 2, none⟩) (Nat.le_refl _) _⟩
theorem CutB.hi_ {w wx : World} {lo hi x : En} {en : Bool} (h : CutB w lo hi en wx) : CutB w lo x true ((((wx.setCell ⟨w.heap.size, 3, none⟩ (.string x.s)).setCell ⟨w.heap.size, 4, none⟩ (.int .u32 x.p)).setCell ⟨w.heap.size, 5, none⟩ (.int .u16 x.q)).setCell ⟨w.heap.size, 6, none⟩ (.bool true)) :=
 ⟨set4 h.1, (((h.2.1.far (by simp) _).far (by simp) _).far (by simp) _).far (by simp) _, (((h.2.2.setCell (p := ⟨w.heap.size, 3, none⟩) (Nat.le_refl _) _).setCell (p := ⟨w.heap.size, 4, none⟩) (Nat.le_refl _) _).setCell (p := ⟨w.heap.size, 5, none⟩) (Nat.le_refl _) _).setCell (p := ⟨w.heap.size, 6, none⟩) (Nat.le_refl _) _⟩
theorem ent_of {w : World} {n k : Nat} {A : Option Addr} {l : List En} {x : En} (hr : Reads w w.heap.size 3 A n (vE l)) (hx : l[k]? = some x) : ∃ ad, A = some ad ∧ (ad.add (k * 3)).block < w.heap.size ∧ k < n ∧ ∀ W, Below w.heap.size w W → W.cell? (ad.add (k * 3)) = some (.string x.s) ∧ W.cell? ⟨(ad.add (k * 3)).block, (ad.add (k * 3)).off + 1, none⟩ = some (.int .u32 x.p) ∧ W.cell? ⟨(ad.add (k * 3)).block, (ad.add (k * 3)).off + 2, none⟩ = some (.int .u16 x.q) := by
 have hl : l.length = n := by have := hr.1; rw [vE_len] at this; omega
 have hk : k < n := by rw [← hl]; exact lt_of_at hx
 obtain ⟨ad, v, e, hab, hv, u0, u1, u2⟩ := hr.ent hk
 have : x = v := by rw [hx] at hv; injection hv
 subst this
 have hb : (ad.add (k * 3)).block < w.heap.size := by rw [block_of_add]; exact hab
 exact ⟨ad, e, hb, hk, fun W hW => ⟨(hW.cell (p := ad.add (k * 3)) hb).trans u0, (hW.cell (p := ⟨(ad.add (k * 3)).block, _, none⟩) hb).trans u1, (hW.cell (p := ⟨(ad.add (k * 3)).block, _, none⟩) hb).trans u2⟩⟩
def LoT (b : Bnd) (l : List En) (i : Nat) (lo' : En) (B : Bool) : Prop :=
 (B = true ∧ ∃ j x, i = j + 1 ∧ l[j]? = some x ∧ 0 < cmpE x b.lo ∧ lo' = x) ∨ (B = false ∧ lo' = b.lo ∧ (i = 0 ∨ ∃ j x, i = j + 1 ∧ l[j]? = some x ∧ ¬ 0 < cmpE x b.lo))
theorem loT (b : Bnd) (l : List En) (i : Nat) (hi : i ≤ l.length) : ∃ B, LoT b l i (bLo b l i) B := by
 cases i with
 | zero => exact ⟨false, .inr ⟨rfl, rfl, .inl rfl⟩⟩
 | succ j =>
   obtain ⟨x, hx⟩ : ∃ x, l[j]? = some x := ⟨_, List.getElem?_eq_getElem (by omega)⟩
   by_cases h : 0 < cmpE x b.lo
   · exact ⟨true, .inl ⟨rfl, j, x, rfl, hx, h, by rw [bLo, hx]; simp [h]⟩⟩
   · exact ⟨false, .inr ⟨rfl, by rw [bLo, hx]; simp [h], .inr ⟨j, x, rfl, hx, h⟩⟩⟩
def HiT (b : Bnd) (l : List En) (i : Nat) (hi' : En) (en' B : Bool) : Prop :=
 (B = true ∧ ∃ x, l[i]? = some x ∧ (b.ends = false ∨ cmpE x b.hi < 0) ∧ hi' = x ∧ en' = true) ∨ (B = false ∧ hi' = b.hi ∧ en' = b.ends ∧ (l[i]? = none ∨ ∃ x, l[i]? = some x ∧ b.ends = true ∧ ¬ cmpE x b.hi < 0))
theorem hiT (b : Bnd) (l : List En) (i : Nat) : ∃ B, HiT b l i (bChild b l i).hi (bChild b l i).ends B := by
 unfold bChild
 cases hx : l[i]? with
 | none => exact ⟨false, .inr ⟨rfl, rfl, rfl, .inl hx⟩⟩
 | some x =>
   by_cases h : b.ends = false ∨ cmpE x b.hi < 0
   · exact ⟨true, .inl ⟨rfl, x, hx, h, by simp [h], by simp [h]⟩⟩
   · refine ⟨false, .inr ⟨rfl, by simp [h], by simp [h], .inr ⟨x, hx, ?_, fun h2 => h (.inr h2)⟩⟩⟩
     cases he : b.ends with
     | true => rfl
     | false => exact absurd (.inl he) h
theorem bChild_lo (b : Bnd) (l : List En) (i : Nat) : (bChild b l i).lo = bLo b l i := by
 unfold bChild; split
 · split <;> rfl
 · rfl
set_option maxRecDepth 100000 in
set_option maxHeartbeats 8000000 in
theorem bchild_any (b : Bnd) (A : Option Addr) (n c : Nat) (l : List En) (i : Nat) (w : World) (hr : Reads w w.heap.size 3 A n (vE l)) (hi : i ≤ n) (hn : n ≤ 100000) :
 Calls Tryz.prog 107 #[b.agg, .slice A n c, .int .i64 i] w (RetB w (bChild b l i).agg) := by
 have hb0 := ball (ball (Below.refl w.heap.size w) (.cells b.arr 119)) (.cells (bArr enZ enZ false) 119)
 have X0 := (Blk.new w 119 b.arr).alloc (.cells (bArr enZ enZ false) 119)
 have X1 := Blk.new (w.alloc (.cells b.arr 119)) 119 (bArr enZ enZ false)
 rw [alloc_size] at X1
 have hzX : ((w.alloc (.cells b.arr 119)).alloc (.cells (bArr enZ enZ false) 119)).heap.size = w.heap.size + 1 + 1 := by simp
 have hl : l.length = n := by have := hr.1; rw [vE_len] at this; omega
 obtain ⟨B1, hB1⟩ := loT b l i (by omega)
 obtain ⟨B2, hB2⟩ := hiT b l i
 have hRlo := bChild_lo b l i
 have HH := Lib.hid (And.intro hB1 (And.intro hB2 (And.intro hRlo hl)))
 clear hB1 hB2 hRlo hl
 generalize bChild b l i = RB at *
 generalize bLo b l i = lo' at *
 have i0 : (0 : Int) ≤ (i : Int) := by omega
 have i1 : (i : Int) ≤ 100000 := by omega
 have HR := Lib.hid hr
 obtain ⟨⟨s1, p1, q1⟩, ⟨s2, p2, q2⟩, en⟩ := b
 unfold Bnd.agg Bnd.arr at *
 simp only at *
 have H0 := Lib.hid (show CutB w ⟨s1, p1, q1⟩ ⟨s2, p2, q2⟩ en _ from ⟨X0, X1, hb0⟩)
 clear hr X0 X1 hb0
 unfold bArr enZ at H0 hzX
 simp only at H0 hzX
 go_enter Tryz.func107, Tryz.ntmps107
 go_wp2_with fail
 obtain ⟨WX, hWX⟩ : ∃ WX, ((w.alloc (.cells #[.string s1, .int .u32 p1, .int .u16 q1, .string s2, .int .u32 p2, .int .u16 q2, .bool en] 119)).alloc (.cells #[.string ⟨#[]⟩, .int .u32 0, .int .u16 0, .string ⟨#[]⟩, .int .u32 0, .int .u16 0, .bool false] 119)) = WX := ⟨_, rfl⟩
 rw [hWX] at H0 hzX ⊢
 clear hWX
 go_upto_region 1 with fail
 go_cut [19] (fun s19 wx => s19 = .bool B1 ∧ CutB w ⟨s1, p1, q1⟩ ⟨s2, p2, q2⟩ en wx)
 case first =>
  rcases HH.out.1 with ⟨rfl, j, x, hj, hx, hz, hlo⟩ | ⟨rfl, hlo, hi0 | ⟨j, x, hj, hx, hz⟩⟩
  · obtain ⟨ad, rfl, hbm, hjn, HE⟩ := ent_of HR.out hx
    have C1 := Lib.hid fun W => compareE_any x ⟨s1, p1, q1⟩ W
    have lt2 : (ad.add (j * 3)).block < WX.heap.size := by omega
    have hS : Hid (∀ W, Below WX.heap.size WX W → W.cell? (ad.add (j * 3)) = some (.string x.s) ∧ W.cell? ⟨(ad.add (j * 3)).block, (ad.add (j * 3)).off + 1, none⟩ = some (.int .u32 x.p) ∧ W.cell? ⟨(ad.add (j * 3)).block, (ad.add (j * 3)).off + 2, none⟩ = some (.int .u16 x.q) ∧ W.cell? ⟨w.heap.size, 0, none⟩ = some (.string s1) ∧ W.cell? ⟨w.heap.size, 1, none⟩ = some (.int .u32 p1) ∧ W.cell? ⟨w.heap.size, 2, none⟩ = some (.int .u16 q1) ∧ W.cell? ⟨w.heap.size, 3, none⟩ = some (.string s2) ∧ W.cell? ⟨w.heap.size, 4, none⟩ = some (.int .u32 p2) ∧ W.cell? ⟨w.heap.size, 5, none⟩ = some (.int .u16 q2) ∧ W.cell? ⟨w.heap.size, 6, none⟩ = some (.bool en) ∧ Below WX.heap.size WX W) := by
     refine Lib.hid fun W hW => ?_
     have Y := (H0.out.below hW)
     obtain ⟨e1, e2, e3⟩ := HE W Y.2.2
     exact ⟨e1, e2, e3, Y.1.cell 0, Y.1.cell 1, Y.1.cell 2, Y.1.cell 3, Y.1.cell 4, Y.1.cell 5, Y.1.cell 6, hW⟩
    have g0 : decide ((0 : Int) < (i : Int)) = true := decide_eq_true (by omega)
    have g0n : decide (0 < i) = true := decide_eq_true (by omega)
    have g1 : IntKind.i64.wrap ((i : Int) - 1) = (j : Int) := by rw [show (i : Int) - 1 = (j : Int) from by omega]; exact IntWalk.i64_in _ (by omega)
    have g1' : (i : Int) - 1 = (j : Int) := by omega
    have g1w : IntKind.i64.wrap (j : Int) = (j : Int) := IntWalk.i64_in _ (by omega)
    have g2 : (0 : Int) ≤ (j : Int) := by omega
    have g3 : (j : Int) < (n : Int) := by omega
    obtain ⟨s, p, q⟩ := x
    unfold En.agg at C1
    simp only at C1 hz hS
    generalize cmpE ⟨s, p, q⟩ ⟨s1, p1, q1⟩ = z at *
    have d1 : decide (0 < z) = true := decide_eq_true hz
    clear hj hx HE
    obtain ⟨y0, y1, y2, y3, y4, y5, y6, y7, y8, y9, y10⟩ := hS.out WX (Below.refl _ _)
    clear y10
    refine wp_region_held_drew (S := (fun W => W.cell? (ad.add (j * 3)) = some (.string s) ∧ W.cell? ⟨(ad.add (j * 3)).block, (ad.add (j * 3)).off + 1, none⟩ = some (.int .u32 p) ∧ W.cell? ⟨(ad.add (j * 3)).block, (ad.add (j * 3)).off + 2, none⟩ = some (.int .u16 q) ∧ W.cell? ⟨w.heap.size, 0, none⟩ = some (.string s1) ∧ W.cell? ⟨w.heap.size, 1, none⟩ = some (.int .u32 p1) ∧ W.cell? ⟨w.heap.size, 2, none⟩ = some (.int .u16 q1) ∧ W.cell? ⟨w.heap.size, 3, none⟩ = some (.string s2) ∧ W.cell? ⟨w.heap.size, 4, none⟩ = some (.int .u32 p2) ∧ W.cell? ⟨w.heap.size, 5, none⟩ = some (.int .u16 q2) ∧ W.cell? ⟨w.heap.size, 6, none⟩ = some (.bool en) ∧ Below WX.heap.size WX W)) (by kernel_rfl) (by exact hS.out _ (Below.drew (Below.refl _ _))) (fun hHeld => ?_)
    try dsimp only at hHeld
    refine zt 0 ?_ rfl (by kernel_rfl) (fun _ _ _ h => h) ⟨rfl, ?_⟩ hHeld ?_
    rotate_left
    focus (intro wx hSw; (try dsimp only at hSw); (try go_split_ands); go_simp; (try with_reducible rfl))
    try simp only [Act.put, za1, za2, za3, za4, za5, za6]
    refine zt 1 ?_ rfl (by kernel_rfl) (fun _ _ _ h => h) ⟨rfl, ?_⟩ hHeld ?_
    rotate_left
    focus (intro wx hSw; (try dsimp only at hSw); (try go_split_ands); go_simp; (try with_reducible rfl))
    try simp only [Act.put, za1, za2, za3, za4, za5, za6]
    refine zt 2 ?_ rfl (by kernel_rfl) (fun _ _ _ h => h) ⟨rfl, ?_⟩ hHeld ?_
    rotate_left
    focus (intro wx hSw; (try dsimp only at hSw); (try go_split_ands); go_simp; (try with_reducible rfl))
    try simp only [Act.put, za1, za2, za3, za4, za5, za6]
    refine zt 3 ?_ rfl (by kernel_rfl) (fun _ _ _ h => h) ⟨rfl, ?_⟩ hHeld ?_
    rotate_left
    focus (intro wx hSw; (try dsimp only at hSw); (try go_split_ands); go_simp; (try with_reducible rfl))
    try simp only [Act.put, za1, za2, za3, za4, za5, za6]
    refine zt 4 ?_ rfl (by kernel_rfl) (fun _ _ _ h => h) ⟨rfl, ?_⟩ hHeld ?_
    rotate_left
    focus (intro wx hSw; (try dsimp only at hSw); (try go_split_ands); go_simp; (try with_reducible rfl))
    try simp only [Act.put, za1, za2, za3, za4, za5, za6]
    refine zt 5 ?_ rfl (by kernel_rfl) (fun _ _ _ h => h) ⟨rfl, ?_⟩ hHeld ?_
    rotate_left
    focus (intro wx hSw; (try dsimp only at hSw); (try go_split_ands); go_simp; (try with_reducible rfl))
    try simp only [Act.put, za1, za2, za3, za4, za5, za6]
    refine zt 6 ?_ rfl (by kernel_rfl) (fun _ _ _ h => h) ⟨rfl, ?_⟩ hHeld ?_
    rotate_left
    focus (intro wx hSw; (try dsimp only at hSw); (try go_split_ands); go_simp; (try with_reducible rfl))
    try simp only [Act.put, za1, za2, za3, za4, za5, za6]
    refine zt 7 ?_ rfl (by kernel_rfl) (fun _ _ _ h => h) ⟨rfl, ?_⟩ hHeld ?_
    rotate_left
    focus (intro wx hSw; (try dsimp only at hSw); (try go_split_ands); go_simp; (try with_reducible rfl))
    try simp only [Act.put, za1, za2, za3, za4, za5, za6]
    refine zt 8 ?_ rfl (by kernel_rfl) (fun _ _ _ h => h) ⟨rfl, ?_⟩ hHeld ?_
    rotate_left
    focus (intro wx hSw; (try dsimp only at hSw); (try go_split_ands); go_simp; (try with_reducible rfl))
    try simp only [Act.put, za1, za2, za3, za4, za5, za6]
    refine zt 9 ?_ rfl (by kernel_rfl) (fun _ _ _ h => h) ⟨rfl, ?_⟩ hHeld ?_
    rotate_left
    focus (intro wx hSw; (try dsimp only at hSw); (try go_split_ands); go_simp; (try with_reducible rfl))
    try simp only [Act.put, za1, za2, za3, za4, za5, za6]
    refine wpAnyH_ready (rs := [10]) (by kernel_rfl) (by simp) (AllReadyH.cons rfl (fun K hK => ?_) AllReadyH.nil)
    go_simp
    (with_reducible refine (C1.out _).mono ?_); rintro e w1 ⟨rfl, hb1⟩
    go_wp2_with fail
    refine hK.out _ _ ?_ (fun hHeld => ?_)
    · ((try dsimp only); (try dsimp only at hHeld); (first | exact hS.out _ (by (with_reducible repeat (first | exact Below.refl _ _ | exact hb1 | refine bto0 ?_ hb1 | refine bdr ?_ _ | refine Below.drew ?_ | refine ball ?_ _))) | assumption))
    clear hK K
    try dsimp only at hHeld
    try simp only [Act.put, za1, za2, za3, za4, za5, za6]
    refine zt 11 ?_ rfl (by kernel_rfl) (fun _ _ _ h => h) ⟨rfl, ?_⟩ hHeld ?_
    rotate_left
    focus (intro wx hSw; (try dsimp only at hSw); (try go_split_ands); go_simp; (try with_reducible rfl))
    try simp only [Act.put, za1, za2, za3, za4, za5, za6]
    refine zt 12 ?_ rfl (by kernel_rfl) (fun _ _ _ h => h) ⟨rfl, ?_⟩ hHeld ?_
    rotate_left
    focus (intro wx hSw; (try dsimp only at hSw); (try go_split_ands); go_simp; (try with_reducible rfl))
    try simp only [Act.put, za1, za2, za3, za4, za5, za6]
    refine wpAnyH_done (by kernel_rfl) ?_ _
    have hw1 : Below WX.heap.size WX w1 := by (with_reducible repeat (first | exact Below.refl _ _ | exact hb1 | refine bto0 ?_ hb1 | refine bdr ?_ _ | refine Below.drew ?_ | refine ball ?_ _))
    have HY := Lib.hid (H0.out.below hw1)
    clear hw1 y0 y1 y2 y3 y4 y5 y6 y7 y8 y9
    go_wp2_with fail
    go_meet
    case rel => exact ⟨rfl, HY.out⟩
  · have g0 : decide ((0 : Int) < (i : Int)) = false := decide_eq_false (by omega)
    have g0n : decide (0 < i) = false := decide_eq_false (by omega)
    have hS : Hid (∀ W, Below WX.heap.size WX W → True ∧ Below WX.heap.size WX W) := Lib.hid fun W hW => ⟨trivial, hW⟩
    clear hi0
    refine wp_region_held_drew (S := (fun W => True ∧ Below WX.heap.size WX W)) (by kernel_rfl) (by exact hS.out _ (Below.drew (Below.refl _ _))) (fun hHeld => ?_)
    try dsimp only at hHeld
    refine zt 0 ?_ rfl (by kernel_rfl) (fun _ _ _ h => h) ⟨rfl, ?_⟩ hHeld ?_
    rotate_left
    focus (intro wx hSw; (try dsimp only at hSw); (try go_split_ands); go_simp; (try with_reducible rfl))
    try simp only [Act.put, za1, za2, za3, za4, za5, za6]
    refine zt 1 ?_ rfl (by kernel_rfl) (fun _ _ _ h => h) ⟨rfl, ?_⟩ hHeld ?_
    rotate_left
    focus (intro wx hSw; (try dsimp only at hSw); (try go_split_ands); go_simp; (try with_reducible rfl))
    try simp only [Act.put, za1, za2, za3, za4, za5, za6]
    refine zt 2 ?_ rfl (by kernel_rfl) (fun _ _ _ h => h) ⟨rfl, ?_⟩ hHeld ?_
    rotate_left
    focus (intro wx hSw; (try dsimp only at hSw); (try go_split_ands); go_simp; (try with_reducible rfl))
    try simp only [Act.put, za1, za2, za3, za4, za5, za6]
    refine wpAnyH_take (i := 3) (v := undef) rfl (by kernel_rfl) (by kernel_rfl) (by kernel_rfl) (fun _ _ _ h => h) (Or.inr ⟨rfl, rfl⟩) hHeld ?_
    try simp only [Act.put, za1, za2, za3, za4, za5, za6]
    refine wpAnyH_take (i := 4) (v := undef) rfl (by kernel_rfl) (by kernel_rfl) (by kernel_rfl) (fun _ _ _ h => h) (Or.inr ⟨rfl, rfl⟩) hHeld ?_
    try simp only [Act.put, za1, za2, za3, za4, za5, za6]
    refine wpAnyH_take (i := 5) (v := undef) rfl (by kernel_rfl) (by kernel_rfl) (by kernel_rfl) (fun _ _ _ h => h) (Or.inr ⟨rfl, rfl⟩) hHeld ?_
    try simp only [Act.put, za1, za2, za3, za4, za5, za6]
    refine wpAnyH_take (i := 6) (v := undef) rfl (by kernel_rfl) (by kernel_rfl) (by kernel_rfl) (fun _ _ _ h => h) (Or.inr ⟨rfl, rfl⟩) hHeld ?_
    try simp only [Act.put, za1, za2, za3, za4, za5, za6]
    refine wpAnyH_take (i := 7) (v := undef) rfl (by kernel_rfl) (by kernel_rfl) (by kernel_rfl) (fun _ _ _ h => h) (Or.inr ⟨rfl, rfl⟩) hHeld ?_
    try simp only [Act.put, za1, za2, za3, za4, za5, za6]
    refine wpAnyH_take (i := 8) (v := undef) rfl (by kernel_rfl) (by kernel_rfl) (by kernel_rfl) (fun _ _ _ h => h) (Or.inr ⟨rfl, rfl⟩) hHeld ?_
    try simp only [Act.put, za1, za2, za3, za4, za5, za6]
    refine wpAnyH_take (i := 9) (v := undef) rfl (by kernel_rfl) (by kernel_rfl) (by kernel_rfl) (fun _ _ _ h => h) (Or.inr ⟨rfl, rfl⟩) hHeld ?_
    try simp only [Act.put, za1, za2, za3, za4, za5, za6]
    refine wpAnyH_take (i := 10) (v := undef) rfl (by kernel_rfl) (by kernel_rfl) (by kernel_rfl) (fun _ _ _ h => h) (Or.inr ⟨rfl, rfl⟩) hHeld ?_
    try simp only [Act.put, za1, za2, za3, za4, za5, za6]
    refine wpAnyH_take (i := 11) (v := undef) rfl (by kernel_rfl) (by kernel_rfl) (by kernel_rfl) (fun _ _ _ h => h) (Or.inr ⟨rfl, rfl⟩) hHeld ?_
    try simp only [Act.put, za1, za2, za3, za4, za5, za6]
    refine zt 12 ?_ rfl (by kernel_rfl) (fun _ _ _ h => h) ⟨rfl, ?_⟩ hHeld ?_
    rotate_left
    focus (intro wx hSw; (try dsimp only at hSw); (try go_split_ands); go_simp; (try with_reducible rfl))
    try simp only [Act.put, za1, za2, za3, za4, za5, za6]
    refine wpAnyH_done (by kernel_rfl) ?_ _
    go_wp2_with fail
    go_meet
    case rel => exact ⟨rfl, H0.out.drew⟩
  · obtain ⟨ad, rfl, hbm, hjn, HE⟩ := ent_of HR.out hx
    have C1 := Lib.hid fun W => compareE_any x ⟨s1, p1, q1⟩ W
    have lt2 : (ad.add (j * 3)).block < WX.heap.size := by omega
    have hS : Hid (∀ W, Below WX.heap.size WX W → W.cell? (ad.add (j * 3)) = some (.string x.s) ∧ W.cell? ⟨(ad.add (j * 3)).block, (ad.add (j * 3)).off + 1, none⟩ = some (.int .u32 x.p) ∧ W.cell? ⟨(ad.add (j * 3)).block, (ad.add (j * 3)).off + 2, none⟩ = some (.int .u16 x.q) ∧ W.cell? ⟨w.heap.size, 0, none⟩ = some (.string s1) ∧ W.cell? ⟨w.heap.size, 1, none⟩ = some (.int .u32 p1) ∧ W.cell? ⟨w.heap.size, 2, none⟩ = some (.int .u16 q1) ∧ W.cell? ⟨w.heap.size, 3, none⟩ = some (.string s2) ∧ W.cell? ⟨w.heap.size, 4, none⟩ = some (.int .u32 p2) ∧ W.cell? ⟨w.heap.size, 5, none⟩ = some (.int .u16 q2) ∧ W.cell? ⟨w.heap.size, 6, none⟩ = some (.bool en) ∧ Below WX.heap.size WX W) := by
     refine Lib.hid fun W hW => ?_
     have Y := (H0.out.below hW)
     obtain ⟨e1, e2, e3⟩ := HE W Y.2.2
     exact ⟨e1, e2, e3, Y.1.cell 0, Y.1.cell 1, Y.1.cell 2, Y.1.cell 3, Y.1.cell 4, Y.1.cell 5, Y.1.cell 6, hW⟩
    have g0 : decide ((0 : Int) < (i : Int)) = true := decide_eq_true (by omega)
    have g0n : decide (0 < i) = true := decide_eq_true (by omega)
    have g1 : IntKind.i64.wrap ((i : Int) - 1) = (j : Int) := by rw [show (i : Int) - 1 = (j : Int) from by omega]; exact IntWalk.i64_in _ (by omega)
    have g1' : (i : Int) - 1 = (j : Int) := by omega
    have g1w : IntKind.i64.wrap (j : Int) = (j : Int) := IntWalk.i64_in _ (by omega)
    have g2 : (0 : Int) ≤ (j : Int) := by omega
    have g3 : (j : Int) < (n : Int) := by omega
    obtain ⟨s, p, q⟩ := x
    unfold En.agg at C1
    simp only at C1 hz hS
    generalize cmpE ⟨s, p, q⟩ ⟨s1, p1, q1⟩ = z at *
    have d1 : decide (0 < z) = false := decide_eq_false hz
    clear hj hx HE
    obtain ⟨y0, y1, y2, y3, y4, y5, y6, y7, y8, y9, y10⟩ := hS.out WX (Below.refl _ _)
    clear y10
    refine wp_region_held_drew (S := (fun W => W.cell? (ad.add (j * 3)) = some (.string s) ∧ W.cell? ⟨(ad.add (j * 3)).block, (ad.add (j * 3)).off + 1, none⟩ = some (.int .u32 p) ∧ W.cell? ⟨(ad.add (j * 3)).block, (ad.add (j * 3)).off + 2, none⟩ = some (.int .u16 q) ∧ W.cell? ⟨w.heap.size, 0, none⟩ = some (.string s1) ∧ W.cell? ⟨w.heap.size, 1, none⟩ = some (.int .u32 p1) ∧ W.cell? ⟨w.heap.size, 2, none⟩ = some (.int .u16 q1) ∧ W.cell? ⟨w.heap.size, 3, none⟩ = some (.string s2) ∧ W.cell? ⟨w.heap.size, 4, none⟩ = some (.int .u32 p2) ∧ W.cell? ⟨w.heap.size, 5, none⟩ = some (.int .u16 q2) ∧ W.cell? ⟨w.heap.size, 6, none⟩ = some (.bool en) ∧ Below WX.heap.size WX W)) (by kernel_rfl) (by exact hS.out _ (Below.drew (Below.refl _ _))) (fun hHeld => ?_)
    try dsimp only at hHeld
    refine zt 0 ?_ rfl (by kernel_rfl) (fun _ _ _ h => h) ⟨rfl, ?_⟩ hHeld ?_
    rotate_left
    focus (intro wx hSw; (try dsimp only at hSw); (try go_split_ands); go_simp; (try with_reducible rfl))
    try simp only [Act.put, za1, za2, za3, za4, za5, za6]
    refine zt 1 ?_ rfl (by kernel_rfl) (fun _ _ _ h => h) ⟨rfl, ?_⟩ hHeld ?_
    rotate_left
    focus (intro wx hSw; (try dsimp only at hSw); (try go_split_ands); go_simp; (try with_reducible rfl))
    try simp only [Act.put, za1, za2, za3, za4, za5, za6]
    refine zt 2 ?_ rfl (by kernel_rfl) (fun _ _ _ h => h) ⟨rfl, ?_⟩ hHeld ?_
    rotate_left
    focus (intro wx hSw; (try dsimp only at hSw); (try go_split_ands); go_simp; (try with_reducible rfl))
    try simp only [Act.put, za1, za2, za3, za4, za5, za6]
    refine zt 3 ?_ rfl (by kernel_rfl) (fun _ _ _ h => h) ⟨rfl, ?_⟩ hHeld ?_
    rotate_left
    focus (intro wx hSw; (try dsimp only at hSw); (try go_split_ands); go_simp; (try with_reducible rfl))
    try simp only [Act.put, za1, za2, za3, za4, za5, za6]
    refine zt 4 ?_ rfl (by kernel_rfl) (fun _ _ _ h => h) ⟨rfl, ?_⟩ hHeld ?_
    rotate_left
    focus (intro wx hSw; (try dsimp only at hSw); (try go_split_ands); go_simp; (try with_reducible rfl))
    try simp only [Act.put, za1, za2, za3, za4, za5, za6]
    refine zt 5 ?_ rfl (by kernel_rfl) (fun _ _ _ h => h) ⟨rfl, ?_⟩ hHeld ?_
    rotate_left
    focus (intro wx hSw; (try dsimp only at hSw); (try go_split_ands); go_simp; (try with_reducible rfl))
    try simp only [Act.put, za1, za2, za3, za4, za5, za6]
    refine zt 6 ?_ rfl (by kernel_rfl) (fun _ _ _ h => h) ⟨rfl, ?_⟩ hHeld ?_
    rotate_left
    focus (intro wx hSw; (try dsimp only at hSw); (try go_split_ands); go_simp; (try with_reducible rfl))
    try simp only [Act.put, za1, za2, za3, za4, za5, za6]
    refine zt 7 ?_ rfl (by kernel_rfl) (fun _ _ _ h => h) ⟨rfl, ?_⟩ hHeld ?_
    rotate_left
    focus (intro wx hSw; (try dsimp only at hSw); (try go_split_ands); go_simp; (try with_reducible rfl))
    try simp only [Act.put, za1, za2, za3, za4, za5, za6]
    refine zt 8 ?_ rfl (by kernel_rfl) (fun _ _ _ h => h) ⟨rfl, ?_⟩ hHeld ?_
    rotate_left
    focus (intro wx hSw; (try dsimp only at hSw); (try go_split_ands); go_simp; (try with_reducible rfl))
    try simp only [Act.put, za1, za2, za3, za4, za5, za6]
    refine zt 9 ?_ rfl (by kernel_rfl) (fun _ _ _ h => h) ⟨rfl, ?_⟩ hHeld ?_
    rotate_left
    focus (intro wx hSw; (try dsimp only at hSw); (try go_split_ands); go_simp; (try with_reducible rfl))
    try simp only [Act.put, za1, za2, za3, za4, za5, za6]
    refine wpAnyH_ready (rs := [10]) (by kernel_rfl) (by simp) (AllReadyH.cons rfl (fun K hK => ?_) AllReadyH.nil)
    go_simp
    (with_reducible refine (C1.out _).mono ?_); rintro e w1 ⟨rfl, hb1⟩
    go_wp2_with fail
    refine hK.out _ _ ?_ (fun hHeld => ?_)
    · ((try dsimp only); (try dsimp only at hHeld); (first | exact hS.out _ (by (with_reducible repeat (first | exact Below.refl _ _ | exact hb1 | refine bto0 ?_ hb1 | refine bdr ?_ _ | refine Below.drew ?_ | refine ball ?_ _))) | assumption))
    clear hK K
    try dsimp only at hHeld
    try simp only [Act.put, za1, za2, za3, za4, za5, za6]
    refine zt 11 ?_ rfl (by kernel_rfl) (fun _ _ _ h => h) ⟨rfl, ?_⟩ hHeld ?_
    rotate_left
    focus (intro wx hSw; (try dsimp only at hSw); (try go_split_ands); go_simp; (try with_reducible rfl))
    try simp only [Act.put, za1, za2, za3, za4, za5, za6]
    refine zt 12 ?_ rfl (by kernel_rfl) (fun _ _ _ h => h) ⟨rfl, ?_⟩ hHeld ?_
    rotate_left
    focus (intro wx hSw; (try dsimp only at hSw); (try go_split_ands); go_simp; (try with_reducible rfl))
    try simp only [Act.put, za1, za2, za3, za4, za5, za6]
    refine wpAnyH_done (by kernel_rfl) ?_ _
    have hw1 : Below WX.heap.size WX w1 := by (with_reducible repeat (first | exact Below.refl _ _ | exact hb1 | refine bto0 ?_ hb1 | refine bdr ?_ _ | refine Below.drew ?_ | refine ball ?_ _))
    have HY := Lib.hid (H0.out.below hw1)
    clear hw1 y0 y1 y2 y3 y4 y5 y6 y7 y8 y9
    go_wp2_with fail
    go_meet
    case rel => exact ⟨rfl, HY.out⟩
 case rest =>
  obtain ⟨rfl, hcb⟩ := hcut
  rename World => wA
  have HA := Lib.hid hcb; clear hcb
  go_upto_if 19 with fail
  go_cut [] (fun wx => CutB w lo' ⟨s2, p2, q2⟩ en wx)
  case first =>
   rcases HH.out.1 with ⟨rfl, j, x, hj, hx, hz, hlo⟩ | ⟨rfl, hlo, _⟩
   · obtain ⟨ad, rfl, hbm, hjn, HE⟩ := ent_of HR.out hx
     obtain ⟨u0, u1, u2⟩ := HE _ HA.out.2.2
     have g1' : (i : Int) - 1 = (j : Int) := by omega
     have g2 : (0 : Int) ≤ (j : Int) := by omega
     have g3 : (j : Int) < (n : Int) := by omega
     have k0 : wA.cell? ⟨w.heap.size, 0, none⟩ = some (.string s1) := HA.out.1.cell 0
     have k1 : wA.cell? ⟨w.heap.size, 1, none⟩ = some (.int .u32 p1) := HA.out.1.cell 1
     have k2 : wA.cell? ⟨w.heap.size, 2, none⟩ = some (.int .u16 q1) := HA.out.1.cell 2
     have f0 := HA.out.1.frozen 0
     have f1 := HA.out.1.frozen 1
     have f2 := HA.out.1.frozen 2
     have ly := HA.out.1.lt
     subst hlo
     clear hj hx HE hz
     go_wp2_with fail
     go_meet
     case rel => exact HA.out.lo_
   · go_wp2_with fail
     go_meet
     case rel => rw [hlo]; exact HA.out
  case rest =>
   have HB := Lib.hid hcut; clear hcut
   rename World => wB
   have hzB := HB.out.2.1.lt
   go_upto_region 3 with fail
   go_cut [44] (fun s44 wx => s44 = .bool B2 ∧ CutB w lo' ⟨s2, p2, q2⟩ en wx)
   case first =>
    rcases HH.out.2.1 with ⟨rfl, x, hx, hor, hhi, hen⟩ | ⟨rfl, hhi, hen, hno | ⟨x, hx, hent, hz⟩⟩
    · obtain ⟨ad, rfl, hbm, hjn, HE⟩ := ent_of HR.out hx
      have lt2 : (ad.add (i * 3)).block < wB.heap.size := by omega
      have hS : Hid (∀ W, Below wB.heap.size wB W → W.cell? (ad.add (i * 3)) = some (.string x.s) ∧ W.cell? ⟨(ad.add (i * 3)).block, (ad.add (i * 3)).off + 1, none⟩ = some (.int .u32 x.p) ∧ W.cell? ⟨(ad.add (i * 3)).block, (ad.add (i * 3)).off + 2, none⟩ = some (.int .u16 x.q) ∧ W.cell? ⟨w.heap.size, 0, none⟩ = some (.string lo'.s) ∧ W.cell? ⟨w.heap.size, 1, none⟩ = some (.int .u32 lo'.p) ∧ W.cell? ⟨w.heap.size, 2, none⟩ = some (.int .u16 lo'.q) ∧ W.cell? ⟨w.heap.size, 3, none⟩ = some (.string s2) ∧ W.cell? ⟨w.heap.size, 4, none⟩ = some (.int .u32 p2) ∧ W.cell? ⟨w.heap.size, 5, none⟩ = some (.int .u16 q2) ∧ W.cell? ⟨w.heap.size, 6, none⟩ = some (.bool en) ∧ Below wB.heap.size wB W) := by
       refine Lib.hid fun W hW => ?_
       have Y := (HB.out.below hW)
       obtain ⟨e1, e2, e3⟩ := HE W Y.2.2
       exact ⟨e1, e2, e3, Y.1.cell 0, Y.1.cell 1, Y.1.cell 2, Y.1.cell 3, Y.1.cell 4, Y.1.cell 5, Y.1.cell 6, hW⟩
      have hlen : (i : Int) < (n : Int) := by omega
      have hd0 : decide ((i : Int) < (n : Int)) = true := decide_eq_true hlen
      have hd1 : decide (i < n) = true := decide_eq_true hjn
      have C1 := Lib.hid fun W => compareE_any x ⟨s2, p2, q2⟩ W
      obtain ⟨s, p, q⟩ := x
      unfold En.agg at C1
      simp only at C1 hS
      clear hx HE
      obtain ⟨y0, y1, y2, y3, y4, y5, y6, y7, y8, y9, y10⟩ := hS.out wB (Below.refl _ _)
      clear y10
      cases en with
      | false =>
        clear C1
        refine wp_region_held_drew (S := (fun W => W.cell? (ad.add (i * 3)) = some (.string s) ∧ W.cell? ⟨(ad.add (i * 3)).block, (ad.add (i * 3)).off + 1, none⟩ = some (.int .u32 p) ∧ W.cell? ⟨(ad.add (i * 3)).block, (ad.add (i * 3)).off + 2, none⟩ = some (.int .u16 q) ∧ W.cell? ⟨w.heap.size, 0, none⟩ = some (.string lo'.s) ∧ W.cell? ⟨w.heap.size, 1, none⟩ = some (.int .u32 lo'.p) ∧ W.cell? ⟨w.heap.size, 2, none⟩ = some (.int .u16 lo'.q) ∧ W.cell? ⟨w.heap.size, 3, none⟩ = some (.string s2) ∧ W.cell? ⟨w.heap.size, 4, none⟩ = some (.int .u32 p2) ∧ W.cell? ⟨w.heap.size, 5, none⟩ = some (.int .u16 q2) ∧ W.cell? ⟨w.heap.size, 6, none⟩ = some (.bool false) ∧ Below wB.heap.size wB W)) (by kernel_rfl) (by exact hS.out _ (Below.drew (Below.refl _ _))) (fun hHeld => ?_)
        try dsimp only at hHeld
        refine zt 0 ?_ rfl (by kernel_rfl) (fun _ _ _ h => h) ⟨rfl, ?_⟩ hHeld ?_
        rotate_left
        focus (intro wx hSw; (try dsimp only at hSw); (try go_split_ands); go_simp; (try with_reducible rfl))
        try simp only [Act.put, za1, za2, za3, za4, za5, za6]
        refine zt 1 ?_ rfl (by kernel_rfl) (fun _ _ _ h => h) ⟨rfl, ?_⟩ hHeld ?_
        rotate_left
        focus (intro wx hSw; (try dsimp only at hSw); (try go_split_ands); go_simp; (try with_reducible rfl))
        try simp only [Act.put, za1, za2, za3, za4, za5, za6]
        refine zt 2 ?_ rfl (by kernel_rfl) (fun _ _ _ h => h) ⟨rfl, ?_⟩ hHeld ?_
        rotate_left
        focus (intro wx hSw; (try dsimp only at hSw); (try go_split_ands); go_simp; (try with_reducible rfl))
        try simp only [Act.put, za1, za2, za3, za4, za5, za6]
        refine zt 3 ?_ rfl (by kernel_rfl) (fun _ _ _ h => h) ⟨rfl, ?_⟩ hHeld ?_
        rotate_left
        focus (intro wx hSw; (try dsimp only at hSw); (try go_split_ands); go_simp; (try with_reducible rfl))
        try simp only [Act.put, za1, za2, za3, za4, za5, za6]
        refine zt 4 ?_ rfl (by kernel_rfl) (fun _ _ _ h => h) ⟨rfl, ?_⟩ hHeld ?_
        rotate_left
        focus (intro wx hSw; (try dsimp only at hSw); (try go_split_ands); go_simp; (try with_reducible rfl))
        try simp only [Act.put, za1, za2, za3, za4, za5, za6]
        refine zt 5 ?_ rfl (by kernel_rfl) (fun _ _ _ h => h) ⟨rfl, ?_⟩ hHeld ?_
        rotate_left
        focus (intro wx hSw; (try dsimp only at hSw); (try go_split_ands); go_simp; (try with_reducible rfl))
        try simp only [Act.put, za1, za2, za3, za4, za5, za6]
        refine zt 6 ?_ rfl (by kernel_rfl) (fun _ _ _ h => h) ⟨rfl, ?_⟩ hHeld ?_
        rotate_left
        focus (intro wx hSw; (try dsimp only at hSw); (try go_split_ands); go_simp; (try with_reducible rfl))
        try simp only [Act.put, za1, za2, za3, za4, za5, za6]
        refine zt 7 ?_ rfl (by kernel_rfl) (fun _ _ _ h => h) ⟨rfl, ?_⟩ hHeld ?_
        rotate_left
        focus (intro wx hSw; (try dsimp only at hSw); (try go_split_ands); go_simp; (try with_reducible rfl))
        try simp only [Act.put, za1, za2, za3, za4, za5, za6]
        refine zt 8 ?_ rfl (by kernel_rfl) (fun _ _ _ h => h) ⟨rfl, ?_⟩ hHeld ?_
        rotate_left
        focus (intro wx hSw; (try dsimp only at hSw); (try go_split_ands); go_simp; (try with_reducible rfl))
        try simp only [Act.put, za1, za2, za3, za4, za5, za6]
        refine wpAnyH_take (i := 9) (v := undef) rfl (by kernel_rfl) (by kernel_rfl) (by kernel_rfl) (fun _ _ _ h => h) (Or.inr ⟨rfl, rfl⟩) hHeld ?_
        try simp only [Act.put, za1, za2, za3, za4, za5, za6]
        refine wpAnyH_take (i := 10) (v := undef) rfl (by kernel_rfl) (by kernel_rfl) (by kernel_rfl) (fun _ _ _ h => h) (Or.inr ⟨rfl, rfl⟩) hHeld ?_
        try simp only [Act.put, za1, za2, za3, za4, za5, za6]
        refine wpAnyH_take (i := 11) (v := undef) rfl (by kernel_rfl) (by kernel_rfl) (by kernel_rfl) (fun _ _ _ h => h) (Or.inr ⟨rfl, rfl⟩) hHeld ?_
        try simp only [Act.put, za1, za2, za3, za4, za5, za6]
        refine wpAnyH_take (i := 12) (v := undef) rfl (by kernel_rfl) (by kernel_rfl) (by kernel_rfl) (fun _ _ _ h => h) (Or.inr ⟨rfl, rfl⟩) hHeld ?_
        try simp only [Act.put, za1, za2, za3, za4, za5, za6]
        refine wpAnyH_take (i := 13) (v := undef) rfl (by kernel_rfl) (by kernel_rfl) (by kernel_rfl) (fun _ _ _ h => h) (Or.inr ⟨rfl, rfl⟩) hHeld ?_
        try simp only [Act.put, za1, za2, za3, za4, za5, za6]
        refine wpAnyH_take (i := 14) (v := undef) rfl (by kernel_rfl) (by kernel_rfl) (by kernel_rfl) (fun _ _ _ h => h) (Or.inr ⟨rfl, rfl⟩) hHeld ?_
        try simp only [Act.put, za1, za2, za3, za4, za5, za6]
        refine wpAnyH_take (i := 15) (v := undef) rfl (by kernel_rfl) (by kernel_rfl) (by kernel_rfl) (fun _ _ _ h => h) (Or.inr ⟨rfl, rfl⟩) hHeld ?_
        try simp only [Act.put, za1, za2, za3, za4, za5, za6]
        refine wpAnyH_take (i := 16) (v := undef) rfl (by kernel_rfl) (by kernel_rfl) (by kernel_rfl) (fun _ _ _ h => h) (Or.inr ⟨rfl, rfl⟩) hHeld ?_
        try simp only [Act.put, za1, za2, za3, za4, za5, za6]
        refine zt 17 ?_ rfl (by kernel_rfl) (fun _ _ _ h => h) ⟨rfl, ?_⟩ hHeld ?_
        rotate_left
        focus (intro wx hSw; (try dsimp only at hSw); (try go_split_ands); go_simp; (try with_reducible rfl))
        try simp only [Act.put, za1, za2, za3, za4, za5, za6]
        refine zt 18 ?_ rfl (by kernel_rfl) (fun _ _ _ h => h) ⟨rfl, ?_⟩ hHeld ?_
        rotate_left
        focus (intro wx hSw; (try dsimp only at hSw); (try go_split_ands); go_simp; (try with_reducible rfl))
        try simp only [Act.put, za1, za2, za3, za4, za5, za6]
        refine wpAnyH_done (by kernel_rfl) ?_ _
        go_wp2_with fail
        go_meet
        case rel => exact ⟨rfl, HB.out.drew⟩
      | true =>
        have hz : cmpE ⟨s, p, q⟩ ⟨s2, p2, q2⟩ < 0 := by rcases hor with h | h; cases h; exact h
        generalize cmpE ⟨s, p, q⟩ ⟨s2, p2, q2⟩ = z at *
        have d1 : decide (z < 0) = true := decide_eq_true hz
        refine wp_region_held_drew (S := (fun W => W.cell? (ad.add (i * 3)) = some (.string s) ∧ W.cell? ⟨(ad.add (i * 3)).block, (ad.add (i * 3)).off + 1, none⟩ = some (.int .u32 p) ∧ W.cell? ⟨(ad.add (i * 3)).block, (ad.add (i * 3)).off + 2, none⟩ = some (.int .u16 q) ∧ W.cell? ⟨w.heap.size, 0, none⟩ = some (.string lo'.s) ∧ W.cell? ⟨w.heap.size, 1, none⟩ = some (.int .u32 lo'.p) ∧ W.cell? ⟨w.heap.size, 2, none⟩ = some (.int .u16 lo'.q) ∧ W.cell? ⟨w.heap.size, 3, none⟩ = some (.string s2) ∧ W.cell? ⟨w.heap.size, 4, none⟩ = some (.int .u32 p2) ∧ W.cell? ⟨w.heap.size, 5, none⟩ = some (.int .u16 q2) ∧ W.cell? ⟨w.heap.size, 6, none⟩ = some (.bool true) ∧ Below wB.heap.size wB W)) (by kernel_rfl) (by exact hS.out _ (Below.drew (Below.refl _ _))) (fun hHeld => ?_)
        try dsimp only at hHeld
        refine zt 0 ?_ rfl (by kernel_rfl) (fun _ _ _ h => h) ⟨rfl, ?_⟩ hHeld ?_
        rotate_left
        focus (intro wx hSw; (try dsimp only at hSw); (try go_split_ands); go_simp; (try with_reducible rfl))
        try simp only [Act.put, za1, za2, za3, za4, za5, za6]
        refine zt 1 ?_ rfl (by kernel_rfl) (fun _ _ _ h => h) ⟨rfl, ?_⟩ hHeld ?_
        rotate_left
        focus (intro wx hSw; (try dsimp only at hSw); (try go_split_ands); go_simp; (try with_reducible rfl))
        try simp only [Act.put, za1, za2, za3, za4, za5, za6]
        refine zt 2 ?_ rfl (by kernel_rfl) (fun _ _ _ h => h) ⟨rfl, ?_⟩ hHeld ?_
        rotate_left
        focus (intro wx hSw; (try dsimp only at hSw); (try go_split_ands); go_simp; (try with_reducible rfl))
        try simp only [Act.put, za1, za2, za3, za4, za5, za6]
        refine zt 3 ?_ rfl (by kernel_rfl) (fun _ _ _ h => h) ⟨rfl, ?_⟩ hHeld ?_
        rotate_left
        focus (intro wx hSw; (try dsimp only at hSw); (try go_split_ands); go_simp; (try with_reducible rfl))
        try simp only [Act.put, za1, za2, za3, za4, za5, za6]
        refine zt 4 ?_ rfl (by kernel_rfl) (fun _ _ _ h => h) ⟨rfl, ?_⟩ hHeld ?_
        rotate_left
        focus (intro wx hSw; (try dsimp only at hSw); (try go_split_ands); go_simp; (try with_reducible rfl))
        try simp only [Act.put, za1, za2, za3, za4, za5, za6]
        refine zt 5 ?_ rfl (by kernel_rfl) (fun _ _ _ h => h) ⟨rfl, ?_⟩ hHeld ?_
        rotate_left
        focus (intro wx hSw; (try dsimp only at hSw); (try go_split_ands); go_simp; (try with_reducible rfl))
        try simp only [Act.put, za1, za2, za3, za4, za5, za6]
        refine zt 6 ?_ rfl (by kernel_rfl) (fun _ _ _ h => h) ⟨rfl, ?_⟩ hHeld ?_
        rotate_left
        focus (intro wx hSw; (try dsimp only at hSw); (try go_split_ands); go_simp; (try with_reducible rfl))
        try simp only [Act.put, za1, za2, za3, za4, za5, za6]
        refine zt 7 ?_ rfl (by kernel_rfl) (fun _ _ _ h => h) ⟨rfl, ?_⟩ hHeld ?_
        rotate_left
        focus (intro wx hSw; (try dsimp only at hSw); (try go_split_ands); go_simp; (try with_reducible rfl))
        try simp only [Act.put, za1, za2, za3, za4, za5, za6]
        refine zt 8 ?_ rfl (by kernel_rfl) (fun _ _ _ h => h) ⟨rfl, ?_⟩ hHeld ?_
        rotate_left
        focus (intro wx hSw; (try dsimp only at hSw); (try go_split_ands); go_simp; (try with_reducible rfl))
        try simp only [Act.put, za1, za2, za3, za4, za5, za6]
        refine zt 9 ?_ rfl (by kernel_rfl) (fun _ _ _ h => h) ⟨rfl, ?_⟩ hHeld ?_
        rotate_left
        focus (intro wx hSw; (try dsimp only at hSw); (try go_split_ands); go_simp; (try with_reducible rfl))
        try simp only [Act.put, za1, za2, za3, za4, za5, za6]
        refine zt 10 ?_ rfl (by kernel_rfl) (fun _ _ _ h => h) ⟨rfl, ?_⟩ hHeld ?_
        rotate_left
        focus (intro wx hSw; (try dsimp only at hSw); (try go_split_ands); go_simp; (try with_reducible rfl))
        try simp only [Act.put, za1, za2, za3, za4, za5, za6]
        refine zt 11 ?_ rfl (by kernel_rfl) (fun _ _ _ h => h) ⟨rfl, ?_⟩ hHeld ?_
        rotate_left
        focus (intro wx hSw; (try dsimp only at hSw); (try go_split_ands); go_simp; (try with_reducible rfl))
        try simp only [Act.put, za1, za2, za3, za4, za5, za6]
        refine zt 12 ?_ rfl (by kernel_rfl) (fun _ _ _ h => h) ⟨rfl, ?_⟩ hHeld ?_
        rotate_left
        focus (intro wx hSw; (try dsimp only at hSw); (try go_split_ands); go_simp; (try with_reducible rfl))
        try simp only [Act.put, za1, za2, za3, za4, za5, za6]
        refine zt 13 ?_ rfl (by kernel_rfl) (fun _ _ _ h => h) ⟨rfl, ?_⟩ hHeld ?_
        rotate_left
        focus (intro wx hSw; (try dsimp only at hSw); (try go_split_ands); go_simp; (try with_reducible rfl))
        try simp only [Act.put, za1, za2, za3, za4, za5, za6]
        refine zt 14 ?_ rfl (by kernel_rfl) (fun _ _ _ h => h) ⟨rfl, ?_⟩ hHeld ?_
        rotate_left
        focus (intro wx hSw; (try dsimp only at hSw); (try go_split_ands); go_simp; (try with_reducible rfl))
        try simp only [Act.put, za1, za2, za3, za4, za5, za6]
        refine wpAnyH_ready (rs := [15]) (by kernel_rfl) (by simp) (AllReadyH.cons rfl (fun K hK => ?_) AllReadyH.nil)
        go_simp
        (with_reducible refine (C1.out _).mono ?_); rintro e w1 ⟨rfl, hb1⟩
        go_wp2_with fail
        refine hK.out _ _ ?_ (fun hHeld => ?_)
        · ((try dsimp only); (try dsimp only at hHeld); (first | exact hS.out _ (by (with_reducible repeat (first | exact Below.refl _ _ | exact hb1 | refine bto0 ?_ hb1 | refine bdr ?_ _ | refine Below.drew ?_ | refine ball ?_ _))) | assumption))
        clear hK K
        try dsimp only at hHeld
        try simp only [Act.put, za1, za2, za3, za4, za5, za6]
        refine zt 16 ?_ rfl (by kernel_rfl) (fun _ _ _ h => h) ⟨rfl, ?_⟩ hHeld ?_
        rotate_left
        focus (intro wx hSw; (try dsimp only at hSw); (try go_split_ands); go_simp; (try with_reducible rfl))
        try simp only [Act.put, za1, za2, za3, za4, za5, za6]
        refine zt 17 ?_ rfl (by kernel_rfl) (fun _ _ _ h => h) ⟨rfl, ?_⟩ hHeld ?_
        rotate_left
        focus (intro wx hSw; (try dsimp only at hSw); (try go_split_ands); go_simp; (try with_reducible rfl))
        try simp only [Act.put, za1, za2, za3, za4, za5, za6]
        refine zt 18 ?_ rfl (by kernel_rfl) (fun _ _ _ h => h) ⟨rfl, ?_⟩ hHeld ?_
        rotate_left
        focus (intro wx hSw; (try dsimp only at hSw); (try go_split_ands); go_simp; (try with_reducible rfl))
        try simp only [Act.put, za1, za2, za3, za4, za5, za6]
        refine wpAnyH_done (by kernel_rfl) ?_ _
        have hw1 : Below wB.heap.size wB w1 := by (with_reducible repeat (first | exact Below.refl _ _ | exact hb1 | refine bto0 ?_ hb1 | refine bdr ?_ _ | refine Below.drew ?_ | refine ball ?_ _))
        have HY := Lib.hid (HB.out.below hw1)
        clear hw1 y0 y1 y2 y3 y4 y5 y6 y7 y8 y9
        go_wp2_with fail
        go_meet
        case rel => exact ⟨rfl, HY.out⟩
    · have hni : n ≤ i := by rw [← HH.out.2.2.2]; exact List.getElem?_eq_none_iff.1 hno
      have hd0 : decide ((i : Int) < (n : Int)) = false := decide_eq_false (by omega)
      have hd1 : decide (i < n) = false := decide_eq_false (by omega)
      have hS : Hid (∀ W, Below wB.heap.size wB W → True ∧ Below wB.heap.size wB W) := Lib.hid fun W hW => ⟨trivial, hW⟩
      refine wp_region_held_drew (S := (fun W => True ∧ Below wB.heap.size wB W)) (by kernel_rfl) (by exact hS.out _ (Below.drew (Below.refl _ _))) (fun hHeld => ?_)
      try dsimp only at hHeld
      refine zt 0 ?_ rfl (by kernel_rfl) (fun _ _ _ h => h) ⟨rfl, ?_⟩ hHeld ?_
      rotate_left
      focus (intro wx hSw; (try dsimp only at hSw); (try go_split_ands); go_simp; (try with_reducible rfl))
      try simp only [Act.put, za1, za2, za3, za4, za5, za6]
      refine zt 1 ?_ rfl (by kernel_rfl) (fun _ _ _ h => h) ⟨rfl, ?_⟩ hHeld ?_
      rotate_left
      focus (intro wx hSw; (try dsimp only at hSw); (try go_split_ands); go_simp; (try with_reducible rfl))
      try simp only [Act.put, za1, za2, za3, za4, za5, za6]
      refine zt 2 ?_ rfl (by kernel_rfl) (fun _ _ _ h => h) ⟨rfl, ?_⟩ hHeld ?_
      rotate_left
      focus (intro wx hSw; (try dsimp only at hSw); (try go_split_ands); go_simp; (try with_reducible rfl))
      try simp only [Act.put, za1, za2, za3, za4, za5, za6]
      refine zt 3 ?_ rfl (by kernel_rfl) (fun _ _ _ h => h) ⟨rfl, ?_⟩ hHeld ?_
      rotate_left
      focus (intro wx hSw; (try dsimp only at hSw); (try go_split_ands); go_simp; (try with_reducible rfl))
      try simp only [Act.put, za1, za2, za3, za4, za5, za6]
      refine zt 4 ?_ rfl (by kernel_rfl) (fun _ _ _ h => h) ⟨rfl, ?_⟩ hHeld ?_
      rotate_left
      focus (intro wx hSw; (try dsimp only at hSw); (try go_split_ands); go_simp; (try with_reducible rfl))
      try simp only [Act.put, za1, za2, za3, za4, za5, za6]
      refine wpAnyH_take (i := 5) (v := undef) rfl (by kernel_rfl) (by kernel_rfl) (by kernel_rfl) (fun _ _ _ h => h) (Or.inr ⟨rfl, rfl⟩) hHeld ?_
      try simp only [Act.put, za1, za2, za3, za4, za5, za6]
      refine wpAnyH_take (i := 6) (v := undef) rfl (by kernel_rfl) (by kernel_rfl) (by kernel_rfl) (fun _ _ _ h => h) (Or.inr ⟨rfl, rfl⟩) hHeld ?_
      try simp only [Act.put, za1, za2, za3, za4, za5, za6]
      refine wpAnyH_take (i := 7) (v := undef) rfl (by kernel_rfl) (by kernel_rfl) (by kernel_rfl) (fun _ _ _ h => h) (Or.inr ⟨rfl, rfl⟩) hHeld ?_
      try simp only [Act.put, za1, za2, za3, za4, za5, za6]
      refine wpAnyH_take (i := 8) (v := undef) rfl (by kernel_rfl) (by kernel_rfl) (by kernel_rfl) (fun _ _ _ h => h) (Or.inr ⟨rfl, rfl⟩) hHeld ?_
      try simp only [Act.put, za1, za2, za3, za4, za5, za6]
      refine wpAnyH_take (i := 9) (v := undef) rfl (by kernel_rfl) (by kernel_rfl) (by kernel_rfl) (fun _ _ _ h => h) (Or.inr ⟨rfl, rfl⟩) hHeld ?_
      try simp only [Act.put, za1, za2, za3, za4, za5, za6]
      refine wpAnyH_take (i := 10) (v := undef) rfl (by kernel_rfl) (by kernel_rfl) (by kernel_rfl) (fun _ _ _ h => h) (Or.inr ⟨rfl, rfl⟩) hHeld ?_
      try simp only [Act.put, za1, za2, za3, za4, za5, za6]
      refine wpAnyH_take (i := 11) (v := undef) rfl (by kernel_rfl) (by kernel_rfl) (by kernel_rfl) (fun _ _ _ h => h) (Or.inr ⟨rfl, rfl⟩) hHeld ?_
      try simp only [Act.put, za1, za2, za3, za4, za5, za6]
      refine wpAnyH_take (i := 12) (v := undef) rfl (by kernel_rfl) (by kernel_rfl) (by kernel_rfl) (fun _ _ _ h => h) (Or.inr ⟨rfl, rfl⟩) hHeld ?_
      try simp only [Act.put, za1, za2, za3, za4, za5, za6]
      refine wpAnyH_take (i := 13) (v := undef) rfl (by kernel_rfl) (by kernel_rfl) (by kernel_rfl) (fun _ _ _ h => h) (Or.inr ⟨rfl, rfl⟩) hHeld ?_
      try simp only [Act.put, za1, za2, za3, za4, za5, za6]
      refine wpAnyH_take (i := 14) (v := undef) rfl (by kernel_rfl) (by kernel_rfl) (by kernel_rfl) (fun _ _ _ h => h) (Or.inr ⟨rfl, rfl⟩) hHeld ?_
      try simp only [Act.put, za1, za2, za3, za4, za5, za6]
      refine wpAnyH_take (i := 15) (v := undef) rfl (by kernel_rfl) (by kernel_rfl) (by kernel_rfl) (fun _ _ _ h => h) (Or.inr ⟨rfl, rfl⟩) hHeld ?_
      try simp only [Act.put, za1, za2, za3, za4, za5, za6]
      refine wpAnyH_take (i := 16) (v := undef) rfl (by kernel_rfl) (by kernel_rfl) (by kernel_rfl) (fun _ _ _ h => h) (Or.inr ⟨rfl, rfl⟩) hHeld ?_
      try simp only [Act.put, za1, za2, za3, za4, za5, za6]
      refine wpAnyH_take (i := 17) (v := undef) rfl (by kernel_rfl) (by kernel_rfl) (by kernel_rfl) (fun _ _ _ h => h) (Or.inr ⟨rfl, rfl⟩) hHeld ?_
      try simp only [Act.put, za1, za2, za3, za4, za5, za6]
      refine zt 18 ?_ rfl (by kernel_rfl) (fun _ _ _ h => h) ⟨rfl, ?_⟩ hHeld ?_
      rotate_left
      focus (intro wx hSw; (try dsimp only at hSw); (try go_split_ands); go_simp; (try with_reducible rfl))
      try simp only [Act.put, za1, za2, za3, za4, za5, za6]
      refine wpAnyH_done (by kernel_rfl) ?_ _
      go_wp2_with fail
      go_meet
      case rel => exact ⟨rfl, HB.out.drew⟩
    · simp only at hent hz
      subst hent
      obtain ⟨ad, rfl, hbm, hjn, HE⟩ := ent_of HR.out hx
      have lt2 : (ad.add (i * 3)).block < wB.heap.size := by omega
      have hS : Hid (∀ W, Below wB.heap.size wB W → W.cell? (ad.add (i * 3)) = some (.string x.s) ∧ W.cell? ⟨(ad.add (i * 3)).block, (ad.add (i * 3)).off + 1, none⟩ = some (.int .u32 x.p) ∧ W.cell? ⟨(ad.add (i * 3)).block, (ad.add (i * 3)).off + 2, none⟩ = some (.int .u16 x.q) ∧ W.cell? ⟨w.heap.size, 0, none⟩ = some (.string lo'.s) ∧ W.cell? ⟨w.heap.size, 1, none⟩ = some (.int .u32 lo'.p) ∧ W.cell? ⟨w.heap.size, 2, none⟩ = some (.int .u16 lo'.q) ∧ W.cell? ⟨w.heap.size, 3, none⟩ = some (.string s2) ∧ W.cell? ⟨w.heap.size, 4, none⟩ = some (.int .u32 p2) ∧ W.cell? ⟨w.heap.size, 5, none⟩ = some (.int .u16 q2) ∧ W.cell? ⟨w.heap.size, 6, none⟩ = some (.bool true) ∧ Below wB.heap.size wB W) := by
       refine Lib.hid fun W hW => ?_
       have Y := (HB.out.below hW)
       obtain ⟨e1, e2, e3⟩ := HE W Y.2.2
       exact ⟨e1, e2, e3, Y.1.cell 0, Y.1.cell 1, Y.1.cell 2, Y.1.cell 3, Y.1.cell 4, Y.1.cell 5, Y.1.cell 6, hW⟩
      have hlen : (i : Int) < (n : Int) := by omega
      have hd0 : decide ((i : Int) < (n : Int)) = true := decide_eq_true hlen
      have hd1 : decide (i < n) = true := decide_eq_true hjn
      have C1 := Lib.hid fun W => compareE_any x ⟨s2, p2, q2⟩ W
      obtain ⟨s, p, q⟩ := x
      unfold En.agg at C1
      simp only at C1 hS
      clear hx HE
      obtain ⟨y0, y1, y2, y3, y4, y5, y6, y7, y8, y9, y10⟩ := hS.out wB (Below.refl _ _)
      clear y10
      generalize cmpE ⟨s, p, q⟩ ⟨s2, p2, q2⟩ = z at *
      have d1 : decide (z < 0) = false := decide_eq_false hz
      refine wp_region_held_drew (S := (fun W => W.cell? (ad.add (i * 3)) = some (.string s) ∧ W.cell? ⟨(ad.add (i * 3)).block, (ad.add (i * 3)).off + 1, none⟩ = some (.int .u32 p) ∧ W.cell? ⟨(ad.add (i * 3)).block, (ad.add (i * 3)).off + 2, none⟩ = some (.int .u16 q) ∧ W.cell? ⟨w.heap.size, 0, none⟩ = some (.string lo'.s) ∧ W.cell? ⟨w.heap.size, 1, none⟩ = some (.int .u32 lo'.p) ∧ W.cell? ⟨w.heap.size, 2, none⟩ = some (.int .u16 lo'.q) ∧ W.cell? ⟨w.heap.size, 3, none⟩ = some (.string s2) ∧ W.cell? ⟨w.heap.size, 4, none⟩ = some (.int .u32 p2) ∧ W.cell? ⟨w.heap.size, 5, none⟩ = some (.int .u16 q2) ∧ W.cell? ⟨w.heap.size, 6, none⟩ = some (.bool true) ∧ Below wB.heap.size wB W)) (by kernel_rfl) (by exact hS.out _ (Below.drew (Below.refl _ _))) (fun hHeld => ?_)
      try dsimp only at hHeld
      refine zt 0 ?_ rfl (by kernel_rfl) (fun _ _ _ h => h) ⟨rfl, ?_⟩ hHeld ?_
      rotate_left
      focus (intro wx hSw; (try dsimp only at hSw); (try go_split_ands); go_simp; (try with_reducible rfl))
      try simp only [Act.put, za1, za2, za3, za4, za5, za6]
      refine zt 1 ?_ rfl (by kernel_rfl) (fun _ _ _ h => h) ⟨rfl, ?_⟩ hHeld ?_
      rotate_left
      focus (intro wx hSw; (try dsimp only at hSw); (try go_split_ands); go_simp; (try with_reducible rfl))
      try simp only [Act.put, za1, za2, za3, za4, za5, za6]
      refine zt 2 ?_ rfl (by kernel_rfl) (fun _ _ _ h => h) ⟨rfl, ?_⟩ hHeld ?_
      rotate_left
      focus (intro wx hSw; (try dsimp only at hSw); (try go_split_ands); go_simp; (try with_reducible rfl))
      try simp only [Act.put, za1, za2, za3, za4, za5, za6]
      refine zt 3 ?_ rfl (by kernel_rfl) (fun _ _ _ h => h) ⟨rfl, ?_⟩ hHeld ?_
      rotate_left
      focus (intro wx hSw; (try dsimp only at hSw); (try go_split_ands); go_simp; (try with_reducible rfl))
      try simp only [Act.put, za1, za2, za3, za4, za5, za6]
      refine zt 4 ?_ rfl (by kernel_rfl) (fun _ _ _ h => h) ⟨rfl, ?_⟩ hHeld ?_
      rotate_left
      focus (intro wx hSw; (try dsimp only at hSw); (try go_split_ands); go_simp; (try with_reducible rfl))
      try simp only [Act.put, za1, za2, za3, za4, za5, za6]
      refine zt 5 ?_ rfl (by kernel_rfl) (fun _ _ _ h => h) ⟨rfl, ?_⟩ hHeld ?_
      rotate_left
      focus (intro wx hSw; (try dsimp only at hSw); (try go_split_ands); go_simp; (try with_reducible rfl))
      try simp only [Act.put, za1, za2, za3, za4, za5, za6]
      refine zt 6 ?_ rfl (by kernel_rfl) (fun _ _ _ h => h) ⟨rfl, ?_⟩ hHeld ?_
      rotate_left
      focus (intro wx hSw; (try dsimp only at hSw); (try go_split_ands); go_simp; (try with_reducible rfl))
      try simp only [Act.put, za1, za2, za3, za4, za5, za6]
      refine zt 7 ?_ rfl (by kernel_rfl) (fun _ _ _ h => h) ⟨rfl, ?_⟩ hHeld ?_
      rotate_left
      focus (intro wx hSw; (try dsimp only at hSw); (try go_split_ands); go_simp; (try with_reducible rfl))
      try simp only [Act.put, za1, za2, za3, za4, za5, za6]
      refine zt 8 ?_ rfl (by kernel_rfl) (fun _ _ _ h => h) ⟨rfl, ?_⟩ hHeld ?_
      rotate_left
      focus (intro wx hSw; (try dsimp only at hSw); (try go_split_ands); go_simp; (try with_reducible rfl))
      try simp only [Act.put, za1, za2, za3, za4, za5, za6]
      refine zt 9 ?_ rfl (by kernel_rfl) (fun _ _ _ h => h) ⟨rfl, ?_⟩ hHeld ?_
      rotate_left
      focus (intro wx hSw; (try dsimp only at hSw); (try go_split_ands); go_simp; (try with_reducible rfl))
      try simp only [Act.put, za1, za2, za3, za4, za5, za6]
      refine zt 10 ?_ rfl (by kernel_rfl) (fun _ _ _ h => h) ⟨rfl, ?_⟩ hHeld ?_
      rotate_left
      focus (intro wx hSw; (try dsimp only at hSw); (try go_split_ands); go_simp; (try with_reducible rfl))
      try simp only [Act.put, za1, za2, za3, za4, za5, za6]
      refine zt 11 ?_ rfl (by kernel_rfl) (fun _ _ _ h => h) ⟨rfl, ?_⟩ hHeld ?_
      rotate_left
      focus (intro wx hSw; (try dsimp only at hSw); (try go_split_ands); go_simp; (try with_reducible rfl))
      try simp only [Act.put, za1, za2, za3, za4, za5, za6]
      refine zt 12 ?_ rfl (by kernel_rfl) (fun _ _ _ h => h) ⟨rfl, ?_⟩ hHeld ?_
      rotate_left
      focus (intro wx hSw; (try dsimp only at hSw); (try go_split_ands); go_simp; (try with_reducible rfl))
      try simp only [Act.put, za1, za2, za3, za4, za5, za6]
      refine zt 13 ?_ rfl (by kernel_rfl) (fun _ _ _ h => h) ⟨rfl, ?_⟩ hHeld ?_
      rotate_left
      focus (intro wx hSw; (try dsimp only at hSw); (try go_split_ands); go_simp; (try with_reducible rfl))
      try simp only [Act.put, za1, za2, za3, za4, za5, za6]
      refine zt 14 ?_ rfl (by kernel_rfl) (fun _ _ _ h => h) ⟨rfl, ?_⟩ hHeld ?_
      rotate_left
      focus (intro wx hSw; (try dsimp only at hSw); (try go_split_ands); go_simp; (try with_reducible rfl))
      try simp only [Act.put, za1, za2, za3, za4, za5, za6]
      refine wpAnyH_ready (rs := [15]) (by kernel_rfl) (by simp) (AllReadyH.cons rfl (fun K hK => ?_) AllReadyH.nil)
      go_simp
      (with_reducible refine (C1.out _).mono ?_); rintro e w1 ⟨rfl, hb1⟩
      go_wp2_with fail
      refine hK.out _ _ ?_ (fun hHeld => ?_)
      · ((try dsimp only); (try dsimp only at hHeld); (first | exact hS.out _ (by (with_reducible repeat (first | exact Below.refl _ _ | exact hb1 | refine bto0 ?_ hb1 | refine bdr ?_ _ | refine Below.drew ?_ | refine ball ?_ _))) | assumption))
      clear hK K
      try dsimp only at hHeld
      try simp only [Act.put, za1, za2, za3, za4, za5, za6]
      refine zt 16 ?_ rfl (by kernel_rfl) (fun _ _ _ h => h) ⟨rfl, ?_⟩ hHeld ?_
      rotate_left
      focus (intro wx hSw; (try dsimp only at hSw); (try go_split_ands); go_simp; (try with_reducible rfl))
      try simp only [Act.put, za1, za2, za3, za4, za5, za6]
      refine zt 17 ?_ rfl (by kernel_rfl) (fun _ _ _ h => h) ⟨rfl, ?_⟩ hHeld ?_
      rotate_left
      focus (intro wx hSw; (try dsimp only at hSw); (try go_split_ands); go_simp; (try with_reducible rfl))
      try simp only [Act.put, za1, za2, za3, za4, za5, za6]
      refine zt 18 ?_ rfl (by kernel_rfl) (fun _ _ _ h => h) ⟨rfl, ?_⟩ hHeld ?_
      rotate_left
      focus (intro wx hSw; (try dsimp only at hSw); (try go_split_ands); go_simp; (try with_reducible rfl))
      try simp only [Act.put, za1, za2, za3, za4, za5, za6]
      refine wpAnyH_done (by kernel_rfl) ?_ _
      have hw1 : Below wB.heap.size wB w1 := by (with_reducible repeat (first | exact Below.refl _ _ | exact hb1 | refine bto0 ?_ hb1 | refine bdr ?_ _ | refine Below.drew ?_ | refine ball ?_ _))
      have HY := Lib.hid (HB.out.below hw1)
      clear hw1 y0 y1 y2 y3 y4 y5 y6 y7 y8 y9
      go_wp2_with fail
      go_meet
      case rel => exact ⟨rfl, HY.out⟩
   case rest =>
    obtain ⟨rfl, hcb⟩ := hcut
    rename World => wC
    have HC := Lib.hid hcb; clear hcb HB
    go_upto_if 44 with fail
    go_cut [] (fun wx => CutB w lo' RB.hi RB.ends wx)
    case first =>
     rcases HH.out.2.1 with ⟨rfl, x, hx, _, hhi, hen⟩ | ⟨rfl, hhi, hen, _⟩
     · obtain ⟨ad, rfl, hbm, hjn, HE⟩ := ent_of HR.out hx
       obtain ⟨u0, u1, u2⟩ := HE _ HC.out.2.2
       have g3 : (i : Int) < (n : Int) := by omega
       have k3 : wC.cell? ⟨w.heap.size, 3, none⟩ = some (.string s2) := HC.out.1.cell 3
       have k4 : wC.cell? ⟨w.heap.size, 4, none⟩ = some (.int .u32 p2) := HC.out.1.cell 4
       have k5 : wC.cell? ⟨w.heap.size, 5, none⟩ = some (.int .u16 q2) := HC.out.1.cell 5
       have k6 : wC.cell? ⟨w.heap.size, 6, none⟩ = some (.bool en) := HC.out.1.cell 6
       have f3 := HC.out.1.frozen 3
       have f4 := HC.out.1.frozen 4
       have f5 := HC.out.1.frozen 5
       have f6 := HC.out.1.frozen 6
       have ly := HC.out.1.lt
       have HF := Lib.hid (And.intro hhi hen)
       clear hx HE hhi hen
       go_wp2_with fail
       go_meet
       case rel => rw [HF.out.1, HF.out.2]; exact HC.out.hi_
     · have HF := Lib.hid (And.intro hhi hen)
       clear hhi hen
       go_wp2_with fail
       go_meet
       case rel => rw [HF.out.1, HF.out.2]; exact HC.out
    case rest =>
     rename World => wD
     have HRB : Hid (RB.lo = lo') := Lib.hid HH.out.2.2.1
     obtain ⟨rlo, rhi, ren⟩ := RB
     simp only at hcut HRB
     have e1 := HRB.out
     subst e1
     have HD := Lib.hid hcut; clear hcut HC
     have Y := HD.out.1
     have Z := HD.out.2.1
     unfold bArr at Y
     unfold bArr enZ at Z
     simp only at Y Z
     have a0 : wD.cell? ⟨w.heap.size, 0, none⟩ = some (.string rlo.s) := Y.cell 0
     have a1 : wD.cell? ⟨w.heap.size, 1, none⟩ = some (.int .u32 rlo.p) := Y.cell 1
     have a2 : wD.cell? ⟨w.heap.size, 2, none⟩ = some (.int .u16 rlo.q) := Y.cell 2
     have a3 : wD.cell? ⟨w.heap.size, 3, none⟩ = some (.string rhi.s) := Y.cell 3
     have a4 : wD.cell? ⟨w.heap.size, 4, none⟩ = some (.int .u32 rhi.p) := Y.cell 4
     have a5 : wD.cell? ⟨w.heap.size, 5, none⟩ = some (.int .u16 rhi.q) := Y.cell 5
     have a6 : wD.cell? ⟨w.heap.size, 6, none⟩ = some (.bool ren) := Y.cell 6
     have b0 : wD.cell? ⟨w.heap.size + 1, 0, none⟩ = some (.string ⟨#[]⟩) := Z.cell 0
     have b1 : wD.cell? ⟨w.heap.size + 1, 1, none⟩ = some (.int .u32 0) := Z.cell 1
     have b2 : wD.cell? ⟨w.heap.size + 1, 2, none⟩ = some (.int .u16 0) := Z.cell 2
     have b3 : wD.cell? ⟨w.heap.size + 1, 3, none⟩ = some (.string ⟨#[]⟩) := Z.cell 3
     have b4 : wD.cell? ⟨w.heap.size + 1, 4, none⟩ = some (.int .u32 0) := Z.cell 4
     have b5 : wD.cell? ⟨w.heap.size + 1, 5, none⟩ = some (.int .u16 0) := Z.cell 5
     have b6 : wD.cell? ⟨w.heap.size + 1, 6, none⟩ = some (.bool false) := Z.cell 6
     have z0 := Z.frozen 0
     have z1 := Z.frozen 1
     have z2 := Z.frozen 2
     have z3 := Z.frozen 3
     have z4 := Z.frozen 4
     have z5 := Z.frozen 5
     have z6 := Z.frozen 6
     have ly := Y.lt
     have lz := Z.lt
     have HZ := Lib.hid Z
     clear Y Z
     go_wp2
     exact bn_end (b := ⟨rlo, rhi, ren⟩) (set7 HZ.out) rfl ⟨rfl, ((((((HD.out.2.2.setCell (p := ⟨w.heap.size + 1, 0, none⟩) (by simp) _).setCell (p := ⟨w.heap.size + 1, 1, none⟩) (by simp) _).setCell (p := ⟨w.heap.size + 1, 2, none⟩) (by simp) _).setCell (p := ⟨w.heap.size + 1, 3, none⟩) (by simp) _).setCell (p := ⟨w.heap.size + 1, 4, none⟩) (by simp) _).setCell (p := ⟨w.heap.size + 1, 5, none⟩) (by simp) _).setCell (p := ⟨w.heap.size + 1, 6, none⟩) (by simp) _⟩
end
end Go.Proofs.YtebobcbaloddaaaGreat
namespace Go.Proofs.YtebobcbaloddaaaGreat
section
set_option linter.unusedSimpArgs false
set_option linter.unusedVariables false
open Go.RowKit Go.Maps
structure Ck where
 met : List Bool
 L : List En
 pgs : Nat
 lv : Nat
 hi : Nat
 nx : Nat
def trues (l : List Bool) : Nat := (l.filter id).length
def ckLeaf (page deep N : Nat) (es : List En) (b : Bnd) (st : Ck) : Option Ck :=
 if (st.lv = 0 ∨ (deep = st.hi ∧ st.nx = page)) ∧ bHas b es = true then some { st with L := st.L ++ es, lv := st.lv + 1, hi := if st.lv = 0 then deep else st.hi, nx := N } else none
def ckKids (F : Nat → Bnd → Ck → Option Ck) (seps : List En) (b : Bnd) : List Nat → Nat → Ck → Option Ck
 | [], _, st => some st
 | c :: r, i, st => (F c (bChild b seps i) st).bind fun st' => ckKids F seps b r (i + 1) st'
def ckP (ps : List (List UInt8)) : Nat → Nat → Nat → Bnd → Ck → Option Ck
 | 0, _, _, _, _ => none
 | f + 1, page, deep, b, st =>
   match ps[page]? with
   | none => none
   | some q =>
     if st.met[page]? = some true then none
     else match rdPg q with
      | none => none
      | some (.leaf N es) => ckLeaf page deep N es b { st with met := st.met.set page true, pgs := st.pgs + 1 }
      | some (.inner c0 prs) => if deep = 12 ∨ deep = st.hi then none else ckKids (fun c b' st' => ckP ps f c (deep + 1) b' st') (prs.map Prod.fst) b (c0 :: prs.map Prod.snd) 0 { st with met := st.met.set page true, pgs := st.pgs + 1 }
def ck0 (n : Nat) : Ck := ⟨List.replicate n false, [], 0, 0, 0, 0⟩
def bnd0 : Bnd := ⟨enZ, enZ, false⟩
def chkP (ps : List (List UInt8)) (root : Nat) : Option Ck := (ckP ps 13 root 1 bnd0 (ck0 ps.length)).bind fun st => if st.nx = 0 then some st else none
structure Evo (w w' : World) (gm gc gq : Nat) (v : Value) : Prop where
 size : w.heap.size ≤ w'.heap.size
 heap : ∀ g, g < w.heap.size → (∀ cs, ¬ Blk w g 108 cs) → (∀ cs, ¬ Blk w g 100 cs) → g ≠ gm → g ≠ gc → g ≠ gq → v.ownBlock ≠ some g → w'.heap[g]? = w.heap[g]?
theorem Evo.refl (w : World) (gm gc gq : Nat) (v : Value) : Evo w w gm gc gq v := ⟨Nat.le_refl _, fun _ _ _ _ _ _ _ _ => rfl⟩
theorem Evo.trans {w w' w'' : World} {gm gc gq : Nat} {v v' : Value} (h : Evo w w' gm gc gq v) (k : Evo w' w'' gm gc gq v') (hv : v'.ownBlock = v.ownBlock ∨ ∃ j, v'.ownBlock = some j ∧ w.heap.size ≤ j) : Evo w w'' gm gc gq v := by
 refine ⟨Nat.le_trans h.size k.size, fun g h1 h2 h3 h4 h5 h6 h7 => ?_⟩
 have e := h.heap g h1 h2 h3 h4 h5 h6 h7
 refine (k.heap g (Nat.lt_of_lt_of_le h1 h.size) (fun cs hc => h2 cs (e.symm.trans hc)) (fun cs hc => h3 cs (e.symm.trans hc)) h4 h5 h6 ?_).trans e
 rcases hv with hv | ⟨j, hj, hl⟩
 · rw [hv]; exact h7
 · rw [hj]; intro e2; injection e2 with e2; omega
theorem Evo.of_below {w w' : World} {gm gc gq : Nat} {v : Value} (h : Below w.heap.size w w') : Evo w w' gm gc gq v := ⟨h.size, fun g h1 _ _ _ _ _ _ => h.block g h1⟩
theorem Evo.of_turn {w w' : World} {lo gp gd gb gt n : Nat} {ps : List (List UInt8)} {T : List Bool} {gm size : Nat} {K : List Fr} {D : DataW Unit} {rd ht gc gq : Nat} {v : Value} (h : PS w lo gp gd gb gt n ps T gm size K D rd ht) (t : Turn w w' lo gp gm K) : Evo w w' gm gc gq v :=
 ⟨t.size, fun g h1 h2 h3 h4 _ _ _ => t.heap g h1 (fun e => by subst e; exact h2 _ h.rg.pool) h4 (fun j f hj e => by subst e; exact h3 _ (h.rg.fr j f hj).1)⟩
theorem Evo.of_set {w : World} {gm gc gq : Nat} {v : Value} {p : Addr} (u : Value) (hp : p.block = gc ∨ p.block = gq) : Evo w (w.setCell p u) gm gc gq v :=
 ⟨by simp [World.setCell], fun g _ _ _ _ h5 h6 _ => Below.heap_setCell _ _ _ _ (by rcases hp with e | e <;> rw [e] <;> assumption)⟩
theorem Evo.blk {w w' : World} {gm gc gq g : Nat} {v : Value} {t : TypeId} {cs : Array Value} (h : Evo w w' gm gc gq v) (hb : Blk w g t cs) (h1 : t ≠ 108) (h2 : t ≠ 100) (h3 : g ≠ gm) (h4 : g ≠ gc) (h5 : g ≠ gq) (h6 : v.ownBlock ≠ some g) : Blk w' g t cs :=
 (h.heap g hb.lt (fun cs' h' => hb.ne_ h' h1 rfl) (fun cs' h' => hb.ne_ h' h2 rfl) h3 h4 h5 h6).trans hb
section
variable {w0 W W' : World} {lo gp gd gb gt n : Nat} {ps : List (List UInt8)} {T : List Bool} {gm size : Nat} {K0 : List Fr} {c gc gq : Nat} {st : Ck} {v : Value}
@[reducible] def ckArr (gp gq n : Nat) (v : Value) (st : Ck) : Array Value := #[.pointer (some ⟨gp, 0, none⟩), .slice (some ⟨gq, 0, none⟩) n n, v, .int .i64 0, .int .i64 (st.lv : Int), .int .i64 (st.pgs : Int), .int .i64 (st.hi : Int), .int .u32 (st.nx : Int)]
structure CS (w0 : World) (lo gp gd gb gt n : Nat) (ps : List (List UInt8)) (T : List Bool) (gm size : Nat) (K0 : List Fr) (c gc gq : Nat) (st : Ck) (v : Value) (W : World) : Prop where
 pool : ∃ K D rd ht, PS W lo gp gd gb gt n ps T gm size K D rd ht ∧ rd ≤ c ∧ ht ≤ c ∧ ∀ (j : Nat) (f : Fr), K[j]? = some f → (∃ i : Nat, K0[i]? = some f) ∨ w0.heap.size ≤ f.g
 turn : Turn w0 W lo gp gm K0
 cb : Blk W gc 116 (ckArr gp gq n v st)
 qb : Blk W gq 4 (tV st.met)
 row : W.ownsRow w0.heap.size 37 3 v st.L.length (vE st.L)
 lo_ : lo ≤ w0.heap.size
 hic : w0.heap.size ≤ gc
 hiq : w0.heap.size ≤ gq
 qt : gq ≠ gt
 ml : st.met.length = n
 ll : st.L.length ≤ 63 * st.lv
theorem CS.below (h : CS w0 lo gp gd gb gt n ps T gm size K0 c gc gq st v W) (hb : Below W.heap.size W W') : CS w0 lo gp gd gb gt n ps T gm size K0 c gc gq st v W' := by
 obtain ⟨K, D, rd, ht, h1, h2, h3, h4⟩ := h.pool
 exact ⟨⟨K, D, rd, ht, h1.below hb, h2, h3, h4⟩, h.turn.more hb h.lo_, h.cb.below hb h.cb.lt, h.qb.below hb h.qb.lt, own_below h.row hb, h.lo_, h.hic, h.hiq, h.qt, h.ml, h.ll⟩
theorem CS.ne_m (h : CS w0 lo gp gd gb gt n ps T gm size K0 c gc gq st v W) {g : Nat} {t : TypeId} {cs : Array Value} (hb : Blk W g t cs) : g ≠ gm := by
 obtain ⟨K, D, rd, ht, h1, _⟩ := h.pool
 exact h1.mp.ne_ hb
theorem CS.get (h : CS w0 lo gp gd gb gt n ps T gm size K0 c gc gq st v W) (hn : n ≤ 1000) (hc : c ≤ 900000) (p : Nat) (hp : p ≤ 4294967295) :
 Calls Tryz.prog 73 #[.pointer (some ⟨gp, 0, none⟩), .int .u32 p] W fun e W' => ∃ u r, e = .returned (.tuple #[u, .int .i64 r]) ∧ GetV ps n p W' W.heap.size u r ∧ CS w0 lo gp gd gb gt n ps T gm size K0 (c + 1) gc gq st v W' ∧ Evo W W' gm gc gq v := by
 obtain ⟨K, D, rd, ht, h1, h2, h3, h4⟩ := h.pool
 have hlo : lo ≤ W.heap.size := Nat.le_trans h.lo_ h.turn.size
 refine (get_v h1 p hp hn (by omega) (by omega) hlo).mono ?_
 rintro e W' ⟨K', D', rd', ht', u, r, rfl, gv, p1, hs, tn, hk⟩
 have hs2 := stepU_small (n := n) (size := size) (s := (pgs K, rd, ht)) (p := p) (k := c) h2 h3
 rw [← hs] at hs2
 have hbk : ∀ {g : Nat} {t : TypeId} {cs : Array Value}, Blk W g t cs → t ≠ 108 → t ≠ 100 → Blk W' g t cs := fun hb a1 a2 => h1.turn_blk tn hb a1 a2
 refine ⟨u, r, rfl, gv, ⟨⟨K', D', rd', ht', p1, hs2.1, hs2.2, fun j f hj => ?_⟩, h.turn.trans tn fun j f hj => h4 j f hj, hbk h.cb (by decide) (by decide), hbk h.qb (by decide) (by decide), ?_, h.lo_, h.hic, h.hiq, h.qt, h.ml, h.ll⟩, Evo.of_turn h1 tn⟩
 · rcases hk j f hj with ⟨i, hi⟩ | hi
   · exact h4 i f hi
   · exact .inr (Nat.le_trans h.turn.size hi)
 · exact ownR_stays h.row fun g cs _ hb => tn.heap g hb.lt (hb.ne_ h1.rg.pool (by decide)) (h1.mp.ne_ hb) (fun j f hj => hb.ne_ (h1.rg.fr j f hj).1 (by decide))
theorem Far.set1 (w : World) (r i : Nat) (a : Value) : Far w (w.setCell ⟨r, i, none⟩ a) r :=
 ⟨fun g hg => Below.heap_setCell _ _ _ _ hg, by simp [World.setCell], fun B w0 hB hb => hb.setCell (show B ≤ (⟨r, i, none⟩ : Addr).block from hB) _⟩
theorem CS.setc (h : CS w0 lo gp gd gb gt n ps T gm size K0 c gc gq st v W) (i : Nat) (u : Value) {st' : Ck} (he : (ckArr gp gq n v st).setIfInBounds i u = ckArr gp gq n v st') (e1 : st'.met = st.met) (e2 : st'.L = st.L) (e3 : st.lv ≤ st'.lv) : CS w0 lo gp gd gb gt n ps T gm size K0 c gc gq st' v (W.setCell ⟨gc, i, none⟩ u) := by
 obtain ⟨K, D, rd, ht, h1, h2, h3, h4⟩ := h.pool
 have hq : gq ≠ gc := by rintro rfl; exact h.qb.ne_ h.cb (by decide) rfl
 refine ⟨⟨K, D, rd, ht, h1.far h.cb (Far.set1 W gc i u) (by decide) (by decide) (by decide) (by decide) (by decide), h2, h3, h4⟩, h.turn.far (Far.set1 W gc i u) h.hic h.lo_, by rw [← he]; exact h.cb.set_ i u, ?_, ?_, h.lo_, h.hic, h.hiq, h.qt, by rw [e1]; exact h.ml, ?_⟩
 · rw [e1]; exact h.qb.far (by simpa using hq) u
 · rw [e2]; exact own_far h.row h.cb (by decide) i u
 · rw [e2]; have := h.ll; omega
theorem CS.setq (h : CS w0 lo gp gd gb gt n ps T gm size K0 c gc gq st v W) (i : Nat) : CS w0 lo gp gd gb gt n ps T gm size K0 c gc gq { st with met := st.met.set i true } v (W.setCell ⟨gq, i, none⟩ (.bool true)) := by
 obtain ⟨K, D, rd, ht, h1, h2, h3, h4⟩ := h.pool
 have hq : gc ≠ gq := by rintro rfl; exact h.qb.ne_ h.cb (by decide) rfl
 have hf := Far.set1 W gq i (.bool true)
 have hb : ∀ {g : Nat} {ty : TypeId} {cs' : Array Value}, ty ≠ 4 → Blk W g ty cs' → Blk (W.setCell ⟨gq, i, none⟩ (.bool true)) g ty cs' := fun ht hb => (hf.heap _ (hb.ne_ h.qb ht)).trans hb
 have hps : PS (W.setCell ⟨gq, i, none⟩ (.bool true)) lo gp gd gb gt n ps T gm size K D rd ht :=
  ⟨⟨h1.rg.low, hb (by decide) h1.rg.pool, fun i f hi => ⟨hb (by decide) (h1.rg.fr i f hi).1, (h1.rg.fr i f hi).2⟩, h1.rg.inj⟩, h1.mp.same (hf.heap gm fun e => h1.mp.ne_ h.qb e.symm), h1.lom, fun i f hi => ⟨hb (by decide) (h1.by_ i f hi).1, (h1.by_ i f hi).2⟩, h1.pg, ⟨⟨hb (by decide) h1.dk.dk.d, hb (by decide) h1.dk.dk.b, (hf.heap gt fun e => h.qt e.symm).trans h1.dk.dk.t, h1.dk.dk.hb, h1.dk.dk.ht⟩, h1.dk.full, h1.dk.hp⟩, h1.s1, h1.sz⟩
 exact ⟨⟨K, D, rd, ht, hps, h2, h3, h4⟩, h.turn.far hf h.hiq h.lo_, h.cb.far (by simpa using hq) _, by rw [← tV_set]; exact h.qb.set_ i _, own_far h.row h.qb (by decide) i _, h.lo_, h.hic, h.hiq, h.qt, by simp [h.ml], h.ll⟩
theorem own_blk17 {w : World} {base : Nat} {e : TypeId} {size n g : Nat} {v : Value} {xs : List Value} (h : w.ownsRow base e size v n xs) (hv : v.ownBlock = some g) : ∃ cs, Blk w g e cs := by
 rcases h.2 with ⟨rfl, _⟩ | ⟨g', cap, cur, rfl, hb, hgg, rest⟩
 · cases hv
 · injection hv with hv
   subst hv
   exact ⟨cur, hgg⟩
theorem CS.grown (h : CS w0 lo gp gd gb gt n ps T gm size K0 c gc gq st v W) (hg : W.grownBy W' v.ownBlock) :
 (∃ K D rd ht, PS W' lo gp gd gb gt n ps T gm size K D rd ht ∧ rd ≤ c ∧ ht ≤ c ∧ ∀ (j : Nat) (f : Fr), K[j]? = some f → (∃ i : Nat, K0[i]? = some f) ∨ w0.heap.size ≤ f.g) ∧ Turn w0 W' lo gp gm K0 ∧ Blk W' gc 116 (ckArr gp gq n v st) ∧ Blk W' gq 4 (tV st.met) := by
 obtain ⟨K, D, rd, ht, h1, h2, h3, h4⟩ := h.pool
 have hb : ∀ {g : Nat} {ty : TypeId} {cs' : Array Value}, 37 ≠ ty → Blk W g ty cs' → Blk W' g ty cs' := fun ht hb => blk_own_ne h.row hb hg ht
 have hm : W'.heap[gm]? = W.heap[gm]? := hg.block gm h1.mp.lt fun e => by
  obtain ⟨cs, hc⟩ := own_blk17 h.row e.symm
  exact h1.mp.ne_ hc rfl
 have hlo := h.turn.size
 have hlo2 := h.lo_
 refine ⟨⟨K, D, rd, ht, ⟨⟨h1.rg.low, hb (by decide) h1.rg.pool, fun i f hi => ⟨hb (by decide) (h1.rg.fr i f hi).1, (h1.rg.fr i f hi).2⟩, h1.rg.inj⟩, h1.mp.same hm, h1.lom, fun i f hi => ⟨hb (by decide) (h1.by_ i f hi).1, (h1.by_ i f hi).2⟩, h1.pg, ⟨⟨hb (by decide) h1.dk.dk.d, hb (by decide) h1.dk.dk.b, hb (by decide) h1.dk.dk.t, h1.dk.dk.hb, h1.dk.dk.ht⟩, h1.dk.full, h1.dk.hp⟩, h1.s1, h1.sz⟩, h2, h3, h4⟩, ?_, hb (by decide) h.cb, hb (by decide) h.qb⟩
 refine ⟨Nat.le_trans h.turn.size hg.size, fun g hg' a1 a2 a3 => (hg.block g (by omega) fun e => ?_).trans (h.turn.heap g hg' a1 a2 a3), fun B w1 hB hb' => ?_⟩
 · have := (World.ownsRow.lt h.row g e.symm).1; omega
 · exact (h.turn.below B w1 hB hb').grown hg (by omega) fun k e => by have := (World.ownsRow.lt h.row k e).1; omega
theorem CS.push (h : CS w0 lo gp gd gb gt n ps T gm size K0 c gc gq st v W) {v' : Value} {es : List En} (ho : W'.ownsRow w0.heap.size 37 3 v' (st.L ++ es).length (vE (st.L ++ es))) (hg : W.grownBy W' v.ownBlock) (hl : (st.L ++ es).length ≤ 63 * st.lv) :
 CS w0 lo gp gd gb gt n ps T gm size K0 c gc gq { st with L := st.L ++ es } v' (W'.setCell ⟨gc, 2, none⟩ v') := by
 obtain ⟨⟨K, D, rd, ht, h1, h2, h3, h4⟩, tn, hcb, hqb⟩ := h.grown hg
 have hq : gq ≠ gc := by rintro rfl; exact h.qb.ne_ h.cb (by decide) rfl
 refine ⟨⟨K, D, rd, ht, h1.far hcb (Far.set1 W' gc 2 v') (by decide) (by decide) (by decide) (by decide) (by decide), h2, h3, h4⟩, tn.far (Far.set1 W' gc 2 v') h.hic h.lo_, ?_, hqb.far (by simpa using hq) v', own_far ho hcb (by decide) 2 v', h.lo_, h.hic, h.hiq, h.qt, h.ml, hl⟩
 have := hcb.set_ 2 v'
 simpa [ckArr] using this
end
end
end Go.Proofs.YtebobcbaloddaaaGreat
namespace Go.Proofs.YtebobcbaloddaaaGreat
section
set_option linter.unusedSimpArgs false
set_option linter.unusedVariables false
open Go.RowKit Go.Maps
def RetCk (w0 : World) (lo gp gd gb gt n : Nat) (ps : List (List UInt8)) (T : List Bool) (gm size : Nat) (K0 : List Fr) (gc gq m : Nat) (W : World) (v : Value) (r : Option Ck) (e : Ending) (W' : World) : Prop :=
 ∃ st' v' c', CS w0 lo gp gd gb gt n ps T gm size K0 c' gc gq st' v' W' ∧ Evo W W' gm gc gq v ∧ (v'.ownBlock = v.ownBlock ∨ ∃ k, v'.ownBlock = some k ∧ W.heap.size ≤ k) ∧
   ((∃ s, r = some s ∧ st' = s ∧ e = .returned (.int .i64 0) ∧ c' ≤ m + s.pgs) ∨ (r = none ∧ (∃ x : Int, x ≠ 0 ∧ e = .returned (.int .i64 x)) ∧ c' ≤ m + n + 1))
section
variable {w0 w : World} {lo gp gd gb gt n : Nat} {ps : List (List UInt8)} {T : List Bool} {gm size : Nat} {K0 : List Fr} {c gc gq m : Nat} {st : Ck} {v : Value}
theorem bhas_any (b : Bnd) (A : Option Addr) (c' : Nat) (l : List En) (W : World) (hr : Reads W W.heap.size 3 A l.length (vE l)) (hm : l.length ≤ 100000) :
 Calls Tryz.prog 106 #[b.agg, .slice A l.length c'] W (RetB W (.bool (bHas b l))) := by
 cases l with
 | nil => exact bhas_nil b A c' W
 | cons x r =>
   have hy : (x :: r)[r.length]? = some ((x :: r).getLast (by simp)) := by
    rw [List.getLast_eq_getElem, List.getElem?_eq_getElem (by simp)]; simp
   exact bhas_some b A r.length c' x _ (x :: r) W hr rfl hy (by simp at hm; omega)
theorem cells_oneVE (l : List En) : ∀ u ∈ vE l, u.oneCell' = true := by
 intro u hu
 unfold vE at hu
 obtain ⟨x, _, hx⟩ := List.mem_flatMap.1 hu
 exact cells_oneE x u hx
set_option maxRecDepth 100000 in
set_option maxHeartbeats 8000000 in
theorem ckLeaf_any (h : CS w0 lo gp gd gb gt n ps T gm size K0 c gc gq st v w) (hn : n ≤ 1000) (page deep N : Nat) (hd : deep ≤ 20) (hp : page < 4294967296) (hN : N < 4294967296) (A : Option Addr) (k : Nat) (es : List En) (hr : Reads w w.heap.size 3 A es.length (vE es)) (hAne : ∀ ad, A = some ad → ad.block ≠ gc) (hes : es.length ≤ 63) (b : Bnd) (hlv : st.lv ≤ 1000) (hhi : st.hi ≤ 20) (hnx : st.nx < 4294967296) (hpg : st.pgs ≤ n) (hc : c ≤ m + st.pgs) :
 Calls Tryz.prog 77 #[.pointer (some ⟨gc, 0, none⟩), .int .u32 page, .agg #[.bool true, .int .u32 (N : Int), .slice none 0 0, .slice A es.length k], .int .i64 deep, b.agg] w (RetCk w0 lo gp gd gb gt n ps T gm size K0 gc gq m w v (ckLeaf page deep N es b st)) := by
 obtain ⟨i0, hi0, hz0, hs0, hy0⟩ := int_info8 Tryz.infoE
 have hb0 := ball (ball (Below.refl w.heap.size w) (.cells #[.bool true, .int .u32 (N : Int), .slice none 0 0, .slice A es.length k] 75)) (.cells b.arr 119)
 have X0 := (Blk.new w 75 #[.bool true, .int .u32 (N : Int), .slice none 0 0, .slice A es.length k]).alloc (.cells b.arr 119)
 have X1 := Blk.new (w.alloc (.cells #[.bool true, .int .u32 (N : Int), .slice none 0 0, .slice A es.length k] 75)) 119 b.arr
 rw [alloc_size] at X1
 have h1 := h.below hb0
 have hr1 := (hr.below hb0).more hb0.size
 have hgc : gc < w.heap.size := h.cb.lt
 have HB := Lib.hid fun (W : World) (hb : Reads W W.heap.size 3 A es.length (vE es)) => bhas_any b A k es W hb (by omega)
 have HE : Hid (ckLeaf page deep N es b st = if (st.lv = 0 ∨ (deep = st.hi ∧ st.nx = page)) ∧ bHas b es = true then some { st with L := st.L ++ es, lv := st.lv + 1, hi := if st.lv = 0 then deep else st.hi, nx := N } else none) := Lib.hid rfl
 obtain ⟨hasV, hhas⟩ : ∃ x, bHas b es = x := ⟨_, rfl⟩
 rw [hhas] at HB HE
 clear hhas
 generalize ckLeaf page deep N es b st = R at *
 have hnr : ∀ ad, A = some ad → ad.block ≠ gc := hAne
 have hnr : ∀ ad, A = some ad → ad.block ≠ gc := hAne
 have hnr : ∀ ad, A = some ad → ad.block ≠ gc := hAne
 have hnr : ∀ ad, A = some ad → ad.block ≠ gc := hAne
 have hnr : ∀ ad, A = some ad → ad.block ≠ gc := hAne
 have hnr : ∀ ad, A = some ad → ad.block ≠ gc := hAne
 have hnr : ∀ ad, A = some ad → ad.block ≠ gc := hAne
 obtain ⟨⟨s1, p1, q1⟩, ⟨s2, p2, q2⟩, en⟩ := b
 unfold Bnd.agg at HB ⊢
 unfold Bnd.arr at hb0 X0 X1 h1 hr1
 simp only at *
 have hz2 : ((w.alloc (.cells #[.bool true, .int .u32 (N : Int), .slice none 0 0, .slice A es.length k] 75)).alloc (.cells #[.string s1, .int .u32 p1, .int .u16 q1, .string s2, .int .u32 p2, .int .u16 q2, .bool en] 119)).heap.size = w.heap.size + 1 + 1 := by simp
 go_enter Tryz.func77, Tryz.ntmps77
 go_upto_region 1 with fail
 obtain ⟨WX, hWX⟩ : ∃ WX, ((w.alloc (.cells #[.bool true, .int .u32 (N : Int), .slice none 0 0, .slice A es.length k] 75)).alloc (.cells #[.string s1, .int .u32 p1, .int .u16 q1, .string s2, .int .u32 p2, .int .u16 q2, .bool en] 119)) = WX := ⟨_, rfl⟩
 rw [hWX] at h1 X0 X1 hb0 hr1 hz2 ⊢
 clear hWX
 have c2 : WX.cell? ⟨gc, 2, none⟩ = some v := h1.cb.cell 2
 have c4 : WX.cell? ⟨gc, 4, none⟩ = some (.int .i64 (st.lv : Int)) := h1.cb.cell 4
 have c6 : WX.cell? ⟨gc, 6, none⟩ = some (.int .i64 (st.hi : Int)) := h1.cb.cell 6
 have c7 : WX.cell? ⟨gc, 7, none⟩ = some (.int .u32 (st.nx : Int)) := h1.cb.cell 7
 have f6 := h1.cb.frozen 6
 have l6 := h1.cb.lt
 have y0 : WX.cell? ⟨w.heap.size, 0, none⟩ = some (.bool true) := X0.cell 0
 have y3 : WX.cell? ⟨w.heap.size, 3, none⟩ = some (.slice A es.length k) := X0.cell 3
 have z0 : WX.cell? ⟨w.heap.size + 1, 0, none⟩ = some (.string s1) := X1.cell 0
 have z1 : WX.cell? ⟨w.heap.size + 1, 1, none⟩ = some (.int .u32 p1) := X1.cell 1
 have z2 : WX.cell? ⟨w.heap.size + 1, 2, none⟩ = some (.int .u16 q1) := X1.cell 2
 have z3 : WX.cell? ⟨w.heap.size + 1, 3, none⟩ = some (.string s2) := X1.cell 3
 have z4 : WX.cell? ⟨w.heap.size + 1, 4, none⟩ = some (.int .u32 p2) := X1.cell 4
 have z5 : WX.cell? ⟨w.heap.size + 1, 5, none⟩ = some (.int .u16 q2) := X1.cell 5
 have z6 : WX.cell? ⟨w.heap.size + 1, 6, none⟩ = some (.bool en) := X1.cell 6
 have hgw : w.heap.size ≠ gc := by omega
 have hgw1 : w.heap.size + 1 ≠ gc := by omega
 have H0 := Lib.hid (And.intro h1 (And.intro X0 (And.intro X1 (And.intro hb0 hr1))))
 clear h h1 X0 X1 hb0 hr1 hr
 by_cases hl0 : st.lv = 0
 · have e0 : ((st.lv : Int) == 0) = true := by simp; omega
   have hs : Hid ((ckArr gp gq n v st).setIfInBounds 6 (.int .i64 (deep : Int)) = ckArr gp gq n v { st with hi := deep }) := Lib.hid (by simp [ckArr])
   have hC := H0.out.1.setc 6 (.int .i64 (deep : Int)) hs.out rfl rfl (Nat.le_refl _)
   have hE := (Evo.of_below (gm := gm) (gc := gc) (gq := gq) (v := v) H0.out.2.2.2.1).trans (Evo.of_set (gm := gm) (gc := gc) (gq := gq) (v := v) (p := ⟨gc, 6, none⟩) (.int .i64 (deep : Int)) (.inl rfl)) (.inl rfl)
   have hX := H0.out.2.1.far (p := ⟨gc, 6, none⟩) hgw (.int .i64 (deep : Int))
   have hrX := reads_far H0.out.2.2.2.2 (p := ⟨gc, 6, none⟩) hnr (.int .i64 (deep : Int))
   have hbX : Below w.heap.size w WX := H0.out.2.2.2.1
   have HL0 := Lib.hid hl0
   clear hl0
   go_wp2_with fail
   obtain ⟨w2, hw2⟩ : ∃ w2, (WX.setCell ⟨gc, 6, none⟩ (.int .i64 (deep : Int))) = w2 := ⟨_, rfl⟩
   rw [hw2] at hC hE hX hrX ⊢
   clear hw2 c2 c4 c6 c7 f6 l6 y0 y3 z0 z1 z2 z3 z4 z5 z6
   refine (HB.out _ hrX).mono ?_
   rintro e w3 ⟨rfl, hb3⟩
   have hC3 := hC.below hb3
   have hX3 := hX.below hb3 hX.lt
   have hE3 := hE.trans (Evo.of_below (gm := gm) (gc := gc) (gq := gq) (v := v) hb3) (.inl rfl)
   have hr3 := (hrX.below hb3).more hb3.size
   cases hasV
   · have HF : Hid (R = none) := Lib.hid (by rw [HE.out, if_neg (fun h => by cases h.2)])
     have HH := Lib.hid (And.intro hC3 hE3)
     clear hC3 hE3 hX3 hr3 hb3
     go_wp2
     go_ret
     rw [HF.out]
     exact ⟨_, v, c, HH.out.1, HH.out.2, .inl rfl, .inr ⟨rfl, ⟨2, by decide, rfl⟩, by omega⟩⟩
   · have HF : Hid (R = some { st with L := st.L ++ es, lv := st.lv + 1, hi := if st.lv = 0 then deep else st.hi, nx := N }) := Lib.hid (by rw [HE.out, if_pos ⟨.inl HL0.out, rfl⟩])
     have k4 : w3.cell? ⟨gc, 4, none⟩ = some (.int .i64 (st.lv : Int)) := hC3.cb.cell 4
     have f4 := hC3.cb.frozen 4
     have l4 := hC3.cb.lt
     have kE : w3.cell? ⟨w.heap.size, 3, none⟩ = some (.slice A es.length k) := hX3.cell 3
     have kN : w3.cell? ⟨w.heap.size, 1, none⟩ = some (.int .u32 (N : Int)) := hX3.cell 1
     have lv0 : (0 : Int) ≤ (st.lv : Int) := by omega
     have lv1 : (st.lv : Int) ≤ 1000 := by omega
     have hs : Hid ((ckArr gp gq n v { st with hi := deep }).setIfInBounds 4 (.int .i64 ((st.lv : Int) + 1)) = ckArr gp gq n v { { st with hi := deep } with lv := st.lv + 1 }) := Lib.hid (by simp [ckArr])
     have hC4 := hC3.setc 4 (.int .i64 ((st.lv : Int) + 1)) hs.out rfl rfl (by simp)
     have hE4 := hE3.trans (Evo.of_set (w := w3) (gm := gm) (gc := gc) (gq := gq) (v := v) (p := ⟨gc, 4, none⟩) (.int .i64 ((st.lv : Int) + 1)) (.inl rfl)) (.inl rfl)
     have hgw : w.heap.size ≠ gc := by omega
     have hX4 := hX3.far (p := ⟨gc, 4, none⟩) hgw (.int .i64 ((st.lv : Int) + 1))
     have hr4 : Reads (w3.setCell ⟨gc, 4, none⟩ (.int .i64 ((st.lv : Int) + 1))) (w3.setCell ⟨gc, 4, none⟩ (.int .i64 ((st.lv : Int) + 1))).heap.size 3 A es.length (vE es) := reads_far hr3 (fun ad hA => by
      have := hnr ad hA; exact this) _
     have HH := Lib.hid (And.intro hC4 (And.intro hE4 (And.intro hX4 hr4)))
     clear hC3 hE3 hX3 hr3 hb3 hC4 hE4 hX4 hr4 hs
     go_wp2_with fail
     obtain ⟨w4, hw4⟩ : ∃ w4, (w3.setCell ⟨gc, 4, none⟩ (.int .i64 ((st.lv : Int) + 1))) = w4 := ⟨_, rfl⟩
     rw [hw4] at HH ⊢
     clear hw4 k4 f4 kE kN
     have k2 : w4.cell? ⟨gc, 2, none⟩ = some v := HH.out.1.cb.cell 2
     have f2 := HH.out.1.cb.frozen 2
     have l2 := HH.out.1.cb.lt
     have kE : w4.cell? ⟨w.heap.size, 3, none⟩ = some (.slice A es.length k) := HH.out.2.2.1.cell 3
     obtain ⟨Av, cv, rfl, hcv⟩ := own_form HH.out.1.row
     have hll := HH.out.1.ll
     simp only at hll
     have hll0 := H0.out.1.ll
     have hm63 : st.L.length + es.length ≤ 1000000 := by omega
     have hz4 := HH.out.1.turn.size
     go_region_law (refine step_append_any _ rfl (.tmp 63) (.tmp 65) 22 rfl w0.heap.size 37 i0 _ 3 24 Tryz.underlying22 hi0 hz0 hs0 hy0 rfl (by decide) (.slice Av st.L.length cv) st.L.length (vE st.L) (by simp [Act.eval, Act.put]) HH.out.1.row.drew _ A es.length k (vE es) (by simp [Act.eval, Act.put]) HH.out.2.2.2.drew (cells_oneVE es) (by unfold maxLen; omega) (by omega) hz4 ?_; intro v5 w5 ho5 hg5 hv5; obtain ⟨A5, c5, rfl, hc5⟩ := own_form ho5; have hG := (HH.out.1.below (Below.drew (Below.refl _ _))).grown hg5; have k5 : w5.cell? ⟨gc, 2, none⟩ = some (.slice Av st.L.length cv) := hG.2.2.1.cell 2; have f5 := hG.2.2.1.frozen 2; have l5 := hG.2.2.1.lt; have H5 := Lib.hid (And.intro ho5 (And.intro hg5 hv5)); clear hG ho5 hg5 hv5)
     all_goals (
      have hP := (HH.out.1.below (Below.drew (Below.refl _ _))).push (es := es) (by rw [List.length_append]; have := H5.out.1; simpa [vE, List.flatMap_append] using this) H5.out.2.1 (by simp only [List.length_append]; omega)
      have hE5 : Evo w (w5.setCell ⟨gc, 2, none⟩ (.slice A5 (st.L.length + es.length) c5)) gm gc gq (.slice Av st.L.length cv) := by
       refine HH.out.2.1.trans (⟨?_, fun g g1 g2 g3 g4 g5 g6 g7 => ?_⟩ : Evo w4 _ gm gc gq (.slice Av st.L.length cv)) (.inl rfl)
       · have := H5.out.2.1.size; simpa [World.setCell] using this
       · exact (Below.heap_setCell _ _ _ _ g5).trans (H5.out.2.1.block g g1 fun e => g7 e.symm)
      have hX5 := (blk_own_ne HH.out.1.row.drew HH.out.2.2.1.drew H5.out.2.1 (by decide)).far (p := ⟨gc, 2, none⟩) hgw (.slice A5 (st.L.length + es.length) c5)
      have hw4 := HH.out.2.1.size
      have hv5 : (Value.slice A5 (st.L.length + es.length) c5).ownBlock = (Value.slice Av st.L.length cv).ownBlock ∨ ∃ j, (Value.slice A5 (st.L.length + es.length) c5).ownBlock = some j ∧ w.heap.size ≤ j := by
       rcases H5.out.2.2 with e | e
       · exact .inl e
       · exact .inr ⟨_, e, hw4⟩
      obtain ⟨w6, hw6⟩ : ∃ w6, (w5.setCell ⟨gc, 2, none⟩ (.slice A5 (st.L.length + es.length) c5)) = w6 := ⟨_, rfl⟩
      simp only at hP
      rw [hw6] at hP hE5 hX5 ⊢
      have kN : w6.cell? ⟨w.heap.size, 1, none⟩ = some (.int .u32 (N : Int)) := hX5.cell 1
      have k7 : w6.cell? ⟨gc, 7, none⟩ = some (.int .u32 (st.nx : Int)) := hP.cb.cell 7
      have f7 := hP.cb.frozen 7
      have l7 := hP.cb.lt
      have H6 := Lib.hid (And.intro hP (And.intro hE5 hv5))
      clear hw6 k5 f5 l5 k2 f2 l2 kE hP hE5 hX5 hv5
      go_wp2
      go_ret
      rw [HF.out]
      refine ⟨_, _, c, H6.out.1.setc 7 (.int .u32 (N : Int)) (st' := { st with L := st.L ++ es, lv := st.lv + 1, hi := if st.lv = 0 then deep else st.hi, nx := N }) ?_ rfl rfl (Nat.le_refl _), H6.out.2.1.trans (Evo.of_set (p := ⟨gc, 7, none⟩) (.int .u32 (N : Int)) (.inl rfl)) H6.out.2.2, H6.out.2.2, .inl ⟨_, rfl, rfl, rfl, hc⟩⟩
      rw [if_pos HL0.out]; simp [ckArr])
 · have e0 : ((st.lv : Int) == 0) = false := by simp; omega
   have HN := Lib.hid hl0
   clear hl0
   by_cases hdh : deep = st.hi
   · have e1 : ((deep : Int) != (st.hi : Int)) = false := by rw [hdh]; simp
     have HDH := Lib.hid hdh
     clear hdh
     by_cases hnp : st.nx = page
     · have e2 : ((st.nx : Int) != (page : Int)) = false := by rw [hnp]; simp
       have HNP := Lib.hid hnp
       clear hnp
       have hC := H0.out.1
       have hE := Evo.of_below (gm := gm) (gc := gc) (gq := gq) (v := v) H0.out.2.2.2.1
       have hX := H0.out.2.1
       have hrX := H0.out.2.2.2.2
       go_wp2_with fail
       clear c2 c4 c6 c7 f6 l6 y0 y3 z0 z1 z2 z3 z4 z5 z6
       refine (HB.out _ hrX).mono ?_
       rintro e w3 ⟨rfl, hb3⟩
       have hC3 := hC.below hb3
       have hX3 := hX.below hb3 hX.lt
       have hE3 := hE.trans (Evo.of_below (gm := gm) (gc := gc) (gq := gq) (v := v) hb3) (.inl rfl)
       have hr3 := (hrX.below hb3).more hb3.size
       cases hasV
       · have HF : Hid (R = none) := Lib.hid (by rw [HE.out, if_neg (fun h => by cases h.2)])
         have HH := Lib.hid (And.intro hC3 hE3)
         clear hC3 hE3 hX3 hr3 hb3
         go_wp2
         go_ret
         rw [HF.out]
         exact ⟨_, v, c, HH.out.1, HH.out.2, .inl rfl, .inr ⟨rfl, ⟨2, by decide, rfl⟩, by omega⟩⟩
       · have HF : Hid (R = some { st with L := st.L ++ es, lv := st.lv + 1, hi := if st.lv = 0 then deep else st.hi, nx := N }) := Lib.hid (by rw [HE.out, if_pos ⟨.inr ⟨HDH.out, HNP.out⟩, rfl⟩])
         have k4 : w3.cell? ⟨gc, 4, none⟩ = some (.int .i64 (st.lv : Int)) := hC3.cb.cell 4
         have f4 := hC3.cb.frozen 4
         have l4 := hC3.cb.lt
         have kE : w3.cell? ⟨w.heap.size, 3, none⟩ = some (.slice A es.length k) := hX3.cell 3
         have kN : w3.cell? ⟨w.heap.size, 1, none⟩ = some (.int .u32 (N : Int)) := hX3.cell 1
         have lv0 : (0 : Int) ≤ (st.lv : Int) := by omega
         have lv1 : (st.lv : Int) ≤ 1000 := by omega
         have hs : Hid ((ckArr gp gq n v st).setIfInBounds 4 (.int .i64 ((st.lv : Int) + 1)) = ckArr gp gq n v { st with lv := st.lv + 1 }) := Lib.hid (by simp [ckArr])
         have hC4 := hC3.setc 4 (.int .i64 ((st.lv : Int) + 1)) hs.out rfl rfl (by simp)
         have hE4 := hE3.trans (Evo.of_set (w := w3) (gm := gm) (gc := gc) (gq := gq) (v := v) (p := ⟨gc, 4, none⟩) (.int .i64 ((st.lv : Int) + 1)) (.inl rfl)) (.inl rfl)
         have hgw : w.heap.size ≠ gc := by omega
         have hX4 := hX3.far (p := ⟨gc, 4, none⟩) hgw (.int .i64 ((st.lv : Int) + 1))
         have hr4 : Reads (w3.setCell ⟨gc, 4, none⟩ (.int .i64 ((st.lv : Int) + 1))) (w3.setCell ⟨gc, 4, none⟩ (.int .i64 ((st.lv : Int) + 1))).heap.size 3 A es.length (vE es) := reads_far hr3 (fun ad hA => by
          have := hnr ad hA; exact this) _
         have HH := Lib.hid (And.intro hC4 (And.intro hE4 (And.intro hX4 hr4)))
         clear hC3 hE3 hX3 hr3 hb3 hC4 hE4 hX4 hr4 hs
         go_wp2_with fail
         obtain ⟨w4, hw4⟩ : ∃ w4, (w3.setCell ⟨gc, 4, none⟩ (.int .i64 ((st.lv : Int) + 1))) = w4 := ⟨_, rfl⟩
         rw [hw4] at HH ⊢
         clear hw4 k4 f4 kE kN
         have k2 : w4.cell? ⟨gc, 2, none⟩ = some v := HH.out.1.cb.cell 2
         have f2 := HH.out.1.cb.frozen 2
         have l2 := HH.out.1.cb.lt
         have kE : w4.cell? ⟨w.heap.size, 3, none⟩ = some (.slice A es.length k) := HH.out.2.2.1.cell 3
         obtain ⟨Av, cv, rfl, hcv⟩ := own_form HH.out.1.row
         have hll := HH.out.1.ll
         simp only at hll
         have hll0 := H0.out.1.ll
         have hm63 : st.L.length + es.length ≤ 1000000 := by omega
         have hz4 := HH.out.1.turn.size
         go_region_law (refine step_append_any _ rfl (.tmp 63) (.tmp 65) 22 rfl w0.heap.size 37 i0 _ 3 24 Tryz.underlying22 hi0 hz0 hs0 hy0 rfl (by decide) (.slice Av st.L.length cv) st.L.length (vE st.L) (by simp [Act.eval, Act.put]) HH.out.1.row.drew _ A es.length k (vE es) (by simp [Act.eval, Act.put]) HH.out.2.2.2.drew (cells_oneVE es) (by unfold maxLen; omega) (by omega) hz4 ?_; intro v5 w5 ho5 hg5 hv5; obtain ⟨A5, c5, rfl, hc5⟩ := own_form ho5; have hG := (HH.out.1.below (Below.drew (Below.refl _ _))).grown hg5; have k5 : w5.cell? ⟨gc, 2, none⟩ = some (.slice Av st.L.length cv) := hG.2.2.1.cell 2; have f5 := hG.2.2.1.frozen 2; have l5 := hG.2.2.1.lt; have H5 := Lib.hid (And.intro ho5 (And.intro hg5 hv5)); clear hG ho5 hg5 hv5)
         all_goals (
          have hP := (HH.out.1.below (Below.drew (Below.refl _ _))).push (es := es) (by rw [List.length_append]; have := H5.out.1; simpa [vE, List.flatMap_append] using this) H5.out.2.1 (by simp only [List.length_append]; omega)
          have hE5 : Evo w (w5.setCell ⟨gc, 2, none⟩ (.slice A5 (st.L.length + es.length) c5)) gm gc gq (.slice Av st.L.length cv) := by
           refine HH.out.2.1.trans (⟨?_, fun g g1 g2 g3 g4 g5 g6 g7 => ?_⟩ : Evo w4 _ gm gc gq (.slice Av st.L.length cv)) (.inl rfl)
           · have := H5.out.2.1.size; simpa [World.setCell] using this
           · exact (Below.heap_setCell _ _ _ _ g5).trans (H5.out.2.1.block g g1 fun e => g7 e.symm)
          have hX5 := (blk_own_ne HH.out.1.row.drew HH.out.2.2.1.drew H5.out.2.1 (by decide)).far (p := ⟨gc, 2, none⟩) hgw (.slice A5 (st.L.length + es.length) c5)
          have hw4 := HH.out.2.1.size
          have hv5 : (Value.slice A5 (st.L.length + es.length) c5).ownBlock = (Value.slice Av st.L.length cv).ownBlock ∨ ∃ j, (Value.slice A5 (st.L.length + es.length) c5).ownBlock = some j ∧ w.heap.size ≤ j := by
           rcases H5.out.2.2 with e | e
           · exact .inl e
           · exact .inr ⟨_, e, hw4⟩
          obtain ⟨w6, hw6⟩ : ∃ w6, (w5.setCell ⟨gc, 2, none⟩ (.slice A5 (st.L.length + es.length) c5)) = w6 := ⟨_, rfl⟩
          simp only at hP
          rw [hw6] at hP hE5 hX5 ⊢
          have kN : w6.cell? ⟨w.heap.size, 1, none⟩ = some (.int .u32 (N : Int)) := hX5.cell 1
          have k7 : w6.cell? ⟨gc, 7, none⟩ = some (.int .u32 (st.nx : Int)) := hP.cb.cell 7
          have f7 := hP.cb.frozen 7
          have l7 := hP.cb.lt
          have H6 := Lib.hid (And.intro hP (And.intro hE5 hv5))
          clear hw6 k5 f5 l5 k2 f2 l2 kE hP hE5 hX5 hv5
          go_wp2
          go_ret
          rw [HF.out]
          refine ⟨_, _, c, H6.out.1.setc 7 (.int .u32 (N : Int)) (st' := { st with L := st.L ++ es, lv := st.lv + 1, hi := if st.lv = 0 then deep else st.hi, nx := N }) ?_ rfl rfl (Nat.le_refl _), H6.out.2.1.trans (Evo.of_set (p := ⟨gc, 7, none⟩) (.int .u32 (N : Int)) (.inl rfl)) H6.out.2.2, H6.out.2.2, .inl ⟨_, rfl, rfl, rfl, hc⟩⟩
          rw [if_neg HN.out]; simp [ckArr])
     · have e2 : ((st.nx : Int) != (page : Int)) = true := by simp; omega
       have HF : Hid (R = none) := Lib.hid (by rw [HE.out, if_neg]; rintro ⟨h | h, _⟩; exact HN.out h; exact hnp h.2)
       clear hnp
       go_wp2
       go_ret
       rw [HF.out]
       exact ⟨_, v, c, H0.out.1, Evo.of_below H0.out.2.2.2.1, .inl rfl, .inr ⟨rfl, ⟨2, by decide, rfl⟩, by omega⟩⟩
   · have e1 : ((deep : Int) != (st.hi : Int)) = true := by simp; omega
     have HF : Hid (R = none) := Lib.hid (by rw [HE.out, if_neg]; rintro ⟨h | h, _⟩; exact HN.out h; exact hdh h.1)
     clear hdh
     go_wp2
     go_ret
     rw [HF.out]
     exact ⟨_, v, c, H0.out.1, Evo.of_below H0.out.2.2.2.1, .inl rfl, .inr ⟨rfl, ⟨2, by decide, rfl⟩, by omega⟩⟩
end
end
end Go.Proofs.YtebobcbaloddaaaGreat
namespace Go.Proofs.YtebobcbaloddaaaGreat
section
set_option linter.unusedSimpArgs false
set_option linter.unusedVariables false
open Go.RowKit Go.Maps
structure CkOk (n : Nat) (st : Ck) : Prop where
 pg : st.pgs = trues st.met
 ml : st.met.length = n
 lv : st.lv ≤ st.pgs
 hi : st.hi ≤ 12
 nx : st.nx < 4294967296
theorem trues_le (l : List Bool) : trues l ≤ l.length := List.length_filter_le _ _
theorem trues_set : ∀ (l : List Bool) (p : Nat), l[p]? = some false → trues (l.set p true) = trues l + 1
 | [], p, h => by simp at h
 | b :: l, 0, h => by
   simp only [List.getElem?_cons_zero, Option.some.injEq] at h
   subst h
   simp [trues]
 | b :: l, p + 1, h => by
   have ih := trues_set l p (by simpa using h)
   unfold trues at ih ⊢
   rw [List.set_cons_succ, List.filter_cons, List.filter_cons]
   split <;> simp [ih]
section
variable {w0 w : World} {lo gp gd gb gt n : Nat} {ps : List (List UInt8)} {T : List Bool} {gm size : Nat} {K0 : List Fr} {c gc gq m : Nat} {st : Ck} {v : Value}
theorem Evo.row {w w' : World} {gm gc gq base size k : Nat} {v u : Value} {e : TypeId} {xs : List Value} (h : Evo w w' gm gc gq v) (ho : w.ownsRow base e size u k xs) (h1 : e ≠ 108) (h2 : e ≠ 100)
 (h3 : ∀ g cs, Blk w g e cs → u.ownBlock = some g → g ≠ gm ∧ g ≠ gc ∧ g ≠ gq ∧ v.ownBlock ≠ some g) : w'.ownsRow base e size u k xs :=
 ownR_stays ho fun g cs hu hb => by
  obtain ⟨a, b, c, d⟩ := h3 g cs hb hu
  exact h.heap g hb.lt (fun cs' h' => hb.ne_ h' h1 rfl) (fun cs' h' => hb.ne_ h' h2 rfl) a b c d
theorem CS.ne_c (h : CS w0 lo gp gd gb gt n ps T gm size K0 c gc gq st v w) {g : Nat} {t : TypeId} {cs : Array Value} (hb : Blk w g t cs) (ht : t ≠ 116) : g ≠ gc := hb.ne_ h.cb ht
theorem CS.ne_q (h : CS w0 lo gp gd gb gt n ps T gm size K0 c gc gq st v w) {g : Nat} {t : TypeId} {cs : Array Value} (hb : Blk w g t cs) (ht : t ≠ 4) : g ≠ gq := hb.ne_ h.qb ht
theorem CS.ne_v (h : CS w0 lo gp gd gb gt n ps T gm size K0 c gc gq st v w) {g : Nat} {t : TypeId} {cs : Array Value} (hb : Blk w g t cs) (ht : 37 ≠ t) : v.ownBlock ≠ some g := own_blk_ne h.row hb ht
theorem CS.vlt (h : CS w0 lo gp gd gb gt n ps T gm size K0 c gc gq st v w) {g : Nat} (hg : w.heap.size ≤ g) : v.ownBlock ≠ some g := fun e => by have := (World.ownsRow.lt h.row g e).2; omega
set_option maxRecDepth 100000 in
set_option maxHeartbeats 8000000 in
theorem ckInner_any (F : Nat → Bnd → Ck → Option Ck) (deep : Nat) (hd : deep ≤ 12)
 (HF : deep < 12 → ∀ (W : World) (st : Ck) (v : Value) (c page : Nat) (b : Bnd), CS w0 lo gp gd gb gt n ps T gm size K0 c gc gq st v W → CkOk n st → c ≤ m + st.pgs → page < 4294967296 →
  Calls Tryz.prog 44 #[.pointer (some ⟨gc, 0, none⟩), .int .u32 page, .int .i64 (deep + 1 : Nat), b.agg] W (RetCk w0 lo gp gd gb gt n ps T gm size K0 gc gq m W v (F page b st)))
 (HFo : deep < 12 → ∀ page b st s, CkOk n st → F page b st = some s → CkOk n s)
 (h : CS w0 lo gp gd gb gt n ps T gm size K0 c gc gq st v w) (hok : CkOk n st) (hn : n ≤ 1000) (hc : c ≤ m + st.pgs) (A : Option Addr) (k cA : Nat) (kids : List Nat) (A2 : Option Addr) (cB : Nat) (seps : List En) (B1 B2 : Nat)
 (o1 : w.ownsRow B1 30 1 (.slice A (k + 1) cA) (k + 1) (vN kids)) (o2 : w.ownsRow B2 37 3 (.slice A2 k cB) k (vE seps)) (hne : ∀ g, (Value.slice A2 k cB).ownBlock = some g → v.ownBlock ≠ some g) (hk : k ≤ 100) (hkid : ∀ x ∈ kids, x < 4294967296) (b : Bnd) :
 Calls Tryz.prog 78 #[.pointer (some ⟨gc, 0, none⟩), .agg #[.bool false, .int .u32 0, .slice A (k + 1) cA, .slice A2 k cB], .int .i64 deep, b.agg] w (RetCk w0 lo gp gd gb gt n ps T gm size K0 gc gq m w v (if deep = 12 ∨ deep = st.hi then none else ckKids F seps b kids 0 st)) := by
 have hb0 := ball (ball (Below.refl w.heap.size w) (.cells #[.bool false, .int .u32 0, .slice A (k + 1) cA, .slice A2 k cB] 75)) (.cells b.arr 119)
 have X0 := (Blk.new w 75 #[.bool false, .int .u32 0, .slice A (k + 1) cA, .slice A2 k cB]).alloc (.cells b.arr 119)
 have X1 := Blk.new (w.alloc (.cells #[.bool false, .int .u32 0, .slice A (k + 1) cA, .slice A2 k cB] 75)) 119 b.arr
 rw [alloc_size] at X1
 have h1 := h.below hb0
 have p1 := own_below o1 hb0
 have p2 := own_below o2 hb0
 have hz2 : ((w.alloc (.cells #[.bool false, .int .u32 0, .slice A (k + 1) cA, .slice A2 k cB] 75)).alloc (.cells b.arr 119)).heap.size = w.heap.size + 1 + 1 := by simp
 have hpn := hok.pg
 have hpt := trues_le st.met
 rw [hok.ml] at hpt
 have hkl : kids.length = k + 1 := (Reads.of_own o1).num_len
 have hvl : ∀ g, w.heap.size ≤ g → v.ownBlock ≠ some g := fun g hg => h.vlt hg
 obtain ⟨bb, hbb⟩ : ∃ bb, b = bb := ⟨_, rfl⟩
 obtain ⟨R, hRR⟩ : ∃ R, (if deep = 12 ∨ deep = st.hi then none else ckKids F seps b kids 0 st) = R := ⟨_, rfl⟩
 rw [hRR]
 have HKID := Lib.hid hkid
 have HFO := Lib.hid HFo
 have HNE := Lib.hid hne
 have HPP := Lib.hid (And.intro hpn (And.intro hpt (And.intro hkl hvl)))
 have hpb : st.pgs ≤ n := by omega
 clear hkid HFo hne hpn hpt hvl
 have HRR : Hid ((if deep = 12 ∨ deep = st.hi then none else ckKids F seps bb kids 0 st) = R) := Lib.hid (by rw [← hbb]; exact hRR)
 have Hbb := Lib.hid hbb
 clear hbb hRR
 obtain ⟨⟨s1, q1, r1⟩, ⟨s2, q2, r2⟩, en⟩ := b
 unfold Bnd.agg
 unfold Bnd.arr at hb0 X0 X1 h1 p1 p2 hz2
 simp only at *
 go_enter Tryz.func78, Tryz.ntmps78
 go_upto_region 1 with fail
 obtain ⟨WX, hWX⟩ : ∃ WX, ((w.alloc (.cells #[.bool false, .int .u32 0, .slice A (k + 1) cA, .slice A2 k cB] 75)).alloc (.cells #[.string s1, .int .u32 q1, .int .u16 r1, .string s2, .int .u32 q2, .int .u16 r2, .bool en] 119)) = WX := ⟨_, rfl⟩
 rw [hWX] at h1 X0 X1 hb0 p1 p2 hz2 ⊢
 clear hWX
 have c6 : WX.cell? ⟨gc, 6, none⟩ = some (.int .i64 (st.hi : Int)) := h1.cb.cell 6
 have y2 : WX.cell? ⟨w.heap.size, 2, none⟩ = some (.slice A (k + 1) cA) := X0.cell 2
 have H0 := Lib.hid (And.intro h1 (And.intro X0 (And.intro X1 (And.intro hb0 (And.intro p1 p2)))))
 clear h h1 X0 X1 hb0 p1 p2 o1 o2
 by_cases h12 : deep = 12
 · have e1 : ((deep : Int) == 12) = true := by rw [h12]; rfl
   have HR : Hid (R = none) := Lib.hid (by rw [← HRR.out, if_pos (.inl h12)])
   clear h12 HF
   go_wp2
   go_ret
   rw [HR.out]
   exact ⟨_, v, c, H0.out.1, Evo.of_below H0.out.2.2.2.1, .inl rfl, .inr ⟨rfl, ⟨2, by decide, rfl⟩, by omega⟩⟩
 · have e1 : ((deep : Int) == 12) = false := by simp; omega
   by_cases hdh : deep = st.hi
   · have e2 : ((deep : Int) == (st.hi : Int)) = true := by rw [hdh]; simp
     have HR : Hid (R = none) := Lib.hid (by rw [← HRR.out, if_pos (.inr hdh)])
     clear hdh h12 HF
     go_wp2
     go_ret
     rw [HR.out]
     exact ⟨_, v, c, H0.out.1, Evo.of_below H0.out.2.2.2.1, .inl rfl, .inr ⟨rfl, ⟨2, by decide, rfl⟩, by omega⟩⟩
   · have e2 : ((deep : Int) == (st.hi : Int)) = false := by simp; omega
     have HR : Hid (R = ckKids F seps bb kids 0 st) := Lib.hid (by rw [← HRR.out, if_neg (fun h => h.elim h12 hdh)])
     have HP := Lib.hid (HF (by omega))
     have HFO2 := Lib.hid (HFO.out (by omega))
     have HO := Lib.hid hok
     clear HF hdh h12 hok
     go_wp2
     go_loopw [26] (fun i wr => ∃ (j c' : Nat) (st' : Ck) (v' : Value), j ≤ k + 1 ∧ i = .int .i64 j ∧ CS w0 lo gp gd gb gt n ps T gm size K0 c' gc gq st' v' wr ∧ Evo WX wr gm gc gq v ∧ (v'.ownBlock = v.ownBlock ∨ ∃ g, v'.ownBlock = some g ∧ WX.heap.size ≤ g) ∧ c' ≤ m + st'.pgs ∧ CkOk n st' ∧ ckKids F seps bb kids 0 st = ckKids F seps bb (kids.drop j) j st') (fun i _ => k + 1 - (intOf i).toNat)
     case atStart => exact ⟨0, c, st, v, Nat.zero_le _, rfl, H0.out.1, Evo.refl _ _ _ _ _, .inl rfl, hc, HO.out, rfl⟩
     case round =>
      obtain ⟨j, c', st', v', hj, rfl, hC, hE, hv, hc', hok', hR⟩ := hrel
      have j0 : (0 : Int) ≤ (j : Int) := by omega
      by_cases hlt : j < k + 1
      · have j1 : (j : Int) < (k : Int) + 1 := by omega
        have hzw := H0.out.2.2.2.1.size
        -- the page's own rows, and the boxes, here
        have own1 := hE.row H0.out.2.2.2.2.1 (by decide) (by decide) fun g cs hb hu => ⟨H0.out.1.ne_m hb, H0.out.1.ne_c hb (by decide), H0.out.1.ne_q hb (by decide), H0.out.1.ne_v hb (by decide)⟩
        have own2 := hE.row H0.out.2.2.2.2.2 (by decide) (by decide) fun g cs hb hu => ⟨H0.out.1.ne_m hb, H0.out.1.ne_c hb (by decide), H0.out.1.ne_q hb (by decide), HNE.out g hu⟩
        have X0 := hE.blk H0.out.2.1 (by decide) (by decide) (H0.out.1.ne_m H0.out.2.1) (H0.out.1.ne_c H0.out.2.1 (by decide)) (H0.out.1.ne_q H0.out.2.1 (by decide)) (H0.out.1.ne_v H0.out.2.1 (by decide))
        have X1 := hE.blk H0.out.2.2.1 (by decide) (by decide) (H0.out.1.ne_m H0.out.2.2.1) (H0.out.1.ne_c H0.out.2.2.1 (by decide)) (H0.out.1.ne_q H0.out.2.2.1 (by decide)) (H0.out.1.ne_v H0.out.2.2.1 (by decide))
        obtain ⟨ad, x, rfl, _, hx, u0⟩ := (Reads.of_own own1).num hlt
        have y3 : wr.cell? ⟨w.heap.size, 3, none⟩ = some (.slice A2 k cB) := X0.cell 3
        have z0 : wr.cell? ⟨w.heap.size + 1, 0, none⟩ = some (.string s1) := X1.cell 0
        have z1 : wr.cell? ⟨w.heap.size + 1, 1, none⟩ = some (.int .u32 q1) := X1.cell 1
        have z2 : wr.cell? ⟨w.heap.size + 1, 2, none⟩ = some (.int .u16 r1) := X1.cell 2
        have z3 : wr.cell? ⟨w.heap.size + 1, 3, none⟩ = some (.string s2) := X1.cell 3
        have z4 : wr.cell? ⟨w.heap.size + 1, 4, none⟩ = some (.int .u32 q2) := X1.cell 4
        have z5 : wr.cell? ⟨w.heap.size + 1, 5, none⟩ = some (.int .u16 r2) := X1.cell 5
        have z6 : wr.cell? ⟨w.heap.size + 1, 6, none⟩ = some (.bool en) := X1.cell 6
        have CH := Lib.hid (bchild_any ⟨⟨s1, q1, r1⟩, ⟨s2, q2, r2⟩, en⟩ A2 k cB seps j wr (Reads.of_own own2) (by omega) (by omega))
        have hx32 := Lib.hid (HKID.out x (List.mem_of_getElem? hx))
        have hnext : Hid (ckKids F seps bb (kids.drop j) j st' = (F x (bChild bb seps j) st').bind fun s => ckKids F seps bb (kids.drop (j + 1)) (j + 1) s) := Lib.hid (by
         have hjl := lt_of_at hx
         rw [List.drop_eq_getElem_cons hjl, ckKids]
         have : kids[j] = x := by rw [List.getElem?_eq_getElem hjl] at hx; injection hx
         rw [this])
        have HH := Lib.hid (And.intro hC (And.intro hE (And.intro hv (And.intro hc' (And.intro hR hok')))))
        have hbj : bChild ⟨⟨s1, q1, r1⟩, ⟨s2, q2, r2⟩, en⟩ seps j = bChild bb seps j := by rw [Hbb.out]
        rw [hbj] at CH
        clear hbj
        generalize bChild bb seps j = bj at *
        unfold Bnd.agg at CH
        have hdI : (deep : Int) ≤ 12 := by omega
        have hdI0 : (0 : Int) ≤ (deep : Int) := by omega
        clear own1 own2 X0 X1 hC hE hv hc' hR hx hok' hj hzw hc hkl hz2 hd hn
        go_wp2_with fail
        refine CH.out.mono ?_
        rintro e w1 ⟨rfl, hb1⟩
        have PG := Lib.hid (HP.out _ st' _ c' x bj (HH.out.1.below hb1) HH.out.2.2.2.2.2 HH.out.2.2.2.1 hx32.out)
        unfold Bnd.agg at PG
        have d1 : ((deep + 1 : Nat) : Int) = (deep : Int) + 1 := by omega
        rw [d1] at PG
        clear u0 y3 z0 z1 z2 z3 z4 z5 z6 d1
        go_wp2_with fail
        refine PG.out.mono ?_
        rintro e w2 ⟨st2, v2, c2, hC2, hE2, hv2, hres⟩
        have hz1 := HH.out.2.1.size
        have hzw := H0.out.2.2.2.1.size
        have hz3 := hb1.size
        have hE3 := HH.out.2.1.trans ((Evo.of_below (gm := gm) (gc := gc) (gq := gq) (v := v') hb1).trans hE2 (.inl rfl)) HH.out.2.2.1
        have hv3 : v2.ownBlock = v.ownBlock ∨ ∃ g, v2.ownBlock = some g ∧ WX.heap.size ≤ g := by
         rcases hv2 with e | ⟨g, e, hg⟩
         · rw [e]; exact HH.out.2.2.1
         · exact .inr ⟨g, e, by omega⟩
        rcases hres with ⟨s, hs, rfl, rfl, hcs⟩ | ⟨hno, ⟨x0, hx0, rfl⟩, hcs⟩
        · have hso := HFO2.out x bj st' st2 HH.out.2.2.2.2.2 hs
          have hR2 : ckKids F seps bb kids 0 st = ckKids F seps bb (kids.drop (j + 1)) (j + 1) st2 := by
           rw [HH.out.2.2.2.2.1, hnext.out, hs]; rfl
          have H2 := Lib.hid (And.intro hC2 (And.intro hE3 (And.intro hv3 (And.intro hcs (And.intro hso hR2)))))
          clear hC2 hE2 hE3 hv2 hv3 hcs hso hR2 hs hb1 PG
          go_wp2
          go_roundw
          case rel => exact ⟨j + 1, c2, st2, v2, by omega, by go_num, H2.out.1, H2.out.2.1, H2.out.2.2.1, H2.out.2.2.2.1, H2.out.2.2.2.2.1, H2.out.2.2.2.2.2⟩
          case measure => simp [intOf]; omega
        · have hR2 : R = none := by
           rw [HR.out, HH.out.2.2.2.2.1, hnext.out, hno]; rfl
          have hxb : (x0 != 0) = true := by simpa using hx0
          have H2 := Lib.hid (And.intro hC2 (And.intro hE3 (And.intro hv3 (And.intro hcs (And.intro hx0 hR2)))))
          clear hC2 hE2 hE3 hv2 hv3 hcs hR2 hno hb1 PG hx0
          go_wp2
          go_ret
          rw [H2.out.2.2.2.2.2]
          refine ⟨st2, v2, c2, H2.out.1, (Evo.of_below (gm := gm) (gc := gc) (gq := gq) (v := v) H0.out.2.2.2.1).trans H2.out.2.1 (.inl rfl), ?_, .inr ⟨rfl, ⟨x0, H2.out.2.2.2.2.1, rfl⟩, H2.out.2.2.2.1⟩⟩
          rcases H2.out.2.2.1 with e | ⟨g, e, hg⟩
          · exact .inl e
          · exact .inr ⟨g, e, by omega⟩
      · obtain rfl : j = k + 1 := by omega
        have HH := Lib.hid (And.intro hC (And.intro hE (And.intro hv (And.intro hc' hR))))
        clear hC hE hv hc' hR
        go_wp2
        go_ret
        rw [HR.out, HH.out.2.2.2.2, List.drop_eq_nil_of_le (by omega)]
        have hzw := H0.out.2.2.2.1.size
        refine ⟨st', v', c', HH.out.1, (Evo.of_below (gm := gm) (gc := gc) (gq := gq) (v := v) H0.out.2.2.2.1).trans HH.out.2.1 (.inl rfl), HH.out.2.2.1.imp id (fun ⟨g, e, hg⟩ => ⟨g, e, by omega⟩), .inl ⟨st', rfl, rfl, rfl, HH.out.2.2.2.1⟩⟩
end
end
end Go.Proofs.YtebobcbaloddaaaGreat
namespace Go.Proofs.YtebobcbaloddaaaGreat
section
set_option linter.unusedSimpArgs false
set_option linter.unusedVariables false
open Go.RowKit Go.Maps
theorem rdPg_bd {L : List UInt8} (hL : L.length = 512) {N : Nat} {es : List En} (h : rdPg L = some (.leaf N es)) : N < 4294967296 := by
 unfold rdPg at h
 split at h
 · split at h
   · injection h with h
     injection h with h1 h2
     rw [← h1]
     unfold hdN
     exact beVal_lt_of (n := 4) (by rw [List.length_take]; omega)
   · cases h
 · split at h
   · split at h
     · injection h with h; cases h
     · cases h
   · cases h
theorem ckKids_ok {n : Nat} {F : Nat → Bnd → Ck → Option Ck} {seps : List En} {b : Bnd} (HF : ∀ page b st s, CkOk n st → F page b st = some s → CkOk n s) : ∀ (l : List Nat) (i : Nat) (st s : Ck), CkOk n st → ckKids F seps b l i st = some s → CkOk n s
 | [], i, st, s, h, hs => by injection hs with hs; rw [← hs]; exact h
 | x :: r, i, st, s, h, hs => by
   unfold ckKids at hs
   cases hx : F x (bChild b seps i) st with
   | none => rw [hx] at hs; cases hs
   | some s1 =>
     rw [hx] at hs
     exact ckKids_ok HF r (i + 1) s1 s (HF x _ st s1 h hx) hs
theorem mark_ok {n page : Nat} {st : Ck} (h : CkOk n st) (hp : page < n) (hm : st.met[page]? ≠ some true) : CkOk n { st with met := st.met.set page true, pgs := st.pgs + 1 } := by
 have hf : st.met[page]? = some false := by
  obtain ⟨b, hb⟩ : ∃ b, st.met[page]? = some b := ⟨_, List.getElem?_eq_getElem (by rw [h.ml]; exact hp)⟩
  cases b
  · exact hb
  · exact absurd hb hm
 refine ⟨?_, by simp [h.ml], ?_, h.hi, h.nx⟩
 · simp only [trues_set _ _ hf, h.pg]
 · have := h.lv; simp only; omega
theorem ckP_ok {n : Nat} {ps : List (List UInt8)} (hps : ps.length = n) (hfull : Full ps) : ∀ (f page deep : Nat) (b : Bnd) (st s : Ck), deep ≤ 12 → CkOk n st → ckP ps f page deep b st = some s → CkOk n s
 | 0, _, _, _, _, _, _, _, h => by cases h
 | f + 1, page, deep, b, st, s, hd, hok, h => by
   unfold ckP at h
   cases hq : ps[page]? with
   | none => rw [hq] at h; cases h
   | some q =>
     rw [hq] at h
     simp only at h
     have hp : page < n := by rw [← hps]; exact lt_of_at hq
     by_cases hm : st.met[page]? = some true
     · rw [if_pos hm] at h; cases h
     · rw [if_neg hm] at h
       have hok1 := mark_ok hok hp hm
       cases hr : rdPg q with
       | none => rw [hr] at h; cases h
       | some pc =>
         rw [hr] at h
         cases pc with
         | leaf N es =>
           simp only at h
           unfold ckLeaf at h
           split at h
           · injection h with h
             subst h
             have hN := rdPg_bd (hfull q (List.mem_of_getElem? hq)) hr
             refine ⟨hok1.pg, hok1.ml, by have := hok.lv; simp only; omega, ?_, hN⟩
             simp only
             split
             · exact hd
             · exact hok.hi
           · cases h
         | inner c0 prs =>
           simp only at h
           split at h
           · cases h
           · rename_i hne
             exact ckKids_ok (fun page b st s h1 h2 => ckP_ok hps hfull f page (deep + 1) b st s (by omega) h1 h2) _ _ _ _ hok1 h
section
variable {w0 w : World} {lo gp gd gb gt n : Nat} {ps : List (List UInt8)} {T : List Bool} {gm size : Nat} {K0 : List Fr} {c gc gq m : Nat} {st : Ck} {v : Value}
set_option maxRecDepth 100000 in
set_option maxHeartbeats 8000000 in
theorem ckPage_step (f deep : Nat) (hd : deep ≤ 12) (hps : ps.length = n) (hfull : Full ps) (hm : m ≤ 800000)
 (HF : deep < 12 → ∀ (W : World) (st : Ck) (v : Value) (c page : Nat) (b : Bnd), CS w0 lo gp gd gb gt n ps T gm size K0 c gc gq st v W → CkOk n st → c ≤ m + st.pgs → page < 4294967296 →
  Calls Tryz.prog 44 #[.pointer (some ⟨gc, 0, none⟩), .int .u32 page, .int .i64 (deep + 1 : Nat), b.agg] W (RetCk w0 lo gp gd gb gt n ps T gm size K0 gc gq m W v (ckP ps f page (deep + 1) b st)))
 (h : CS w0 lo gp gd gb gt n ps T gm size K0 c gc gq st v w) (hok : CkOk n st) (hn : n ≤ 1000) (hc : c ≤ m + st.pgs) (page : Nat) (hp : page < 4294967296) (b : Bnd) :
 Calls Tryz.prog 44 #[.pointer (some ⟨gc, 0, none⟩), .int .u32 page, .int .i64 deep, b.agg] w (RetCk w0 lo gp gd gb gt n ps T gm size K0 gc gq m w v (ckP ps (f + 1) page deep b st)) := by
 have hb0 := ball (Below.refl w.heap.size w) (.cells b.arr 119)
 have X0 := Blk.new w 119 b.arr
 have h1 := h.below hb0
 have hpt := trues_le st.met
 rw [hok.ml, ← hok.pg] at hpt
 have G := Lib.hid (h1.get hn (by omega) page (by omega))
 have HE : Hid (ckP ps (f + 1) page deep b st = match ps[page]? with
  | none => none
  | some q =>
    if st.met[page]? = some true then none
    else match rdPg q with
     | none => none
     | some (.leaf N es) => ckLeaf page deep N es b { st with met := st.met.set page true, pgs := st.pgs + 1 }
     | some (.inner c0 prs) => if deep = 12 ∨ deep = st.hi then none else ckKids (fun c b' st' => ckP ps f c (deep + 1) b' st') (prs.map Prod.fst) b (c0 :: prs.map Prod.snd) 0 { st with met := st.met.set page true, pgs := st.pgs + 1 }) := Lib.hid (by rw [ckP] <;> rfl)
 obtain ⟨R, hR⟩ : ∃ R, ckP ps (f + 1) page deep b st = R := ⟨_, rfl⟩
 rw [hR] at HE ⊢
 clear hR
 have c0 : (w.alloc (.cells b.arr 119)).cell? ⟨gc, 0, none⟩ = some (.pointer (some ⟨gp, 0, none⟩)) := h1.cb.cell 0
 have hdI : (deep : Int) ≤ 12 := by omega
 have hdI0 : (0 : Int) ≤ (deep : Int) := by omega
 have hgc := h.cb.lt
 have H0 := Lib.hid (And.intro h1 (And.intro X0 (And.intro hb0 (And.intro hok hp))))
 have Hm := Lib.hid (And.intro hm (And.intro hn (And.intro hc (And.intro hpt hd))))
 have HFh := Lib.hid HF
 have k0 : w.cell? ⟨gc, 0, none⟩ = some (.pointer (some ⟨gp, 0, none⟩)) := h.cb.cell 0
 clear h h1 X0 hb0 hok hp HF hm hc hpt c0
 obtain ⟨⟨s1, q1, r1⟩, ⟨s2, q2, r2⟩, en⟩ := b
 unfold Bnd.agg
 unfold Bnd.arr at G H0
 simp only at G H0
 go_enter Tryz.func44, Tryz.ntmps44
 go_wp2_with fail
 refine G.out.mono ?_
 rintro e w1 ⟨u, r, rfl, gv, hC1, hE1⟩
 have hE01 := (Evo.of_below (gm := gm) (gc := gc) (gq := gq) (v := v) H0.out.2.2.1).trans hE1 (.inl rfl)
 clear G k0
 rcases gv with ⟨hpn, A, cA, q, hq, rfl, rfl, own1, hcA⟩ | ⟨hpn, rfl, rfl⟩
 · have hpI : (page : Int) < (n : Int) := by omega
   have hpI0 : (0 : Int) ≤ (page : Int) := by omega
   have g0 : w1.cell? ⟨gc, 0, none⟩ = some (.pointer (some ⟨gp, 0, none⟩)) := hC1.cb.cell 0
   have g1 : w1.cell? ⟨gc, 1, none⟩ = some (.slice (some ⟨gq, 0, none⟩) n n) := hC1.cb.cell 1
   obtain ⟨mb, hmb⟩ : ∃ mb, st.met[page]? = some mb := ⟨_, List.getElem?_eq_getElem (by rw [H0.out.2.2.2.1.ml]; exact hpn)⟩
   have gm0 : w1.cell? ⟨gq, page, none⟩ = some (.bool mb) := (hC1.qb.cell page).trans (tV_at hmb)
   cases mb
   · have hnm : st.met[page]? ≠ some true := by rw [hmb]; simp
     have hok1 := mark_ok H0.out.2.2.2.1 hpn hnm
     -- the mark
     have fq := hC1.qb.frozen page
     have lq := hC1.qb.lt
     have fc5 := hC1.cb.frozen 5
     have lc := hC1.cb.lt
     have hC2 := hC1.setq page
     have hE2 := hE01.trans (Evo.of_set (w := w1) (gm := gm) (gc := gc) (gq := gq) (v := v) (p := ⟨gq, page, none⟩) (.bool true) (.inr rfl)) (.inl rfl)
     have hqc : gq ≠ gc := by rintro rfl; exact hC1.qb.ne_ hC1.cb (by decide) rfl
     have hqu : ∀ g cs, Blk w1 g 5 cs → g ≠ gq := fun g cs hb => hb.ne_ hC1.qb (by decide)
     have hcu : ∀ g cs, Blk w1 g 5 cs → g ≠ gc := fun g cs hb => hb.ne_ hC1.cb (by decide)
     have own2 : Own (w1.setCell ⟨gq, page, none⟩ (.bool true)) _ (.slice A 512 cA) q := own1.stays fun g cs _ hb => Below.heap_setCell _ _ _ _ (hqu g cs hb)
     have x2 : w1.cell? ⟨gc, 5, none⟩ = some (.int .i64 (st.pgs : Int)) := hC1.cb.cell 5
     have hs : Hid ((ckArr gp gq n v { st with met := st.met.set page true }).setIfInBounds 5 (.int .i64 ((st.pgs : Int) + 1)) = ckArr gp gq n v { st with met := st.met.set page true, pgs := st.pgs + 1 }) := Lib.hid (by simp [ckArr])
     have hC3 := hC2.setc 5 (.int .i64 ((st.pgs : Int) + 1)) hs.out rfl rfl (Nat.le_refl _)
     have hE3 := hE2.trans (Evo.of_set (w := (w1.setCell ⟨gq, page, none⟩ (.bool true))) (gm := gm) (gc := gc) (gq := gq) (v := v) (p := ⟨gc, 5, none⟩) (.int .i64 ((st.pgs : Int) + 1)) (.inl rfl)) (.inl rfl)
     have own3 : Own ((w1.setCell ⟨gq, page, none⟩ (.bool true)).setCell ⟨gc, 5, none⟩ (.int .i64 ((st.pgs : Int) + 1))) _ (.slice A 512 cA) q := own2.stays fun g cs _ hb => Below.heap_setCell _ _ _ _ (by rintro rfl; exact hb.ne_ hC2.cb (by decide) rfl)
     have hX1 := hE1.blk H0.out.2.1 (by decide) (by decide) (H0.out.1.ne_m H0.out.2.1) (H0.out.1.ne_c H0.out.2.1 (by decide)) (H0.out.1.ne_q H0.out.2.1 (by decide)) (H0.out.1.ne_v H0.out.2.1 (by decide))
     have hX3 := (hX1.far (p := ⟨gq, page, none⟩) (hX1.ne_ hC1.qb (by decide)) (.bool true)).far (p := ⟨gc, 5, none⟩) (hX1.ne_ hC1.cb (by decide)) (.int .i64 ((st.pgs : Int) + 1))
     have hpgs : (st.pgs : Int) ≤ 1000 := by have := Hm.out; omega
     have hpgs0 : (0 : Int) ≤ (st.pgs : Int) := by omega
     have HQ := Lib.hid (And.intro hq (And.intro hmb (And.intro hpn (And.intro hnm hok1))))
     have H3 := Lib.hid (And.intro hC3 (And.intro hE3 (And.intro own3 hX3)))
     have hcA' := hcA
     clear hC1 hE1 hE01 own1 own2 hC2 hE2 hC3 hE3 own3 hX1 hX3 hq hmb hnm hok1 hqu hcu hpn
     go_wp2_with fail
     obtain ⟨w3, hw3⟩ : ∃ w3, ((w1.setCell ⟨gq, page, none⟩ (.bool true)).setCell ⟨gc, 5, none⟩ (.int .i64 ((st.pgs : Int) + 1))) = w3 := ⟨_, rfl⟩
     rw [hw3] at H3 ⊢
     clear hw3 fq lq fc5 lc g0 g1 gm0 x2 hqc
     have OP := Lib.hid (open_any (triF A 512 cA q w3 H3.out.2.2.1.reads.1 (by omega) hcA'))
     have HTF := Lib.hid (triF A 512 cA q w3 H3.out.2.2.1.reads.1 (by omega) hcA')
     obtain ⟨st1, hst1⟩ : ∃ st1, ({ st with met := st.met.set page true, pgs := st.pgs + 1 } : Ck) = st1 := ⟨_, rfl⟩
     have hpg1 : st1.pgs = st.pgs + 1 := by rw [← hst1]
     have hlv1 : st1.lv = st.lv ∧ st1.hi = st.hi ∧ st1.nx = st.nx := by rw [← hst1]; exact ⟨rfl, rfl, rfl⟩
     have HR0 : Hid (R = match rdPg q with
      | none => none
      | some (.leaf N es) => ckLeaf page deep N es ⟨⟨s1, q1, r1⟩, ⟨s2, q2, r2⟩, en⟩ st1
      | some (.inner c0 prs) => if deep = 12 ∨ deep = st1.hi then none else ckKids (fun c b' st' => ckP ps f c (deep + 1) b' st') (prs.map Prod.fst) ⟨⟨s1, q1, r1⟩, ⟨s2, q2, r2⟩, en⟩ (c0 :: prs.map Prod.snd) 0 st1) := by
      refine Lib.hid ?_
      rw [HE.out, HQ.out.1, hlv1.2.1]
      simp only
      rw [if_neg HQ.out.2.2.2.1, ← hst1]
     have H3' := Lib.hid (And.intro H3.out.1 (And.intro H3.out.2.1 (And.intro H3.out.2.2.2 HQ.out.2.2.2.2)))
     rw [hst1] at H3'
     have HP1 := Lib.hid (And.intro hpg1 hlv1)
     unfold TriF at HTF
     clear HE HQ H3 hst1 hs hpg1 hlv1
     generalize rdPg q = RQ at *
     rcases RQ with _ | ⟨N, es⟩ | ⟨c0, prs⟩
     · simp only at HR0
       go_wp2_with fail
       refine OP.out.mono ?_
       rintro e w4 ⟨rfl, hb4⟩
       unfold nd0
       have hb5 := ball hb4 (.cells #[.bool false, .int .u32 0, .slice none 0 0, .slice none 0 0] 75)
       have HH := Lib.hid (And.intro (H3'.out.1.below hb5) (H3'.out.2.1.trans (Evo.of_below (gm := gm) (gc := gc) (gq := gq) (v := v) hb5) (.inl rfl)))
       clear hb5
       clear hb4 OP
       go_wp2
       go_ret
       rw [HR0.out]
       have := Hm.out
       have := HP1.out
       exact ⟨st1, v, c + 1, HH.out.1, HH.out.2, .inl rfl, .inr ⟨rfl, ⟨2, by decide, rfl⟩, by omega⟩⟩
     · simp only at HR0 HTF
       go_wp2_with fail
       refine OP.out.mono ?_
       rintro e w4 ⟨A4, c4, rfl, hc4, o4, hb4⟩
       have HTF := Lib.hid HTF
       have hb5 := ball hb4 (.cells #[.bool true, .int .u32 (N : Int), .slice none 0 0, .slice A4 es.length c4] 75)
       have hC5 := H3'.out.1.below hb5
       have X4 := H3'.out.2.2.1.below hb4 H3'.out.2.2.1.lt
       have z0 : w4.cell? ⟨w.heap.size, 0, none⟩ = some (.string s1) := X4.cell 0
       have z1 : w4.cell? ⟨w.heap.size, 1, none⟩ = some (.int .u32 q1) := X4.cell 1
       have z2 : w4.cell? ⟨w.heap.size, 2, none⟩ = some (.int .u16 r1) := X4.cell 2
       have z3 : w4.cell? ⟨w.heap.size, 3, none⟩ = some (.string s2) := X4.cell 3
       have z4 : w4.cell? ⟨w.heap.size, 4, none⟩ = some (.int .u32 q2) := X4.cell 4
       have z5 : w4.cell? ⟨w.heap.size, 5, none⟩ = some (.int .u16 r2) := X4.cell 5
       have z6 : w4.cell? ⟨w.heap.size, 6, none⟩ = some (.bool en) := X4.cell 6
       have lz := X4.lt
       have hE5 := H3'.out.2.1.trans (Evo.of_below (gm := gm) (gc := gc) (gq := gq) (v := v) hb5) (.inl rfl)
       have hg3 : gc < w3.heap.size := H3'.out.1.cb.lt
       have hz3 := H3'.out.2.1.size
       have hz5 := hb5.size
       have hcc : c + 1 ≤ m + st1.pgs := by have := Hm.out; have := HP1.out; omega
       have hpn1 : st1.pgs ≤ n := by have h1 := H3'.out.2.2.2.pg; have h2 := trues_le st1.met; rw [H3'.out.2.2.2.ml] at h2; omega
       have hokk := H3'.out.2.2.2
       have o5 := own_below o4 (ball (Below.refl w4.heap.size w4) (.cells #[.bool true, .int .u32 (N : Int), .slice none 0 0, .slice A4 es.length c4] 75))
       have hAne : ∀ ad, A4 = some ad → ad.block ≠ gc := by
        rintro ad rfl
        have := own_hi o4 ad rfl
        omega
       have hes : es.length ≤ 63 := by have h1 := HTF.out.2.2.2.1; have h2 := sumE_eq es; omega
       have PG := Lib.hid (ckLeaf_any hC5 Hm.out.2.1 page deep N (by omega) H0.out.2.2.2.2 HTF.out.2.2.2.2.2.2 A4 c4 es (Reads.of_own o5) hAne hes ⟨⟨s1, q1, r1⟩, ⟨s2, q2, r2⟩, en⟩ (by have := hokk.lv; have := Hm.out; omega) (by have := hokk.hi; omega) hokk.nx hpn1 hcc)
       unfold Bnd.agg at PG
       clear o4 o5 hAne hes hc4
       have HH := Lib.hid (And.intro hC5 (And.intro hE5 (And.intro hz3 hz5)))
       clear hC5 X4 hE5 hz3 hz5 hb5 hcc hpn1 hokk OP
       go_wp2_with fail
       refine PG.out.mono ?_
       rintro e w6 ⟨st2, v2, c2, hC6, hE6, hv6, hres⟩
       have hE7 := HH.out.2.1.trans hE6 (.inl rfl)
       have hv7 : v2.ownBlock = v.ownBlock ∨ ∃ k, v2.ownBlock = some k ∧ w.heap.size ≤ k := by
        have h1 := HH.out.2.2.1; have h2 := HH.out.2.2.2
        rcases hv6 with e | ⟨k, e, hk⟩
        · exact .inl e
        · exact .inr ⟨k, e, by omega⟩
       have H7 := Lib.hid (And.intro hC6 (And.intro hE7 hv7))
       clear hC6 hE6 hE7 hv6 hv7 PG
       rcases hres with ⟨s, hs, rfl, rfl, hcs⟩ | ⟨hno, ⟨x0, hx0, rfl⟩, hcs⟩
       · have HF := Lib.hid (And.intro (HR0.out.trans hs) hcs)
         clear hs hcs
         go_wp2
         go_ret
         exact ⟨st2, v2, c2, H7.out.1, H7.out.2.1, H7.out.2.2, .inl ⟨st2, HF.out.1, rfl, rfl, HF.out.2⟩⟩
       · have HF := Lib.hid (And.intro (HR0.out.trans hno) (And.intro hx0 hcs))
         clear hno hcs hx0
         go_wp2
         go_ret
         exact ⟨st2, v2, c2, H7.out.1, H7.out.2.1, H7.out.2.2, .inr ⟨HF.out.1, ⟨x0, HF.out.2.1, rfl⟩, HF.out.2.2⟩⟩
     · simp only at HR0 HTF
       go_wp2_with fail
       refine OP.out.mono ?_
       rintro e w4 ⟨A4, c4, A5, c5, rfl, hc4, hc5, o4, o5, hb4⟩
       have HTF := Lib.hid HTF
       have hb5 := ball hb4 (.cells #[.bool false, .int .u32 0, .slice A4 (prs.length + 1) c4, .slice A5 prs.length c5] 75)
       have hC5 := H3'.out.1.below hb5
       have X4 := H3'.out.2.2.1.below hb4 H3'.out.2.2.1.lt
       have z0 : w4.cell? ⟨w.heap.size, 0, none⟩ = some (.string s1) := X4.cell 0
       have z1 : w4.cell? ⟨w.heap.size, 1, none⟩ = some (.int .u32 q1) := X4.cell 1
       have z2 : w4.cell? ⟨w.heap.size, 2, none⟩ = some (.int .u16 r1) := X4.cell 2
       have z3 : w4.cell? ⟨w.heap.size, 3, none⟩ = some (.string s2) := X4.cell 3
       have z4 : w4.cell? ⟨w.heap.size, 4, none⟩ = some (.int .u32 q2) := X4.cell 4
       have z5 : w4.cell? ⟨w.heap.size, 5, none⟩ = some (.int .u16 r2) := X4.cell 5
       have z6 : w4.cell? ⟨w.heap.size, 6, none⟩ = some (.bool en) := X4.cell 6
       have lz := X4.lt
       have hE5 := H3'.out.2.1.trans (Evo.of_below (gm := gm) (gc := gc) (gq := gq) (v := v) hb5) (.inl rfl)
       have hg3 : gc < w3.heap.size := H3'.out.1.cb.lt
       have hz3 := H3'.out.2.1.size
       have hz5 := hb5.size
       have hcc : c + 1 ≤ m + st1.pgs := by have := Hm.out; have := HP1.out; omega
       have hpn1 : st1.pgs ≤ n := by have h1 := H3'.out.2.2.2.pg; have h2 := trues_le st1.met; rw [H3'.out.2.2.2.ml] at h2; omega
       have hokk := H3'.out.2.2.2
       have hbn := ball (Below.refl w4.heap.size w4) (.cells #[.bool false, .int .u32 0, .slice A4 (prs.length + 1) c4, .slice A5 prs.length c5] 75)
       have o6 := own_below o4 hbn
       have o7 := own_below o5 hbn
       have hne : ∀ g, (Value.slice A5 prs.length c5).ownBlock = some g → v.ownBlock ≠ some g := by
        intro g hg e
        have h1 := (World.ownsRow.lt o5 g hg).1
        have h2 := (World.ownsRow.lt H3'.out.1.row g e).2
        omega
       have hk : prs.length ≤ 100 := by have h1 := HTF.out.2.2.2.1; have h2 := sumE_eq (prs.map Prod.fst); rw [List.length_map] at h2; omega
       have hkid : ∀ x ∈ c0 :: prs.map Prod.snd, x < 4294967296 := by
        intro x hx
        rcases List.mem_cons.1 hx with rfl | hx
        · exact HTF.out.2.2.2.2.2.2.1
        · obtain ⟨pr, hpr, rfl⟩ := List.mem_map.1 hx; exact (HTF.out.2.2.2.2.2.1 pr hpr).2
       have PG := Lib.hid (ckInner_any (fun c b' st' => ckP ps f c (deep + 1) b' st') deep (by have := Hm.out; omega) HFh.out (fun h12 page b st s h1 h2 => ckP_ok hps hfull f page (deep + 1) b st s (by omega) h1 h2) hC5 hokk Hm.out.2.1 hcc A4 prs.length c4 (c0 :: prs.map Prod.snd) A5 c5 (prs.map Prod.fst) _ _ o6 o7 hne hk hkid ⟨⟨s1, q1, r1⟩, ⟨s2, q2, r2⟩, en⟩)
       unfold Bnd.agg at PG
       clear o4 o5 o6 o7 hne hk hkid hc4 hc5
       have HH := Lib.hid (And.intro hC5 (And.intro hE5 (And.intro hz3 hz5)))
       clear hC5 X4 hE5 hz3 hz5 hb5 hcc hpn1 hokk OP
       go_wp2_with fail
       refine PG.out.mono ?_
       rintro e w6 ⟨st2, v2, c2, hC6, hE6, hv6, hres⟩
       have hE7 := HH.out.2.1.trans hE6 (.inl rfl)
       have hv7 : v2.ownBlock = v.ownBlock ∨ ∃ k, v2.ownBlock = some k ∧ w.heap.size ≤ k := by
        have h1 := HH.out.2.2.1; have h2 := HH.out.2.2.2
        rcases hv6 with e | ⟨k, e, hk⟩
        · exact .inl e
        · exact .inr ⟨k, e, by omega⟩
       have H7 := Lib.hid (And.intro hC6 (And.intro hE7 hv7))
       clear hC6 hE6 hE7 hv6 hv7 PG
       rcases hres with ⟨s, hs, rfl, rfl, hcs⟩ | ⟨hno, ⟨x0, hx0, rfl⟩, hcs⟩
       · have HF := Lib.hid (And.intro (HR0.out.trans hs) hcs)
         clear hs hcs
         go_wp2
         go_ret
         exact ⟨st2, v2, c2, H7.out.1, H7.out.2.1, H7.out.2.2, .inl ⟨st2, HF.out.1, rfl, rfl, HF.out.2⟩⟩
       · have HF := Lib.hid (And.intro (HR0.out.trans hno) (And.intro hx0 hcs))
         clear hno hcs hx0
         go_wp2
         go_ret
         exact ⟨st2, v2, c2, H7.out.1, H7.out.2.1, H7.out.2.2, .inr ⟨HF.out.1, ⟨x0, HF.out.2.1, rfl⟩, HF.out.2.2⟩⟩
   · have HR : Hid (R = none) := Lib.hid (by rw [HE.out, hq]; simp only; rw [if_pos hmb])
     have HH := Lib.hid (And.intro hC1 hE01)
     clear hC1 hE1 hE01 hpn own1 hq hmb
     go_wp2
     go_ret
     rw [HR.out]
     have := Hm.out
     exact ⟨st, v, c + 1, HH.out.1, HH.out.2, .inl rfl, .inr ⟨rfl, ⟨2, by decide, rfl⟩, by omega⟩⟩
 · have HR : Hid (R = none) := Lib.hid (by rw [HE.out, List.getElem?_eq_none (by omega)])
   have HH := Lib.hid (And.intro hC1 hE01)
   clear hC1 hE1 hE01 hpn
   go_wp2
   go_ret
   rw [HR.out]
   have := Hm.out
   exact ⟨st, v, c + 1, HH.out.1, HH.out.2, .inl rfl, .inr ⟨rfl, ⟨8, by decide, rfl⟩, by omega⟩⟩
theorem ckPage_any (hps : ps.length = n) (hfull : Full ps) (hm : m ≤ 800000) (hn : n ≤ 1000) : ∀ (f deep : Nat), deep ≤ 12 → 14 ≤ f + deep → ∀ (W : World) (st : Ck) (v : Value) (c page : Nat) (b : Bnd), CS w0 lo gp gd gb gt n ps T gm size K0 c gc gq st v W → CkOk n st → c ≤ m + st.pgs → page < 4294967296 →
 Calls Tryz.prog 44 #[.pointer (some ⟨gc, 0, none⟩), .int .u32 page, .int .i64 (deep : Nat), b.agg] W (RetCk w0 lo gp gd gb gt n ps T gm size K0 gc gq m W v (ckP ps f page deep b st))
 | 0, deep, hd, hf, _, _, _, _, _, _, _, _, _, _ => by omega
 | f + 1, deep, hd, hf, W, st, v, c, page, b, h, hok, hc, hp =>
   ckPage_step f deep hd hps hfull hm (fun hd2 W st v c page b h hok hc hp => ckPage_any hps hfull hm hn f (deep + 1) (by omega) (by omega) W st v c page b h hok hc hp) h hok hn hc page hp b
end
end
end Go.Proofs.YtebobcbaloddaaaGreat
namespace Go.Proofs.YtebobcbaloddaaaGreat
section
set_option linter.unusedSimpArgs false
set_option linter.unusedVariables false
open Go.RowKit Go.Maps
structure Nd where
 p : Nat
 L : List En
 P : List Nat
 f : Nat
 k : Nat
def SepOk (seps : List En) : Nat → List Nd → Prop
 | _, [] => True
 | i, d :: r => (∀ x ∈ d.L, (∀ s, 0 < i → seps[i - 1]? = some s → 0 ≤ cmpE x s) ∧ (∀ s, seps[i]? = some s → cmpE x s < 0)) ∧ SepOk seps (i + 1) r
def ChnN (S : Nd → Nat → Prop) : List Nd → Nat → Prop
 | [], _ => True
 | d :: r, nx => S d ((r.map Nd.f).headD nx) ∧ ChnN S r nx
def Sub (ps : List (List UInt8)) : Nat → Nd → Nat → Prop
 | 0, _, _ => False
 | 1, d, nx => ps[d.p]? = some (leafL nx d.L) ∧ nx < 4294967296 ∧ (∀ e ∈ d.L, e.ok) ∧ mayEn d.L = true ∧ sumE d.L ≤ 504 ∧ d.P = [d.p] ∧ d.f = d.p ∧ d.k = 1
 | h + 2, d, nx => ∃ (c : Nd) (ds : List Nd) (seps : List En), ChnN (Sub ps (h + 1)) (c :: ds) nx ∧ SepOk seps 0 (c :: ds) ∧ ds.length = seps.length ∧ seps.length ≠ 0 ∧ ps[d.p]? = some (innL c.p (seps.zip (ds.map Nd.p)) seps.length) ∧
     (∀ x ∈ (c :: ds).map Nd.p, x < 4294967296) ∧ (∀ e ∈ seps, e.ok) ∧ mayEn seps = true ∧ sumE seps + 4 * seps.length ≤ 500 ∧
     d.L = ((c :: ds).map Nd.L).flatten ∧ d.P = d.p :: ((c :: ds).map Nd.P).flatten ∧ d.f = c.f ∧ d.k = ((c :: ds).map Nd.k).sum ∧ ∀ d' ∈ c :: ds, d'.L ≠ []
end
end Go.Proofs.YtebobcbaloddaaaGreat
namespace Go.Proofs.YtebobcbaloddaaaGreat
section
set_option linter.unusedSimpArgs false
set_option linter.unusedVariables false
open Go.RowKit Go.Maps
theorem ChnN.mono {S S' : Nd → Nat → Prop} : ∀ {ds : List Nd} {nx : Nat}, ChnN S ds nx → (∀ d ∈ ds, ∀ nx, S d nx → S' d nx) → ChnN S' ds nx
 | [], _, _, _ => trivial
 | d :: r, nx, h, hs => ⟨hs d (by simp) _ h.1, ChnN.mono h.2 fun d hd => hs d (by simp [hd])⟩
theorem ChnN.of {S : Nd → Nat → Prop} : ∀ {ds : List Nd} {nx : Nat}, (∀ (i : Nat) (d : Nd), ds[i]? = some d → S d ((ds[i + 1]?.map Nd.f).getD nx)) → ChnN S ds nx
 | [], _, _ => trivial
 | d :: r, nx, h => by
   refine ⟨?_, ChnN.of fun i d hd => by have := h (i + 1) d (by simpa using hd); simpa using this⟩
   have := h 0 d rfl
   cases r with
   | nil => simpa using this
   | cons e r => simpa using this
theorem ChnN.app {S : Nd → Nat → Prop} : ∀ {a b : List Nd} {nx : Nat}, ChnN S (a ++ b) nx → ChnN S a ((b.map Nd.f).headD nx) ∧ ChnN S b nx
 | [], b, nx, h => ⟨trivial, h⟩
 | d :: r, b, nx, h => by
   obtain ⟨h1, h2⟩ := ChnN.app (a := r) (b := b) h.2
   refine ⟨⟨?_, h1⟩, h2⟩
   have := h.1
   cases r with
   | nil => simpa using this
   | cons e r => simpa using this
theorem sub_frame {ps ps' : List (List UInt8)} : ∀ (h : Nat) (d : Nd) (nx : Nat), Sub ps h d nx → (∀ p ∈ d.P, ps'[p]? = ps[p]?) → Sub ps' h d nx
 | 0, _, _, hs, _ => hs.elim
 | 1, d, nx, hs, hp => ⟨(hp d.p (by rw [hs.2.2.2.2.2.1]; simp)).trans hs.1, hs.2⟩
 | h + 2, d, nx, ⟨c, ds, seps, hc, hs, hlen, hne, hp, hx, hok, hm, hf, hL, hP, hdf, hk, hnn⟩, he =>
   ⟨c, ds, seps, hc.mono fun d' hd' nx' h' => sub_frame (h + 1) d' nx' h' fun p hp' => he p (by
       rw [hP]
       refine List.mem_cons_of_mem _ (List.mem_flatten.2 ⟨d'.P, List.mem_map_of_mem hd', hp'⟩)), hs, hlen, hne, (he d.p (by rw [hP]; simp)).trans hp, hx, hok, hm, hf, hL, hP, hdf, hk, hnn⟩
def wrK (pg : List Nat) (C : Nat → List UInt8) : Nat → List (List UInt8) → List (List UInt8)
 | 0, ps => ps
 | k + 1, ps => (wrK pg C k ps).set (pg.getD k 0) (C k)
theorem lfK_wr (l : List En) (gs : List (Nat × Nat)) (pg : List Nat) : ∀ (k : Nat) (ps : List (List UInt8)), lfK l gs pg k ps = wrK pg (fun i => leafL (pg.getD (i + 1) 0) (seg l (gs.getD i (0, 0)))) k ps
 | 0, _ => rfl
 | k + 1, ps => by rw [lfK, wrK, lfK_wr]
theorem inK_wr (l : List Kd) (gs : List (Nat × Nat)) (pg : List Nat) : ∀ (k : Nat) (ps : List (List UInt8)), inK l gs pg k ps = wrK pg (fun i => inPg (seg l (gs.getD i (0, 0)))) k ps
 | 0, _ => rfl
 | k + 1, ps => by rw [inK, wrK, inK_wr]
theorem wrK_len (pg : List Nat) (C : Nat → List UInt8) : ∀ (k : Nat) (ps : List (List UInt8)), (wrK pg C k ps).length = ps.length
 | 0, _ => rfl
 | k + 1, ps => by rw [wrK, List.length_set, wrK_len]
theorem wrK_far (pg : List Nat) (C : Nat → List UInt8) : ∀ (k : Nat) (ps : List (List UInt8)) (p : Nat), k ≤ pg.length → (p ∉ pg) → (wrK pg C k ps)[p]? = ps[p]?
 | 0, _, _, _, _ => rfl
 | k + 1, ps, p, hk, hp => by
   have hm : pg.getD k 0 ∈ pg := by rw [getD_of (List.getElem?_eq_getElem (by omega))]; exact List.getElem_mem _
   rw [wrK, List.getElem?_set_ne (fun e => hp (by rw [← e]; exact hm)), wrK_far pg C k ps p (by omega) hp]
theorem wrK_at (pg : List Nat) (C : Nat → List UInt8) (hn : pg.Nodup) : ∀ (k : Nat) (ps : List (List UInt8)) (j : Nat), k ≤ pg.length → j < k → (∀ p ∈ pg, p < ps.length) → (wrK pg C k ps)[pg.getD j 0]? = some (C j)
 | 0, _, _, _, hj, _ => by omega
 | k + 1, ps, j, hk, hj, hp => by
   have ek : pg.getD k 0 = pg[k]'(by omega) := getD_of (List.getElem?_eq_getElem (by omega))
   rw [wrK]
   by_cases hjk : j = k
   · subst hjk
     rw [List.getElem?_set_self (by rw [wrK_len, ek]; exact hp _ (List.getElem_mem _))]
   · have ej : pg.getD j 0 = pg[j]'(by omega) := getD_of (List.getElem?_eq_getElem (by omega))
     have hne : pg.getD k 0 ≠ pg.getD j 0 := by
      rw [ek, ej]
      intro e
      exact hjk ((List.getElem_inj hn).1 e).symm
     rw [List.getElem?_set_ne hne]
     exact wrK_at pg C hn k ps j (by omega) (by omega) hp
structure LvS (ps : List (List UInt8)) (h : Nat) (l : List En) (lv : List Kd) (ds : List Nd) : Prop where
 fst : ds.map Nd.p = lv.map Prod.fst
 chn : ChnN (Sub ps h) ds 0
 hd : lv.length = 1 ∨ ∀ (i : Nat) (d : Nd) (c : Kd), ds[i]? = some d → lv[i]? = some c → d.L.head? = some c.2
 L : (ds.map Nd.L).flatten = l
 nodup : ((ds.map Nd.P).flatten).Nodup
theorem lf_sub {l : List En} {ps : List (List UInt8)} {T : List Bool} {lv : List Kd} (hm : mayEn l = true) (hok : ∀ e ∈ l, e.ok) (hT : T.length = ps.length) (hb : ps.length ≤ 10000) (h : (lfP l ps T).2.2 = some lv) :
 ∃ ds, LvS (lfP l ps T).1 1 l lv ds ∧ (∀ p ∈ (ds.map Nd.P).flatten, T[p]? = some false ∧ (lfP l ps T).2.1[p]? = some true) := by
 unfold lfP at h ⊢
 have I := tkI T (ptL fE l).length
 split at h
 · rename_i hbk
   injection h with h
   subst h
   rw [if_pos hbk]
   have hpl := I.full hbk
   have GR := grE_ok hm
   have hcov : ((ptL fE l).map (seg l)).flatten = l := by
    by_cases hl : l = []
    · subst hl; simp [ptL_nil, seg]
    · obtain ⟨h1, _, _⟩ := ptL_ok (ptF_E (may_small hm)) szE_mono hl
      rw [h1.flat l (Nat.le_refl _), seg_all]
   have hg1 : l = [] → (ptL fE l).length = 1 := by rintro rfl; rw [ptL_nil]; rfl
   generalize ptL fE l = gs at *
   generalize tkP gs.length T = st at *
   obtain ⟨pg, T1, bk⟩ := st
   simp only at *
   have hpp : ∀ p ∈ pg, p < ps.length := fun p hp => by
    obtain ⟨i, hi⟩ := List.getElem?_of_mem hp
    have := (I.at_ i p hi).2.2; omega
   have hgetp : ∀ i, i < gs.length → pg[i]? = some (pg.getD i 0) := fun i hi => by
    rw [getD_of (List.getElem?_eq_getElem (show i < pg.length by omega))]; exact List.getElem?_eq_getElem (by omega)
   let nd : Nat → Nd := fun i => ⟨pg.getD i 0, seg l (gs.getD i (0, 0)), [pg.getD i 0], pg.getD i 0, 1⟩
   refine ⟨(List.range gs.length).map nd, ⟨?_, ?_, ?_, ?_, ?_⟩, ?_⟩
   · unfold lfLv; rw [List.map_map, List.map_map]; rfl
   · refine ChnN.of fun i d hd => ?_
     rw [List.getElem?_map] at hd
     obtain ⟨j, hj, rfl⟩ := Option.map_eq_some_iff.1 hd
     have hi : i < gs.length := by have := lt_of_at hj; simpa using this
     rw [List.getElem?_range hi] at hj
     injection hj with hj
     subst hj
     have hnx : ((((List.range gs.length).map nd)[i + 1]?.map Nd.f).getD 0) = pg.getD (i + 1) 0 := by
      rw [List.getElem?_map]
      by_cases h1 : i + 1 < gs.length
      · rw [List.getElem?_range h1]; rfl
      · rw [List.getElem?_eq_none (by simp; omega), getD_no (by omega)]; rfl
     rw [hnx]
     have G := GR (gs.getD i (0, 0)) (by rw [getD_of (List.getElem?_eq_getElem hi)]; exact List.getElem_mem _)
     refine ⟨?_, ?_, fun e he => hok e (G.mem e he), G.may, G.sum, rfl, rfl, rfl⟩
     · show (lfK l gs pg gs.length ps)[pg.getD i 0]? = _
       rw [lfK_wr]
       exact wrK_at pg _ I.nodup gs.length ps i (by omega) hi hpp
     · by_cases h1 : i + 1 < gs.length
       · have := hpp (pg.getD (i + 1) 0) (by rw [getD_of (List.getElem?_eq_getElem (show i + 1 < pg.length by omega))]; exact List.getElem_mem _)
         omega
       · rw [getD_no (by omega)]; omega
   · by_cases hl : l = []
     · left; rw [lfLv_len]; exact hg1 hl
     · right
       intro i d c hd hc
       rw [List.getElem?_map] at hd
       obtain ⟨j, hj, rfl⟩ := Option.map_eq_some_iff.1 hd
       have hi : i < gs.length := by have := lt_of_at hj; simpa using this
       rw [List.getElem?_range hi] at hj
       injection hj with hj
       subst hj
       unfold lfLv at hc
       rw [List.getElem?_map, List.getElem?_range hi] at hc
       injection hc with hc
       subst hc
       have G := GR (gs.getD i (0, 0)) (by rw [getD_of (List.getElem?_eq_getElem hi)]; exact List.getElem_mem _)
       show (seg l (gs.getD i (0, 0))).head? = some (((seg l (gs.getD i (0, 0))).head?).getD enZ)
       have hlen := seg_len (l := l) (g := gs.getD i (0, 0)) G.le.2
       have := G.pos hl
       cases hs : seg l (gs.getD i (0, 0)) with
       | nil => rw [hs, List.length_nil] at hlen; omega
       | cons x r => rfl
   · rw [List.map_map]
     have : (List.range gs.length).map (Nd.L ∘ nd) = gs.map (seg l) := by
      rw [← range_getD gs (0, 0) (seg l)]; rfl
     rw [this, hcov]
   · have : ((List.range gs.length).map nd).map Nd.P = pg.map fun p => [p] := by
      rw [← range_getD pg 0 (fun p => [p]), hpl, List.map_map]; rfl
     rw [this]
     have e : (pg.map fun p => [p]).flatten = pg := by
      rw [← List.flatMap_def]; simp
     rw [e]; exact I.nodup
   · intro p hp
     have : ((List.range gs.length).map nd).map Nd.P = pg.map fun p => [p] := by
      rw [← range_getD pg 0 (fun p => [p]), hpl, List.map_map]; rfl
     rw [this] at hp
     have e : (pg.map fun p => [p]).flatten = pg := by
      rw [← List.flatMap_def]; simp
     rw [e] at hp
     obtain ⟨i, hi⟩ := List.getElem?_of_mem hp
     have := I.at_ i p hi
     exact ⟨this.1, this.2.1⟩
 · cases h
end
end Go.Proofs.YtebobcbaloddaaaGreat
