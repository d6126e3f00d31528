/-
  B3 B4 B5 B6 B7.
-/
import Derived.Test.YtebobcbaloddaaaGreatMobo
import Derived.Test.YtebobcbaloddaaaGreatMobm
import Derived.Deep.RegionHeld3
import Derived.Deep.RegionLaw
import Derived.Deep.Onto
namespace Go.Proofs.YtebobcbaloddaaaGreat
section
set_option linter.unusedSimpArgs false
set_option linter.unusedVariables false
open Go.RowKit
theorem en_reads (w : World) (x : En) {g : Nat} (hg : g = w.heap.size) : Reads (w.alloc (.cells #[.string x.s, .int .u32 x.p, .int .u16 x.q] 37)) (g + 1) 3 (some ⟨g, 0, none⟩) 1 (vE [x]) := by
 subst hg
 exact reads_new w _ _ rfl rfl
theorem leaf0 (w : World) : Calls Tryz.prog 79 #[.slice none 0 0] w (RetB w (.int .i64 8)) := leafSize_any none 0 0 [] w Reads.none_ (by decide)
theorem inner0 (w : World) : Calls Tryz.prog 86 #[.slice none 0 0] w (RetB w (.int .i64 12)) := innerSize_any none 0 0 [] w Reads.none_ (by decide)
theorem leaf1 (x : En) (hx : x.s.size ≤ 9000) (w : World) (g c : Nat) (hg : g = w.heap.size) : Calls Tryz.prog 79 #[.slice (some ⟨g, 0, none⟩) 1 c] (w.alloc (.cells #[.string x.s, .int .u32 x.p, .int .u16 x.q] 37)) (RetB (w.alloc (.cells #[.string x.s, .int .u32 x.p, .int .u16 x.q] 37)) (.int .i64 ((x.s.size : Int) + 16))) := by
 refine (leafSize_any _ 1 c [x] _ ((en_reads w x hg).more (by subst hg; simp)) (by simp [sumE]; omega)).mono ?_
 rintro e w' ⟨rfl, hb⟩
 exact ⟨ret_int (by simp [sumE]; omega), hb⟩
theorem inner1 (x : En) (hx : x.s.size ≤ 9000) (w : World) (g c : Nat) (hg : g = w.heap.size) : Calls Tryz.prog 86 #[.slice (some ⟨g, 0, none⟩) 1 c] (w.alloc (.cells #[.string x.s, .int .u32 x.p, .int .u16 x.q] 37)) (RetB (w.alloc (.cells #[.string x.s, .int .u32 x.p, .int .u16 x.q] 37)) (.int .i64 ((x.s.size : Int) + 24))) := by
 refine (innerSize_any _ 1 c [x] _ ((en_reads w x hg).more (by subst hg; simp)) (by simp [sumE]; omega)).mono ?_
 rintro e w' ⟨rfl, hb⟩
 exact ⟨ret_int (by simp [sumE]; omega), hb⟩
set_option maxHeartbeats 1000000 in
theorem entrySize_any (x : En) (hx : x.s.size ≤ 9000) (w : World) : Calls Tryz.prog 48 #[x.agg] w (RetB w (.int .i64 ((x.s.size : Int) + 8))) := by
 have L1 := Lib.hid fun W g c hg => leaf1 x hx W g c hg
 have q0 : (0 : Int) ≤ (x.s.size : Int) := by omega
 have q1 : (x.s.size : Int) ≤ 9000 := by omega
 obtain ⟨s, p, q⟩ := x
 unfold En.agg
 simp only at L1 q0 q1 ⊢
 have hb0 := ball (ball (Below.refl w.heap.size w) (.cells #[.string s, .int .u32 p, .int .u16 q] 37)) (.cells #[.string s, .int .u32 p, .int .u16 q] 37)
 go_enter Tryz.func48, Tryz.ntmps48
 go_wp2_with fail
 refine (L1.out _ _ _ (by simp)).mono ?_
 rintro e w1 ⟨rfl, hb1⟩
 have hb2 := bto0 hb0 hb1
 clear hb0 hb1 L1
 go_wp2_with fail
 refine (leaf0 _).mono ?_
 rintro e w2 ⟨rfl, hb3⟩
 have hb4 := bto0 hb2 hb3
 clear hb2 hb3
 go_wp2
 go_ret
 exact ⟨ret_int (by omega), hb4⟩
set_option maxHeartbeats 1000000 in
theorem sepSize_any (x : En) (hx : x.s.size ≤ 9000) (w : World) : Calls Tryz.prog 87 #[x.agg] w (RetB w (.int .i64 ((x.s.size : Int) + 12))) := by
 have L1 := Lib.hid fun W g c hg => inner1 x hx W g c hg
 have q0 : (0 : Int) ≤ (x.s.size : Int) := by omega
 have q1 : (x.s.size : Int) ≤ 9000 := by omega
 obtain ⟨s, p, q⟩ := x
 unfold En.agg
 simp only at L1 q0 q1 ⊢
 have hb0 := ball (ball (Below.refl w.heap.size w) (.cells #[.string s, .int .u32 p, .int .u16 q] 37)) (.cells #[.string s, .int .u32 p, .int .u16 q] 37)
 go_enter Tryz.func87, Tryz.ntmps87
 go_wp2_with fail
 refine (L1.out _ _ _ (by simp)).mono ?_
 rintro e w1 ⟨rfl, hb1⟩
 have hb2 := bto0 hb0 hb1
 clear hb0 hb1 L1
 go_wp2_with fail
 refine (inner0 _).mono ?_
 rintro e w2 ⟨rfl, hb3⟩
 have hb4 := bto0 hb2 hb3
 clear hb2 hb3
 go_wp2
 go_ret
 exact ⟨ret_int (by omega), hb4⟩
theorem sizeOfE_any (x : En) (hx : x.s.size ≤ 9000) (b : Bool) (w : World) : Calls Tryz.prog 47 #[x.agg, .bool b] w (RetB w (.int .i64 ((x.s.size : Int) + 8))) := by
 have S := Lib.hid fun W => entrySize_any x hx W
 obtain ⟨s, p, q⟩ := x
 unfold En.agg at S ⊢
 simp only at S ⊢
 have hb0 := ball (Below.refl w.heap.size w) (.cells #[.string s, .int .u32 p, .int .u16 q] 37)
 go_enter Tryz.func47, Tryz.ntmps47
 go_wp2_with fail
 refine (S.out _).mono ?_
 rintro e w1 ⟨rfl, hb1⟩
 have hb2 := bto0 hb0 hb1
 go_wp2
 go_ret
 exact ⟨rfl, hb2⟩
@[reducible] def kdAgg (c : Kd) : Value := .agg #[.int .u32 (c.1 : Int), .string c.2.s, .int .u32 c.2.p, .int .u16 c.2.q]
set_option maxHeartbeats 1000000 in
theorem childSize_any (c : Kd) (hx : c.2.s.size ≤ 9000) (b : Bool) (w : World) : Calls Tryz.prog 53 #[kdAgg c, .bool b] w (RetB w (.int .i64 (if b then 4 else ((c.2.s.size : Int) + 12)))) := by
 have S := Lib.hid fun W => sepSize_any c.2 hx W
 obtain ⟨n, s, p, q⟩ := c
 unfold kdAgg
 unfold En.agg at S
 simp only at S ⊢
 have hb0 := ball (Below.refl w.heap.size w) (.cells #[.int .u32 (n : Int), .string s, .int .u32 p, .int .u16 q] 68)
 cases b
 · go_enter Tryz.func53, Tryz.ntmps53
   go_wp2_with fail
   refine (S.out _).mono ?_
   rintro e w1 ⟨rfl, hb1⟩
   have hb2 := bto0 hb0 hb1
   go_wp2
   go_ret
   exact ⟨rfl, hb2⟩
 · go_enter Tryz.func53, Tryz.ntmps53
   go_wp2_with fail
   refine (inner0 _).mono ?_
   rintro e w1 ⟨rfl, hb1⟩
   have hb2 := bto0 hb0 hb1
   go_wp2_with fail
   refine (leaf0 _).mono ?_
   rintro e w2 ⟨rfl, hb3⟩
   have hb4 := bto0 hb2 hb3
   go_wp2
   go_ret
   exact ⟨rfl, hb4⟩
end
end Go.Proofs.YtebobcbaloddaaaGreat
namespace Go.Proofs.YtebobcbaloddaaaGreat
section
set_option linter.unusedSimpArgs false
set_option linter.unusedVariables false
open Go.RowKit
@[reducible] def gvS (A : Option Addr) (c sz : Nat) (g : Nat × Nat) : Value := .slice (A.map fun ad => ad.add (g.1 * sz)) (g.2 - g.1) (c - g.1)
def gvL (A : Option Addr) (c sz : Nat) (gs : List (Nat × Nat)) : List Value := gs.map (gvS A c sz)
theorem gvL_len (A : Option Addr) (c sz : Nat) (gs : List (Nat × Nat)) : (gvL A c sz gs).length = gs.length := by simp [gvL]
theorem gvL_snoc (A : Option Addr) (c sz : Nat) (gs : List (Nat × Nat)) (g : Nat × Nat) : gvL A c sz (gs ++ [g]) = gvL A c sz gs ++ [gvS A c sz g] := by simp [gvL]
theorem ptK_len {α : Type} (f : α → Bool → Nat) (l : List α) : ∀ k, (ptK f l k).1.length ≤ k
 | 0 => Nat.le_refl _
 | k + 1 => by
   have ih := ptK_len f l k
   unfold ptK
   split
   · omega
   · split
     · simp; omega
     · simp only; omega
theorem ptK_used {α : Type} (f : α → Bool → Nat) (l : List α) (M : Nat) (hM : ∀ x ∈ l, ∀ b, f x b ≤ M) (h5 : 504 ≤ M) : ∀ k, (ptK f l k).2.2 ≤ M
 | 0 => Nat.zero_le _
 | k + 1 => by
   have ih := ptK_used f l M hM h5 k
   unfold ptK
   split
   · exact ih
   · rename_i x hx
     have := hM x (List.mem_of_getElem? hx)
     split
     · exact this true
     · simp only; omega
theorem ptK_beg {α : Type} (f : α → Bool → Nat) (l : List α) : ∀ k, (ptK f l k).2.1 ≤ k
 | 0 => Nat.le_refl _
 | k + 1 => by
   have ih := ptK_beg f l k
   unfold ptK
   split
   · omega
   · split
     · simp
     · simp only; omega
theorem Tryz.infoEs : (Tryz.prog.info? 22).map (fun i => (i.zero, i.size, i.bytes)) = some (some (.slice none 0 0), 1, 24) := by kernel_rfl
def RetGs (t : TypeId) (w : World) (gvs : List Value) (e : Ending) (w' : World) : Prop := ∃ A c, e = .returned (.slice A gvs.length c) ∧ w'.ownsRow w.heap.size t 1 (.slice A gvs.length c) gvs.length gvs ∧ gvs.length ≤ c ∧ Below w.heap.size w w'
set_option maxRecDepth 100000 in
set_option maxHeartbeats 4000000 in
theorem partE_any (A : Option Addr) (n c : Nat) (l : List En) (w : World) (hr : Reads w w.heap.size 3 A n (vE l)) (hs2 : ∀ x ∈ l, x.s.size ≤ 200) (hn : n ≤ 1000000) (hc : n ≤ c) (hc2 : c ≤ maxLen) :
 Calls Tryz.prog 46 #[.slice A n c, .int .i64 504, .func (.func 47) #[] #[]] w (RetGs 22 w (gvL A c 3 (ptL fE l))) := by
 obtain ⟨i0, hi0, hz0, hs0, hy0⟩ := int_info8 Tryz.infoEs
 have hl : l.length = n := by have := hr.1; rw [vE_len] at this; omega
 have Hl := Lib.hid hl; clear hl
 have HF := Lib.hid (ptF_E hs2)
 have Hz : Hid (∀ x ∈ l, x.s.size ≤ 9000) := Lib.hid fun x hx => Nat.le_trans (hs2 x hx) (by omega)
 clear hs2
 have hnI : (n : Int) ≤ 1000000 := by omega
 go_enter Tryz.func46, Tryz.ntmps46
 go_wp2
 go_loopw [7, 8, 9, 15] (fun v b u i wr => ∃ k : Nat, k ≤ n ∧ i = .int .i64 k ∧ b = .int .i64 (ptK fE l k).2.1 ∧ u = .int .i64 (ptK fE l k).2.2 ∧ wr.ownsRow w.heap.size 22 1 v (ptK fE l k).1.length (gvL A c 3 (ptK fE l k).1) ∧ Below w.heap.size w wr) (fun _ _ _ i _ => n - (intOf i).toNat)
 case atStart => exact ⟨0, Nat.zero_le _, rfl, rfl, rfl, ⟨rfl, .inl ⟨rfl, rfl⟩⟩, Below.refl _ _⟩
 case round =>
  obtain ⟨k, hk, rfl, rfl, rfl, ho, hb⟩ := hrel
  have hbs := hb.size
  have q0 : (0 : Int) ≤ (k : Int) := by omega
  by_cases hlt : k < n
  · obtain ⟨ad, x, rfl, hab, hx, u0, u1, u2⟩ := (hr.below hb).ent hlt
    have hxs := Hz.out x (List.mem_of_getElem? hx)
    have q1 : (k : Int) < (n : Int) := by omega
    have SZ := Lib.hid fun b W => sizeOfE_any x hxs b W
    have hbeg := ptK_beg fE l k
    have husd := ptK_used fE l 10000 (fun y hy b => by have := Hz.out y hy; unfold fE; omega) (by omega) k
    have hgl := ptK_len fE l k
    have hstep : Hid (ptK fE l (k + 1) = if 504 < (ptK fE l k).2.2 + (8 + x.s.size) then ((ptK fE l k).1 ++ [((ptK fE l k).2.1, k)], k, 8 + x.s.size) else ((ptK fE l k).1, (ptK fE l k).2.1, (ptK fE l k).2.2 + (8 + x.s.size))) := by
     refine Lib.hid ?_
     conv => lhs; unfold ptK
     rw [hx]
     rfl
    clear hx
    generalize ptK fE l k = st at *
    obtain ⟨gs, b, u⟩ := st
    simp only at *
    have HO := Lib.hid (And.intro ho hb); clear ho hb
    obtain ⟨s, p, q⟩ := x
    unfold En.agg at SZ
    simp only at *
    have e0 : (0 : Int) ≤ (s.size : Int) := by omega
    have e1 : (s.size : Int) ≤ 9000 := by omega
    have e2 : (0 : Int) ≤ (u : Int) := by omega
    have e3 : (u : Int) ≤ 10000 := by omega
    have hb0 := ball (Below.refl wr.heap.size wr) (.cells #[.string s, .int .u32 p, .int .u16 q] 37)
    have hA0 := Blk.new wr 37 #[.string s, .int .u32 p, .int .u16 q]
    have ho1 := HO.out.1.alloc (.cells #[.string s, .int .u32 p, .int .u16 q] 37)
    obtain ⟨Av, cv, rfl, hcv⟩ := own_form ho1
    clear husd
    go_wp2_with fail
    refine (SZ.out _ _).mono ?_
    rintro e w1 ⟨rfl, hb1⟩
    have hA1 := hA0.below hb1 (by simp)
    have c0 : w1.cell? ⟨wr.heap.size, 0, none⟩ = some (.string s) := hA1.cell 0
    have c1 : w1.cell? ⟨wr.heap.size, 1, none⟩ = some (.int .u32 p) := hA1.cell 1
    have c2 : w1.cell? ⟨wr.heap.size, 2, none⟩ = some (.int .u16 q) := hA1.cell 2
    have ho2 := own_below ho1 hb1
    have hbw1 := bto0 HO.out.2 (bto0 hb0 hb1)
    have hz1 : w.heap.size ≤ w1.heap.size := hbw1.size
    have hlz : wr.heap.size < w1.heap.size := by have := hb1.size; simp at this; omega
    clear hA0 ho1 hb0 hb1
    have g1 : (b : Int) ≤ (k : Int) := by omega
    have g2 : (0 : Int) ≤ (b : Int) := by omega
    have g3 : (k : Int) ≤ (c : Int) := by omega
    by_cases hgt : 504 < u + (8 + s.size)
    · have hgt' : (504 : Int) < (u : Int) + ((s.size : Int) + 8) := by omega
      have hst := hstep.out
      rw [if_pos hgt] at hst
      have hst2 := Lib.hid hst
      clear hst hstep hgt
      have H1 := Lib.hid (And.intro ho2 (And.intro hbw1 hA1)); clear ho2 hbw1 hA1
      go_wp2_with (at_builtin; refine wpList_push1 rfl (.tmp 30) (.tmp 35) 121 rfl w.heap.size 22 i0 (.slice none 0 0) 24 Tryz.underlying121 hi0 hz0 hs0 hy0 rfl _ gs.length (gvL (some ad) c 3 gs) (gvS (some ad) c 3 (b, k)) rfl H1.out.1 _ rfl rfl rfl (by omega) (by omega) hz1 ?_; intro v5 w5 ho5 hg5; have b5 := below_grown H1.out.1 (Nat.le_refl _) hz1 hg5 H1.out.2.1; have hA5 := blk_grown H1.out.1 H1.out.2.2 (by decide) hg5; have d0 : w5.cell? ⟨wr.heap.size, 0, none⟩ = some (.string s) := hA5.cell 0; have d1 : w5.cell? ⟨wr.heap.size, 1, none⟩ = some (.int .u32 p) := hA5.cell 1; have d2 : w5.cell? ⟨wr.heap.size, 2, none⟩ = some (.int .u16 q) := hA5.cell 2; have hz5 : wr.heap.size < w5.heap.size := hA5.lt; have H5 := Lib.hid (And.intro ho5 b5); clear ho5 hg5 b5 hA5)
      refine (SZ.out _ _).mono ?_
      rintro e w6 ⟨rfl, hb6⟩
      have ho6 := own_below H5.out.1 hb6
      have bw6 := bto0 H5.out.2 hb6
      have H6 := Lib.hid (And.intro ho6 bw6); clear ho6 bw6 hb6
      go_wp2
      go_roundw
      case rel => exact ⟨k + 1, by omega, by go_num, by rw [hst2.out], by rw [hst2.out]; first | rfl | exact val_int (by simp; omega), by rw [hst2.out]; simp only [List.length_append, List.length_singleton, gvL_snoc]; exact H6.out.1, H6.out.2⟩
      case measure => simp [intOf]; omega
    · have hgt' : (u : Int) + ((s.size : Int) + 8) ≤ 504 := by omega
      have hst := hstep.out
      rw [if_neg hgt] at hst
      have hst2 := Lib.hid hst
      clear hst hstep hgt
      have H1 := Lib.hid (And.intro ho2 (And.intro hbw1 hA1)); clear ho2 hbw1 hA1
      go_wp2_with fail
      refine (SZ.out _ _).mono ?_
      rintro e w6 ⟨rfl, hb6⟩
      have ho6 := own_below H1.out.1 hb6
      have bw6 := bto0 H1.out.2.1 hb6
      have H6 := Lib.hid (And.intro ho6 bw6); clear ho6 bw6 hb6
      go_wp2
      go_roundw
      case rel => exact ⟨k + 1, by omega, by go_num, by rw [hst2.out], by rw [hst2.out]; first | rfl | exact val_int (by simp; omega), by rw [hst2.out]; exact H6.out.1, H6.out.2⟩
      case measure => simp [intOf]; omega
  · obtain rfl : n = k := by omega
    have hgl := ptK_len fE l n
    have hbeg := ptK_beg fE l n
    have HPL : Hid (ptL fE l = ptE n (ptK fE l n)) := Lib.hid (by unfold ptL; rw [Hl.out])
    have HI := Lib.hid (ptI HF.out n (by rw [Hl.out]; exact Nat.le_refl _))
    generalize ptK fE l n = st at *
    obtain ⟨gs, b, u⟩ := st
    simp only at *
    have hz := hbs
    obtain ⟨Av, cv, rfl, hcv⟩ := own_form ho
    have g2 : (0 : Int) ≤ (b : Int) := by omega
    have g1 : (b : Int) ≤ (n : Int) := by omega
    have g3 : (n : Int) ≤ (c : Int) := by omega
    by_cases h0 : gs.length = 0
    · have hgs : gs = [] := List.eq_nil_of_length_eq_zero h0
      subst hgs
      have HE : Hid (ptL fE l = [(b, n)]) := Lib.hid (by rw [HPL.out]; unfold ptE; simp)
      have HO := Lib.hid (And.intro ho hb); clear ho hb HPL
      have hb0 : Hid (0 = b) := HI.out.ch
      have hb0 := hb0.out
      subst hb0
      have hE2 : Hid (gvL A c 3 (ptL fE l) = [.slice A n c]) := Lib.hid (by rw [HE.out]; cases A <;> simp [gvL, gvS, Addr.add])
      go_wp2_with (at_builtin; refine wpList_push1 rfl (.tmp 76) (.tmp 80) 121 rfl w.heap.size 22 i0 (.slice none 0 0) 24 Tryz.underlying121 hi0 hz0 hs0 hy0 rfl _ 0 [] (.slice A n c) rfl HO.out.1 _ rfl rfl rfl (by omega) (by omega) hz ?_; intro v5 w5 ho5 hg5; have b5 := below_grown HO.out.1 (Nat.le_refl _) hz hg5 HO.out.2; obtain ⟨A5, c5, rfl, hc5⟩ := own_form ho5; have H5 := Lib.hid (And.intro ho5 (And.intro hc5 b5)); clear ho5 hg5 hc5 b5)
      go_ret
      rw [hE2.out]
      exact ⟨A5, c5, rfl, H5.out.1, H5.out.2.1, H5.out.2.2⟩
    · have hne : gs ≠ [] := fun e => h0 (by rw [e]; rfl)
      obtain ⟨b0, e1, e2, e3⟩ := Chn.split HI.out.ch hne
      simp only at e1 e2 e3
      obtain ⟨m, hm⟩ : ∃ m, gs.dropLast.length = m := ⟨_, rfl⟩
      have hlen : gs.length = m + 1 := by rw [← hm, List.length_dropLast]; omega
      obtain ⟨ad, rfl⟩ : ∃ ad, A = some ad := by obtain ⟨ad, h, _⟩ := hr.2 (by omega); exact ⟨ad, h⟩
      have hbn : b < n := HI.out.lt.2 (by omega)
      have hcb : ¬ c = b := by omega
      by_cases hlast : b + 1 = n
      · obtain ⟨d, rfl⟩ : ∃ d, b = b0 + d + 1 := ⟨b - b0 - 1, by omega⟩
        have HE : Hid (gvL (some ad) c 3 (ptL fE l) = (gvL (some ad) c 3 gs).set m (.slice (some (ad.add (b0 * 3))) d (c - b0)) ++ [.slice (some (ad.add ((b0 + d) * 3))) (n - (b0 + d)) (c - (b0 + d))]) := by
         refine Lib.hid ?_
         have hgl0 : gs.getLastD (0, 0) = (b0, b0 + d + 1) := by rw [e1]; simp
         rw [HPL.out]
         unfold ptE
         rw [if_pos ⟨hne, hlast⟩]
         simp only
         rw [hgl0]
         conv => rhs; rw [e1]
         simp only [gvL, List.map_append, List.map_cons, List.map_nil]
         rw [List.set_append_right _ _ (by rw [List.length_map, hm]; exact Nat.le_refl _), List.length_map, hm, Nat.sub_self]
         simp [gvS]
        have hlenG : (gvL (some ad) c 3 gs).length = m + 1 := by rw [gvL_len, hlen]
        obtain ⟨g, cap, hv, hgb, hgl2⟩ := ho.form (by omega)
        cases hv
        have hcell : wr.cell? ⟨g, m, none⟩ = some (.slice (some (ad.add (b0 * 3))) (d + 1) (c - b0)) := by
         rw [ho.cellAt m (by omega), e1]
         simp only [gvL, List.map_append, List.map_cons, List.map_nil]
         rw [List.getElem?_append_right (by rw [List.length_map, hm]; exact Nat.le_refl _), List.length_map, hm, Nat.sub_self]
         simp [gvS]
         omega
        have hfr := ho.frozenAt m
        obtain ⟨st1, st2⟩ := ho.stored m (.slice (some (ad.add (b0 * 3))) d (c - b0))
        have hbS := hb.setCell (p := ⟨g, m, none⟩) hgb (.slice (some (ad.add (b0 * 3))) d (c - b0))
        have q6 : (((b0 : Int) + (d : Int) + 1) == (n : Int) - 1) = true := by simp; omega
        have q7 : (d : Int) ≤ ((c - b0 : Nat) : Int) := by omega
        have q8 : (0 : Int) ≤ (m : Int) := by omega
        have q9 : (0 : Int) ≤ (d : Int) := by omega
        have q10 : (0 : Int) ≤ (b0 : Int) := by omega
        have q11 : (b0 : Int) + (d : Int) ≤ (n : Int) := by omega
        have q12 : (m : Int) ≤ 1000000 := by omega
        have q13 : m < m + 1 := by omega
        have hcb2 : ¬ c = b0 + d := by omega
        have HL := Lib.hid (And.intro hlast (And.intro hlen (And.intro hbn (And.intro hbeg (And.intro hgl hlenG)))))
        rw [hlen] at st1 ho hcv ⊢
        have HS := Lib.hid (And.intro st1 hbS)
        clear q13
        clear HI ho hb st1 st2 hbS hlast hlen hbn hbeg hgl HPL e1 e2 e3 hm hcb h0 hne hlenG
        go_wp2_with fail
        go_region
        obtain ⟨WS, hWS⟩ : ∃ WS, (wr.setCell ⟨g, m, none⟩ (.slice (some (ad.add (b0 * 3))) d (c - b0))) = WS := ⟨_, rfl⟩
        rw [hWS] at HS ⊢
        clear hWS hcell hfr
        have hzS : w.heap.size ≤ WS.drew.heap.size := HS.out.2.size
        have bS : Below w.heap.size w WS.drew := HS.out.2.drew
        have oS := HS.out.1.drew
        obtain ⟨WD, hWD⟩ : ∃ WD, WS.drew = WD := ⟨_, rfl⟩
        rw [hWD] at hzS bS oS ⊢
        have HO := Lib.hid (And.intro oS bS)
        clear hWD HS oS bS
        go_wp2_with (at_builtin; refine wpList_push1 rfl (.tmp 76) (.tmp 80) 121 rfl w.heap.size 22 i0 (.slice none 0 0) 24 Tryz.underlying121 hi0 hz0 hs0 hy0 rfl _ (m + 1) _ (.slice (some (ad.add ((b0 + d) * 3))) (n - (b0 + d)) (c - (b0 + d))) rfl HO.out.1 _ rfl rfl rfl (by have := HL.out; omega) (by omega) hzS ?_; intro v5 w5 ho5 hg5; have b5 := below_grown HO.out.1 (Nat.le_refl _) hzS hg5 HO.out.2; obtain ⟨A5, c5, rfl, hc5⟩ := own_form ho5; have H5 := Lib.hid (And.intro ho5 (And.intro hc5 b5)); clear ho5 hg5 hc5 b5)
        go_ret
        have hlg := HL.out.2.2.2.2.2
        rw [HE.out]
        refine ⟨A5, c5, ?_, ?_, ?_, H5.out.2.2⟩
        · rw [List.length_append, List.length_set, hlg]; rfl
        · rw [List.length_append, List.length_set, hlg]; exact H5.out.1
        · rw [List.length_append, List.length_set, hlg]; exact H5.out.2.1
      · have HE : Hid (gvL (some ad) c 3 (ptL fE l) = gvL (some ad) c 3 gs ++ [.slice (some (ad.add (b * 3))) (n - b) (c - b)]) := by
         refine Lib.hid ?_
         rw [HPL.out]
         unfold ptE
         rw [if_neg (fun h => hlast h.2), gvL_snoc]
         rfl
        have HO := Lib.hid (And.intro ho hb); clear ho hb HPL e1 e2 e3 hm
        have q5 : 0 < gs.length := by omega
        have q6 : ((b : Int) == (n : Int) - 1) = false := by simp; omega
        clear hlen
        go_wp2_with (at_builtin; refine wpList_push1 rfl (.tmp 76) (.tmp 80) 121 rfl w.heap.size 22 i0 (.slice none 0 0) 24 Tryz.underlying121 hi0 hz0 hs0 hy0 rfl _ gs.length (gvL (some ad) c 3 gs) (.slice (some (ad.add (b * 3))) (n - b) (c - b)) rfl HO.out.1 _ rfl rfl rfl (by omega) (by omega) hz ?_; intro v5 w5 ho5 hg5; have b5 := below_grown HO.out.1 (Nat.le_refl _) hz hg5 HO.out.2; obtain ⟨A5, c5, rfl, hc5⟩ := own_form ho5; have H5 := Lib.hid (And.intro ho5 (And.intro hc5 b5)); clear ho5 hg5 hc5 b5)
        go_ret
        rw [HE.out]
        refine ⟨A5, c5, ?_, ?_, ?_, H5.out.2.2⟩
        · rw [List.length_append, gvL_len]; rfl
        · rw [List.length_append, gvL_len]; exact H5.out.1
        · rw [List.length_append, gvL_len]; exact H5.out.2.1
end
end Go.Proofs.YtebobcbaloddaaaGreat
namespace Go.Proofs.YtebobcbaloddaaaGreat
section
set_option linter.unusedSimpArgs false
set_option linter.unusedVariables false
open Go.RowKit
def kdC (c : Kd) : List Value := [.int .u32 (c.1 : Int), .string c.2.s, .int .u32 c.2.p, .int .u16 c.2.q]
def vK (l : List Kd) : List Value := l.flatMap kdC
theorem vK_len (l : List Kd) : (vK l).length = l.length * 4 := flat_len _ 4 l fun _ _ => rfl
theorem vK_at {l : List Kd} {k : Nat} {v : Kd} (h : l[k]? = some v) (j : Nat) (hj : j < 4) : (vK l)[k * 4 + j]? = (kdC v)[j]? := flat_at kdC 4 l k v j (fun _ _ => rfl) h hj
theorem vK_snoc (l : List Kd) (c : Kd) : vK (l ++ [c]) = vK l ++ kdC c := by simp [vK]
theorem Reads.kd {w : World} {B : Nat} {A : Option Addr} {n k : Nat} {l : List Kd} (hr : Reads w B 4 A n (vK l)) (hk : k < n) :
 ∃ ad v, A = some ad ∧ ad.block < B ∧ l[k]? = some v ∧ w.cell? (ad.add (k * 4)) = some (.int .u32 (v.1 : Int)) ∧ w.cell? ⟨(ad.add (k * 4)).block, (ad.add (k * 4)).off + 1, none⟩ = some (.string v.2.s) ∧ w.cell? ⟨(ad.add (k * 4)).block, (ad.add (k * 4)).off + 2, none⟩ = some (.int .u32 v.2.p) ∧ w.cell? ⟨(ad.add (k * 4)).block, (ad.add (k * 4)).off + 3, none⟩ = some (.int .u16 v.2.q) := by
 have hl : l.length = n := by have := hr.1; rw [vK_len] at this; omega
 obtain ⟨ad, hA, hb, hc⟩ := hr.2 (by omega)
 have hv : l[k]? = some (l[k]'(by omega)) := List.getElem?_eq_getElem (by omega)
 refine ⟨ad, l[k]'(by omega), hA, hb, hv, ?_, ?_, ?_, ?_⟩
 · have := hc (k * 4 + 0) _ (by rw [vK_at hv 0 (by omega)]; rfl)
   simpa using this
 · rw [field_add _ _ _ (by omega)]
   exact hc (k * 4 + 1) _ (by rw [vK_at hv 1 (by omega)]; rfl)
 · rw [field_add _ _ _ (by omega)]
   exact hc (k * 4 + 2) _ (by rw [vK_at hv 2 (by omega)]; rfl)
 · rw [field_add _ _ _ (by omega)]
   exact hc (k * 4 + 3) _ (by rw [vK_at hv 3 (by omega)]; rfl)
theorem Tryz.infoCs : (Tryz.prog.info? 63).map (fun i => (i.zero, i.size, i.bytes)) = some (some (.slice none 0 0), 1, 24) := by kernel_rfl
set_option maxRecDepth 100000 in
set_option maxHeartbeats 4000000 in
theorem partC_any (A : Option Addr) (n c : Nat) (l : List Kd) (w : World) (hr : Reads w w.heap.size 4 A n (vK l)) (hs2 : ∀ x ∈ l, x.2.s.size ≤ 200) (hn : n ≤ 1000000) (hc : n ≤ c) (hc2 : c ≤ maxLen) :
 Calls Tryz.prog 52 #[.slice A n c, .int .i64 504, .func (.func 53) #[] #[]] w (RetGs 63 w (gvL A c 4 (ptL fC l))) := by
 obtain ⟨i0, hi0, hz0, hs0, hy0⟩ := int_info8 Tryz.infoCs
 have hl : l.length = n := by have := hr.1; rw [vK_len] at this; omega
 have Hl := Lib.hid hl; clear hl
 have HF := Lib.hid (ptF_C hs2)
 have Hz : Hid (∀ x ∈ l, x.2.s.size ≤ 9000) := Lib.hid fun x hx => Nat.le_trans (hs2 x hx) (by omega)
 clear hs2
 have hnI : (n : Int) ≤ 1000000 := by omega
 go_enter Tryz.func52, Tryz.ntmps52
 go_wp2
 go_loopw [7, 8, 9, 15] (fun v b u i wr => ∃ k : Nat, k ≤ n ∧ i = .int .i64 k ∧ b = .int .i64 (ptK fC l k).2.1 ∧ u = .int .i64 (ptK fC l k).2.2 ∧ wr.ownsRow w.heap.size 63 1 v (ptK fC l k).1.length (gvL A c 4 (ptK fC l k).1) ∧ Below w.heap.size w wr) (fun _ _ _ i _ => n - (intOf i).toNat)
 case atStart => exact ⟨0, Nat.zero_le _, rfl, rfl, rfl, ⟨rfl, .inl ⟨rfl, rfl⟩⟩, Below.refl _ _⟩
 case round =>
  obtain ⟨k, hk, rfl, rfl, rfl, ho, hb⟩ := hrel
  have hbs := hb.size
  have q0 : (0 : Int) ≤ (k : Int) := by omega
  by_cases hlt : k < n
  · obtain ⟨ad, x, rfl, hab, hx, u0, u1, u2, u3⟩ := (hr.below hb).kd hlt
    have hxs := Hz.out x (List.mem_of_getElem? hx)
    have q1 : (k : Int) < (n : Int) := by omega
    have hbeg := ptK_beg fC l k
    have husd := ptK_used fC l 10000 (fun y hy b => by have := Hz.out y hy; unfold fC; split <;> omega) (by omega) k
    have hgl := ptK_len fC l k
    have hstep : Hid (ptK fC l (k + 1) = if 504 < (ptK fC l k).2.2 + fC x (decide (k = (ptK fC l k).2.1)) then ((ptK fC l k).1 ++ [((ptK fC l k).2.1, k)], k, 4) else ((ptK fC l k).1, (ptK fC l k).2.1, (ptK fC l k).2.2 + fC x (decide (k = (ptK fC l k).2.1)))) := by
     refine Lib.hid ?_
     conv => lhs; unfold ptK
     rw [hx]
     rfl
    clear hx
    generalize ptK fC l k = st at *
    obtain ⟨gs, b, u⟩ := st
    simp only at *
    have HO := Lib.hid (And.intro ho hb); clear ho hb
    have hz2 : fC x (decide (k = b)) ≤ 9012 := by unfold fC; split <;> omega
    have SZ1 : Hid (∀ W, Calls Tryz.prog 53 #[kdAgg x, .bool ((k : Int) == (b : Int))] W (RetB W (.int .i64 (fC x (decide (k = b)) : Nat)))) := by
     refine Lib.hid fun W => (childSize_any x hxs _ W).mono ?_
     rintro e w' ⟨rfl, hb'⟩
     refine ⟨ret_int ?_, hb'⟩
     unfold fC
     by_cases hkb : k = b
     · subst hkb; simp
     · have : ((k : Int) == (b : Int)) = false := by simp; omega
       rw [this]; simp [hkb]; omega
    have SZ2 : Hid (∀ W, Calls Tryz.prog 53 #[kdAgg x, .bool true] W (RetB W (.int .i64 4))) := Lib.hid fun W => childSize_any x hxs true W
    obtain ⟨z, hz1⟩ : ∃ z, fC x (decide (k = b)) = z := ⟨_, rfl⟩
    rw [hz1] at hz2 SZ1 hstep
    clear hz1
    obtain ⟨pg, s, p, q⟩ := x
    unfold kdAgg at SZ1 SZ2
    simp only at *
    have e0 : (0 : Int) ≤ (z : Int) := by omega
    have e1 : (z : Int) ≤ 9012 := by omega
    have e2 : (0 : Int) ≤ (u : Int) := by omega
    have e3 : (u : Int) ≤ 10000 := by omega
    have hb0 := ball (Below.refl wr.heap.size wr) (.cells #[.int .u32 (pg : Int), .string s, .int .u32 p, .int .u16 q] 68)
    have hA0 := Blk.new wr 68 #[.int .u32 (pg : Int), .string s, .int .u32 p, .int .u16 q]
    have ho1 := HO.out.1.alloc (.cells #[.int .u32 (pg : Int), .string s, .int .u32 p, .int .u16 q] 68)
    obtain ⟨Av, cv, rfl, hcv⟩ := own_form ho1
    clear husd
    go_wp2_with fail
    refine (SZ1.out _).mono ?_
    rintro e w1 ⟨rfl, hb1⟩
    have hA1 := hA0.below hb1 (by simp)
    have c0 : w1.cell? ⟨wr.heap.size, 0, none⟩ = some (.int .u32 (pg : Int)) := hA1.cell 0
    have c1 : w1.cell? ⟨wr.heap.size, 1, none⟩ = some (.string s) := hA1.cell 1
    have c2 : w1.cell? ⟨wr.heap.size, 2, none⟩ = some (.int .u32 p) := hA1.cell 2
    have c3 : w1.cell? ⟨wr.heap.size, 3, none⟩ = some (.int .u16 q) := hA1.cell 3
    have ho2 := own_below ho1 hb1
    have hbw1 := bto0 HO.out.2 (bto0 hb0 hb1)
    have hz1 : w.heap.size ≤ w1.heap.size := hbw1.size
    have hlz : wr.heap.size < w1.heap.size := by have := hb1.size; simp at this; omega
    clear hA0 ho1 hb0 hb1
    have g1 : (b : Int) ≤ (k : Int) := by omega
    have g2 : (0 : Int) ≤ (b : Int) := by omega
    have g3 : (k : Int) ≤ (c : Int) := by omega
    by_cases hgt : 504 < u + z
    · have hgt' : (504 : Int) < (u : Int) + (z : Int) := by omega
      have hst := hstep.out
      rw [if_pos hgt] at hst
      have hst2 := Lib.hid hst
      clear hst hstep hgt
      have H1 := Lib.hid (And.intro ho2 (And.intro hbw1 hA1)); clear ho2 hbw1 hA1
      go_wp2_with (at_builtin; refine wpList_push1 rfl (.tmp 30) (.tmp 35) 130 rfl w.heap.size 63 i0 (.slice none 0 0) 24 Tryz.underlying130 hi0 hz0 hs0 hy0 rfl _ gs.length (gvL (some ad) c 4 gs) (gvS (some ad) c 4 (b, k)) rfl H1.out.1 _ rfl rfl rfl (by omega) (by omega) hz1 ?_; intro v5 w5 ho5 hg5; have b5 := below_grown H1.out.1 (Nat.le_refl _) hz1 hg5 H1.out.2.1; have hA5 := blk_grown H1.out.1 H1.out.2.2 (by decide) hg5; have d0 : w5.cell? ⟨wr.heap.size, 0, none⟩ = some (.int .u32 (pg : Int)) := hA5.cell 0; have d1 : w5.cell? ⟨wr.heap.size, 1, none⟩ = some (.string s) := hA5.cell 1; have d2 : w5.cell? ⟨wr.heap.size, 2, none⟩ = some (.int .u32 p) := hA5.cell 2; have d3 : w5.cell? ⟨wr.heap.size, 3, none⟩ = some (.int .u16 q) := hA5.cell 3; have hz5 : wr.heap.size < w5.heap.size := hA5.lt; have H5 := Lib.hid (And.intro ho5 b5); clear ho5 hg5 b5 hA5)
      refine (SZ2.out _).mono ?_
      rintro e w6 ⟨rfl, hb6⟩
      have ho6 := own_below H5.out.1 hb6
      have bw6 := bto0 H5.out.2 hb6
      have H6 := Lib.hid (And.intro ho6 bw6); clear ho6 bw6 hb6
      go_wp2
      go_roundw
      case rel => exact ⟨k + 1, by omega, by go_num, by rw [hst2.out], by rw [hst2.out]; first | rfl | exact val_int (by simp; omega), by rw [hst2.out]; simp only [List.length_append, List.length_singleton, gvL_snoc]; exact H6.out.1, H6.out.2⟩
      case measure => simp [intOf]; omega
    · have hgt' : (u : Int) + (z : Int) ≤ 504 := by omega
      have hst := hstep.out
      rw [if_neg hgt] at hst
      have hst2 := Lib.hid hst
      clear hst hstep hgt
      have H1 := Lib.hid (And.intro ho2 (And.intro hbw1 hA1)); clear ho2 hbw1 hA1
      go_wp2_with fail
      refine (SZ1.out _).mono ?_
      rintro e w6 ⟨rfl, hb6⟩
      have ho6 := own_below H1.out.1 hb6
      have bw6 := bto0 H1.out.2.1 hb6
      have H6 := Lib.hid (And.intro ho6 bw6); clear ho6 bw6 hb6
      go_wp2
      go_roundw
      case rel => exact ⟨k + 1, by omega, by go_num, by rw [hst2.out], by rw [hst2.out]; first | rfl | exact val_int (by simp; omega), by rw [hst2.out]; exact H6.out.1, H6.out.2⟩
      case measure => simp [intOf]; omega
  · obtain rfl : n = k := by omega
    have hgl := ptK_len fC l n
    have hbeg := ptK_beg fC l n
    have HPL : Hid (ptL fC l = ptE n (ptK fC l n)) := Lib.hid (by unfold ptL; rw [Hl.out])
    have HI := Lib.hid (ptI HF.out n (by rw [Hl.out]; exact Nat.le_refl _))
    generalize ptK fC l n = st at *
    obtain ⟨gs, b, u⟩ := st
    simp only at *
    have hz := hbs
    obtain ⟨Av, cv, rfl, hcv⟩ := own_form ho
    have g2 : (0 : Int) ≤ (b : Int) := by omega
    have g1 : (b : Int) ≤ (n : Int) := by omega
    have g3 : (n : Int) ≤ (c : Int) := by omega
    by_cases h0 : gs.length = 0
    · have hgs : gs = [] := List.eq_nil_of_length_eq_zero h0
      subst hgs
      have HE : Hid (ptL fC l = [(b, n)]) := Lib.hid (by rw [HPL.out]; unfold ptE; simp)
      have HO := Lib.hid (And.intro ho hb); clear ho hb HPL
      have hb0 : Hid (0 = b) := HI.out.ch
      have hb0 := hb0.out
      subst hb0
      have hE2 : Hid (gvL A c 4 (ptL fC l) = [.slice A n c]) := Lib.hid (by rw [HE.out]; cases A <;> simp [gvL, gvS, Addr.add])
      go_wp2_with (at_builtin; refine wpList_push1 rfl (.tmp 76) (.tmp 80) 130 rfl w.heap.size 63 i0 (.slice none 0 0) 24 Tryz.underlying130 hi0 hz0 hs0 hy0 rfl _ 0 [] (.slice A n c) rfl HO.out.1 _ rfl rfl rfl (by omega) (by omega) hz ?_; intro v5 w5 ho5 hg5; have b5 := below_grown HO.out.1 (Nat.le_refl _) hz hg5 HO.out.2; obtain ⟨A5, c5, rfl, hc5⟩ := own_form ho5; have H5 := Lib.hid (And.intro ho5 (And.intro hc5 b5)); clear ho5 hg5 hc5 b5)
      go_ret
      rw [hE2.out]
      exact ⟨A5, c5, rfl, H5.out.1, H5.out.2.1, H5.out.2.2⟩
    · have hne : gs ≠ [] := fun e => h0 (by rw [e]; rfl)
      obtain ⟨b0, e1, e2, e3⟩ := Chn.split HI.out.ch hne
      simp only at e1 e2 e3
      obtain ⟨m, hm⟩ : ∃ m, gs.dropLast.length = m := ⟨_, rfl⟩
      have hlen : gs.length = m + 1 := by rw [← hm, List.length_dropLast]; omega
      obtain ⟨ad, rfl⟩ : ∃ ad, A = some ad := by obtain ⟨ad, h, _⟩ := hr.2 (by omega); exact ⟨ad, h⟩
      have hbn : b < n := HI.out.lt.2 (by omega)
      have hcb : ¬ c = b := by omega
      by_cases hlast : b + 1 = n
      · obtain ⟨d, rfl⟩ : ∃ d, b = b0 + d + 1 := ⟨b - b0 - 1, by omega⟩
        have HE : Hid (gvL (some ad) c 4 (ptL fC l) = (gvL (some ad) c 4 gs).set m (.slice (some (ad.add (b0 * 4))) d (c - b0)) ++ [.slice (some (ad.add ((b0 + d) * 4))) (n - (b0 + d)) (c - (b0 + d))]) := by
         refine Lib.hid ?_
         have hgl0 : gs.getLastD (0, 0) = (b0, b0 + d + 1) := by rw [e1]; simp
         rw [HPL.out]
         unfold ptE
         rw [if_pos ⟨hne, hlast⟩]
         simp only
         rw [hgl0]
         conv => rhs; rw [e1]
         simp only [gvL, List.map_append, List.map_cons, List.map_nil]
         rw [List.set_append_right _ _ (by rw [List.length_map, hm]; exact Nat.le_refl _), List.length_map, hm, Nat.sub_self]
         simp [gvS]
        have hlenG : (gvL (some ad) c 4 gs).length = m + 1 := by rw [gvL_len, hlen]
        obtain ⟨g, cap, hv, hgb, hgl2⟩ := ho.form (by omega)
        cases hv
        have hcell : wr.cell? ⟨g, m, none⟩ = some (.slice (some (ad.add (b0 * 4))) (d + 1) (c - b0)) := by
         rw [ho.cellAt m (by omega), e1]
         simp only [gvL, List.map_append, List.map_cons, List.map_nil]
         rw [List.getElem?_append_right (by rw [List.length_map, hm]; exact Nat.le_refl _), List.length_map, hm, Nat.sub_self]
         simp [gvS]
         omega
        have hfr := ho.frozenAt m
        obtain ⟨st1, st2⟩ := ho.stored m (.slice (some (ad.add (b0 * 4))) d (c - b0))
        have hbS := hb.setCell (p := ⟨g, m, none⟩) hgb (.slice (some (ad.add (b0 * 4))) d (c - b0))
        have q6 : (((b0 : Int) + (d : Int) + 1) == (n : Int) - 1) = true := by simp; omega
        have q7 : (d : Int) ≤ ((c - b0 : Nat) : Int) := by omega
        have q8 : (0 : Int) ≤ (m : Int) := by omega
        have q9 : (0 : Int) ≤ (d : Int) := by omega
        have q10 : (0 : Int) ≤ (b0 : Int) := by omega
        have q11 : (b0 : Int) + (d : Int) ≤ (n : Int) := by omega
        have q12 : (m : Int) ≤ 1000000 := by omega
        have q13 : m < m + 1 := by omega
        have hcb2 : ¬ c = b0 + d := by omega
        have HL := Lib.hid (And.intro hlast (And.intro hlen (And.intro hbn (And.intro hbeg (And.intro hgl hlenG)))))
        rw [hlen] at st1 ho hcv ⊢
        have HS := Lib.hid (And.intro st1 hbS)
        clear q13
        clear HI ho hb st1 st2 hbS hlast hlen hbn hbeg hgl HPL e1 e2 e3 hm hcb h0 hne hlenG
        go_wp2_with fail
        go_region
        obtain ⟨WS, hWS⟩ : ∃ WS, (wr.setCell ⟨g, m, none⟩ (.slice (some (ad.add (b0 * 4))) d (c - b0))) = WS := ⟨_, rfl⟩
        rw [hWS] at HS ⊢
        clear hWS hcell hfr
        have hzS : w.heap.size ≤ WS.drew.heap.size := HS.out.2.size
        have bS : Below w.heap.size w WS.drew := HS.out.2.drew
        have oS := HS.out.1.drew
        obtain ⟨WD, hWD⟩ : ∃ WD, WS.drew = WD := ⟨_, rfl⟩
        rw [hWD] at hzS bS oS ⊢
        have HO := Lib.hid (And.intro oS bS)
        clear hWD HS oS bS
        go_wp2_with (at_builtin; refine wpList_push1 rfl (.tmp 76) (.tmp 80) 130 rfl w.heap.size 63 i0 (.slice none 0 0) 24 Tryz.underlying130 hi0 hz0 hs0 hy0 rfl _ (m + 1) _ (.slice (some (ad.add ((b0 + d) * 4))) (n - (b0 + d)) (c - (b0 + d))) rfl HO.out.1 _ rfl rfl rfl (by have := HL.out; omega) (by omega) hzS ?_; intro v5 w5 ho5 hg5; have b5 := below_grown HO.out.1 (Nat.le_refl _) hzS hg5 HO.out.2; obtain ⟨A5, c5, rfl, hc5⟩ := own_form ho5; have H5 := Lib.hid (And.intro ho5 (And.intro hc5 b5)); clear ho5 hg5 hc5 b5)
        go_ret
        have hlg := HL.out.2.2.2.2.2
        rw [HE.out]
        refine ⟨A5, c5, ?_, ?_, ?_, H5.out.2.2⟩
        · rw [List.length_append, List.length_set, hlg]; rfl
        · rw [List.length_append, List.length_set, hlg]; exact H5.out.1
        · rw [List.length_append, List.length_set, hlg]; exact H5.out.2.1
      · have HE : Hid (gvL (some ad) c 4 (ptL fC l) = gvL (some ad) c 4 gs ++ [.slice (some (ad.add (b * 4))) (n - b) (c - b)]) := by
         refine Lib.hid ?_
         rw [HPL.out]
         unfold ptE
         rw [if_neg (fun h => hlast h.2), gvL_snoc]
         rfl
        have HO := Lib.hid (And.intro ho hb); clear ho hb HPL e1 e2 e3 hm
        have q5 : 0 < gs.length := by omega
        have q6 : ((b : Int) == (n : Int) - 1) = false := by simp; omega
        clear hlen
        go_wp2_with (at_builtin; refine wpList_push1 rfl (.tmp 76) (.tmp 80) 130 rfl w.heap.size 63 i0 (.slice none 0 0) 24 Tryz.underlying130 hi0 hz0 hs0 hy0 rfl _ gs.length (gvL (some ad) c 4 gs) (.slice (some (ad.add (b * 4))) (n - b) (c - b)) rfl HO.out.1 _ rfl rfl rfl (by omega) (by omega) hz ?_; intro v5 w5 ho5 hg5; have b5 := below_grown HO.out.1 (Nat.le_refl _) hz hg5 HO.out.2; obtain ⟨A5, c5, rfl, hc5⟩ := own_form ho5; have H5 := Lib.hid (And.intro ho5 (And.intro hc5 b5)); clear ho5 hg5 hc5 b5)
        go_ret
        rw [HE.out]
        refine ⟨A5, c5, ?_, ?_, ?_, H5.out.2.2⟩
        · rw [List.length_append, gvL_len]; rfl
        · rw [List.length_append, gvL_len]; exact H5.out.1
        · rw [List.length_append, gvL_len]; exact H5.out.2.1
end
end Go.Proofs.YtebobcbaloddaaaGreat
namespace Go.Proofs.YtebobcbaloddaaaGreat
section
set_option linter.unusedSimpArgs false
set_option linter.unusedVariables false
open Go.RowKit Go.Maps
theorem tkP_stop {T : List Bool} {j : Nat} (h : (tkP j T).2.2 = false) : ∀ k, j ≤ k → tkP k T = tkP j T
 | 0, hk => by have : j = 0 := by omega
               rw [this]
 | k + 1, hk => by
   by_cases e : j = k + 1
   · rw [e]
   · have ih := tkP_stop h k (by omega)
     rw [tkP, ih, h]
     simp
theorem tkP_some {T : List Bool} {j i : Nat} (h : (tkP j T).2.2 = true) (hf : freeI (tkP j T).2.1 = some i) : tkP (j + 1) T = ((tkP j T).1 ++ [i], (tkP j T).2.1.set i true, true) := by
 rw [tkP, if_pos h, hf]
theorem tkP_none {T : List Bool} {j : Nat} (h : (tkP j T).2.2 = true) (hf : freeI (tkP j T).2.1 = none) : tkP (j + 1) T = ((tkP j T).1, (tkP j T).2.1, false) := by
 rw [tkP, if_pos h, hf]
def RetTa (w : World) (g gb gt n : Nat) (ps : List (List UInt8)) (s : List Nat × List Bool × Bool) (e : Ending) (w' : World) : Prop :=
 DP w' g gb gt n ps s.2.1 ∧ Lf w w' gb gt ∧ ((s.2.2 = true ∧ ∃ A c, e = .returned (.tuple #[.slice A s.1.length c, .int .i64 0]) ∧ w'.ownsRow w.heap.size 30 1 (.slice A s.1.length c) s.1.length (vN s.1) ∧ s.1.length ≤ c) ∨
  (s.2.2 = false ∧ e = .returned (.tuple #[.slice none 0 0, .int .i64 7])))
set_option maxRecDepth 100000 in
set_option maxHeartbeats 4000000 in
theorem btake_any {w : World} {g gb gt n : Nat} {ps : List (List UInt8)} {T : List Bool} (h : DP w g gb gt n ps T) (hn : n ≤ 10000) (k : Nat) (hk : k ≤ 1000000) :
 Calls Tryz.prog 49 #[.pointer (some ⟨g, 0, none⟩), .int .i64 k] w (RetTa w g gb gt n ps (tkP k T)) := by
 obtain ⟨i0, hi0, hz0, hs0, hy0⟩ := int_info8 Tryz.infoN
 have hlts := h.lts
 have H0 := Lib.hid h
 have hkI : (k : Int) ≤ 1000000 := by omega
 clear h
 go_enter Tryz.func49, Tryz.ntmps49
 go_wp2
 go_loopw [6, 10] (fun v i wr => ∃ j : Nat, j ≤ k ∧ i = .int .i64 j ∧ (tkP j T).2.2 = true ∧ DP wr g gb gt n ps (tkP j T).2.1 ∧ Lf w wr gb gt ∧ wr.ownsRow w.heap.size 30 1 v (tkP j T).1.length (vN (tkP j T).1)) (fun _ i _ => k - (intOf i).toNat)
 case atStart => exact ⟨0, Nat.zero_le _, rfl, rfl, H0.out, Lf.refl _ _ _, World.ownsRow_nil _ _ _ _⟩
 case round =>
  obtain ⟨j, hj, rfl, hok, hD, hL, ho⟩ := hrel
  have hbs := hL.size
  have q0 : (0 : Int) ≤ (j : Int) := by omega
  obtain ⟨Av, cv, rfl, hcv⟩ := own_form ho
  by_cases hlt : j < k
  · have q1 : (j : Int) < (k : Int) := by omega
    have I := tkI T j
    have hfull := I.full hok
    have hTl := hD.hT
    rcases freeI_cases (tkP j T).2.1 with ⟨i, f1, f2, f3⟩ | ⟨f1, f2⟩
    · have hin : i < n := by rw [← hTl]; exact lt_of_at f2
      have hs := Lib.hid (tkP_some hok f1)
      have TK := Lib.hid (takeDP hD (by omega) i f2 f3)
      generalize tkP j T = st at *
      obtain ⟨pg, T1, ok⟩ := st
      simp only at *
      have H1 := Lib.hid (And.intro hL (And.intro ho (And.intro hD hfull)))
      clear hL ho hD f1 f2 f3 I hfull hok hTl
      go_wp2_with fail
      refine TK.out.mono ?_
      rintro e w1 ⟨rfl, lf1⟩
      have ho1 := (Lf.of_left lf1).own H1.out.2.1 hlts.2.1 hlts.2.2
      have hL1 := H1.out.1.trans (Lf.of_left lf1)
      have hD1 := lf1.1
      have hz1 := hL1.size
      have H2 := Lib.hid (And.intro hL1 (And.intro ho1 hD1))
      have hpl : pg.length + 1 ≤ 1000000000 := by have := H1.out.2.2.2; omega
      clear ho1 hL1 hD1 lf1
      go_wp2_with (at_builtin; refine wpList_push1 rfl (.tmp 20) (.tmp 22) 73 rfl w.heap.size 30 i0 (.int .u32 0) 4 Tryz.underlying73 hi0 hz0 hs0 hy0 rfl _ pg.length (vN pg) (.int .u32 (i : Int)) rfl H2.out.2.1 _ rfl rfl rfl hpl (by omega) hz1 ?_; intro v5 w5 ho5 hg5; have hD5 := H2.out.2.2.push H2.out.2.1 hg5 (by decide) (by decide) (by decide); have hL5 := H2.out.1.push H2.out.2.1 (Nat.le_refl _) hg5; have H5 := Lib.hid (And.intro ho5 (And.intro hD5 hL5)); clear ho5 hg5 hD5 hL5)
      go_roundw
      case rel => exact ⟨j + 1, by omega, by go_num, by rw [hs.out], by rw [hs.out]; exact H5.out.2.1, H5.out.2.2, by rw [hs.out]; simp only [List.length_append, List.length_singleton, vN_snoc]; exact H5.out.1⟩
      case measure => simp [intOf]; omega
    · have TK := Lib.hid (take_fullDP hD (by omega) (fun i hi => f2 i (by rw [hTl]; exact hi)))
      have hs := Lib.hid (tkP_none hok f1)
      have hst : Hid (tkP k T = ((tkP j T).1, (tkP j T).2.1, false)) := Lib.hid (by rw [tkP_stop (j := j + 1) (by rw [hs.out]) k (by omega), hs.out])
      have H1 := Lib.hid (And.intro hL hD)
      clear hL ho hD f1 f2 I hfull hok hTl hs
      go_wp2_with fail
      refine TK.out.mono ?_
      rintro e w1 ⟨rfl, rfl⟩
      go_wp2
      go_ret2
      rw [hst.out]
      exact ⟨H1.out.2, H1.out.1, .inr ⟨rfl, rfl⟩⟩
  · obtain rfl : k = j := by omega
    have H1 := Lib.hid (And.intro hD (And.intro hL (And.intro hok (And.intro ho hcv))))
    clear hD hL hok ho
    go_wp2
    go_ret2
    exact ⟨H1.out.1, H1.out.2.1, .inl ⟨H1.out.2.2.1, Av, cv, rfl, H1.out.2.2.2.1, H1.out.2.2.2.2⟩⟩
end
end Go.Proofs.YtebobcbaloddaaaGreat
namespace Go.Proofs.YtebobcbaloddaaaGreat
section
set_option linter.unusedSimpArgs false
set_option linter.unusedVariables false
open Go.RowKit Go.Maps
theorem Chn.mem : ∀ {a c : Nat} {gs : List (Nat × Nat)}, Chn a gs c → ∀ g ∈ gs, a ≤ g.1 ∧ g.1 < g.2 ∧ g.2 ≤ c
 | _, _, [], _, g, hg => by cases hg
 | a, c, g0 :: gs, ⟨h1, h2, h3⟩, g, hg => by
   rcases List.mem_cons.1 hg with rfl | h
   · exact ⟨by omega, by omega, h3.le⟩
   · have := Chn.mem h3 g h; omega
theorem szL_E : ∀ l : List En, szL fE l = sumE l
 | [] => rfl
 | x :: r => by
   unfold szL sumE fE
   rw [List.map_cons, List.sum_cons]
theorem szE_mono (s : List En) (x : En) : szL fE s ≤ szL fE (s ++ [x]) := by rw [szL_snoc]; omega
theorem szC_mono (s : List Kd) (x : Kd) : szL fC s ≤ szL fC (s ++ [x]) := by rw [szL_snoc]; omega
theorem seg_sub {α : Type} (l : List α) (g : Nat × Nat) : (seg l g).Sublist l := (List.drop_sublist _ _).trans (List.take_sublist _ _)
theorem may_sub {l s : List En} (h : mayEn l = true) (hs : s.Sublist l) : mayEn s = true := by
 unfold mayEn at h ⊢
 rw [Bool.and_eq_true] at h ⊢
 refine ⟨?_, (rise_iff s).2 (List.Pairwise.sublist hs ((rise_iff l).1 h.2))⟩
 rw [List.all_eq_true] at h ⊢
 exact fun x hx => h.1 x (hs.subset hx)
theorem may_small {l : List En} (h : mayEn l = true) : ∀ x ∈ l, x.s.size ≤ 200 := by
 unfold mayEn at h
 rw [Bool.and_eq_true, List.all_eq_true] at h
 exact fun x hx => by simpa using h.1 x hx
theorem ptL_nil {α : Type} (f : α → Bool → Nat) : ptL f ([] : List α) = [(0, 0)] := by simp [ptL, ptK, ptE]
structure GrE (l : List En) (g : Nat × Nat) : Prop where
 sum : sumE (seg l g) ≤ 504
 may : mayEn (seg l g) = true
 le : g.1 ≤ g.2 ∧ g.2 ≤ l.length
 mem : ∀ x ∈ seg l g, x ∈ l
 pos : l ≠ [] → g.1 < g.2
theorem grE_ok {l : List En} (h : mayEn l = true) : ∀ g ∈ ptL fE l, GrE l g := by
 intro g hg
 by_cases hl : l = []
 · subst hl
   rw [ptL_nil, List.mem_singleton] at hg
   subst hg
   exact ⟨by simp [seg, sumE], by simp [seg, mayEn, riseE], by simp, by simp [seg], fun h => absurd rfl h⟩
 · obtain ⟨h1, h2, h3⟩ := ptL_ok (ptF_E (may_small h)) szE_mono hl
   have h4 := h1.mem g hg
   exact ⟨by rw [← szL_E]; exact (h2 g hg).1, may_sub h (seg_sub l g), ⟨by omega, (h2 g hg).2⟩, fun x hx => mem_seg hx, fun _ => h4.2.1⟩
theorem gs_ne {α : Type} (f : α → Bool → Nat) (l : List α) : 1 ≤ (ptL f l).length := by
 unfold ptL ptE
 split <;> simp
theorem gs_le {l : List En} (h : mayEn l = true) : (ptL fE l).length ≤ l.length + 1 := by
 by_cases hl : l = []
 · subst hl; simp [ptL_nil]
 · obtain ⟨h1, _, _⟩ := ptL_ok (ptF_E (may_small h)) szE_mono hl
   have : ∀ {a c : Nat} {gs : List (Nat × Nat)}, Chn a gs c → a + gs.length ≤ c := by
    intro a c gs
    induction gs generalizing a with
    | nil => intro h; cases h; simp
    | cons g gs ih => rintro ⟨e1, e2, e3⟩; have := ih e3; rw [List.length_cons]; omega
   have := this h1
   omega
section
variable {w w' : World} {B n : Nat} {ad : Addr}
theorem vE_seg (l : List En) (b e : Nat) : ((vE l).take (e * 3)).drop (b * 3) = vE (seg l (b, e)) := by
 unfold seg vE
 have h1 : ∀ (l : List En) (k : Nat), (l.flatMap En.cells).take (k * 3) = (l.take k).flatMap En.cells := by
  intro l
  induction l with
  | nil => intro k; simp
  | cons x r ih =>
    intro k
    cases k with
    | zero => simp
    | succ k => rw [List.flatMap_cons, List.take_succ_cons, List.flatMap_cons, ← ih k, show (k + 1) * 3 = x.cells.length + k * 3 from by rw [En.len]; omega, List.take_length_add_append]
 have h2 : ∀ (l : List En) (k : Nat), (l.flatMap En.cells).drop (k * 3) = (l.drop k).flatMap En.cells := by
  intro l
  induction l with
  | nil => intro k; simp
  | cons x r ih =>
    intro k
    cases k with
    | zero => simp
    | succ k => rw [List.flatMap_cons, List.drop_succ_cons, ← ih k, show (k + 1) * 3 = x.cells.length + k * 3 from by rw [En.len]; omega, List.drop_length_add_append]
 rw [h1, h2]
theorem vK_seg (l : List Kd) (b e : Nat) : ((vK l).take (e * 4)).drop (b * 4) = vK (seg l (b, e)) := by
 unfold seg vK
 have h1 : ∀ (l : List Kd) (k : Nat), (l.flatMap kdC).take (k * 4) = (l.take k).flatMap kdC := by
  intro l
  induction l with
  | nil => intro k; simp
  | cons x r ih =>
    intro k
    cases k with
    | zero => simp
    | succ k => rw [List.flatMap_cons, List.take_succ_cons, List.flatMap_cons, ← ih k, show (k + 1) * 4 = (kdC x).length + k * 4 from by show _ = 4 + _; omega, List.take_length_add_append]
 have h2 : ∀ (l : List Kd) (k : Nat), (l.flatMap kdC).drop (k * 4) = (l.drop k).flatMap kdC := by
  intro l
  induction l with
  | nil => intro k; simp
  | cons x r ih =>
    intro k
    cases k with
    | zero => simp
    | succ k => rw [List.flatMap_cons, List.drop_succ_cons, ← ih k, show (k + 1) * 4 = (kdC x).length + k * 4 from by show _ = 4 + _; omega, List.drop_length_add_append]
 rw [h1, h2]
theorem Reads.segE {A : Option Addr} {l : List En} (h : Reads w B 3 A n (vE l)) (g : Nat × Nat) (h1 : g.1 ≤ g.2) (h2 : g.2 ≤ n) : Reads w B 3 (A.map fun ad => ad.add (g.1 * 3)) (g.2 - g.1) (vE (seg l g)) := by
 rcases A with _ | ad
 · have hn : n = 0 := by
    rcases Nat.eq_zero_or_pos n with h0 | h0
    · exact h0
    · obtain ⟨ad, e, _⟩ := h.2 h0; cases e
   have hl : l = [] := by have := h.1; rw [vE_len] at this; exact List.eq_nil_of_length_eq_zero (by omega)
   subst hl
   have e1 : g.2 - g.1 = 0 := by omega
   rw [e1]
   simp [seg, vE]
   exact Reads.none_
 · have := (h.takec g.2 h2).dropc g.1 h1
   rw [vE_seg] at this
   exact this
theorem Reads.segK {A : Option Addr} {l : List Kd} (h : Reads w B 4 A n (vK l)) (g : Nat × Nat) (h1 : g.1 ≤ g.2) (h2 : g.2 ≤ n) : Reads w B 4 (A.map fun ad => ad.add (g.1 * 4)) (g.2 - g.1) (vK (seg l g)) := by
 rcases A with _ | ad
 · have hn : n = 0 := by
    rcases Nat.eq_zero_or_pos n with h0 | h0
    · exact h0
    · obtain ⟨ad, e, _⟩ := h.2 h0; cases e
   have hl : l = [] := by have := h.1; rw [vK_len] at this; exact List.eq_nil_of_length_eq_zero (by omega)
   subst hl
   have e1 : g.2 - g.1 = 0 := by omega
   rw [e1]
   simp [seg, vK]
   exact Reads.none_
 · have := (h.takec g.2 h2).dropc g.1 h1
   rw [vK_seg] at this
   exact this
def Apt (A : Option Addr) (gb gt : Nat) : Prop := ∀ ad, A = some ad → ad.block ≠ gb ∧ ad.block ≠ gt
theorem Reads.lf {gb gt size : Nat} {A : Option Addr} {xs : List Value} (h : Reads w w.heap.size size A n xs) (hL : Lf w w' gb gt) (hs : Apt A gb gt) : Reads w' w'.heap.size size A n xs := by
 refine ⟨h.1, fun hn => ?_⟩
 obtain ⟨ad, e, hb, hc⟩ := h.2 hn
 have hne := hs ad e
 refine ⟨ad, e, Nat.lt_of_lt_of_le hb hL.size, fun j u hu => ?_⟩
 rw [← hc j u hu]
 exact World.cell?_of_block (by rw [block_of_add]; exact hL.heap _ hb hne.1 hne.2)
theorem Apt.map {A : Option Addr} {gb gt : Nat} (h : Apt A gb gt) (k : Nat) : Apt (A.map fun ad => ad.add k) gb gt := by
 intro ad e
 rcases A with _ | a
 · cases e
 · injection e with e
   subst e
   rw [block_of_add]
   exact h a rfl
end
theorem set_same {T : List Bool} {p : Nat} (h : T[p]? = some true) : T.set p true = T := by
 apply List.ext_getElem?
 intro i
 by_cases hi : p = i
 · subst hi; rw [List.getElem?_set_self (lt_of_at h), h]
 · rw [List.getElem?_set_ne hi]
theorem getD_of {α : Type} {l : List α} {k : Nat} {x d : α} (h : l[k]? = some x) : l.getD k d = x := by simp [List.getD, h]
theorem getD_no {α : Type} {l : List α} {k : Nat} {d : α} (h : l.length ≤ k) : l.getD k d = d := by simp [List.getD, List.getElem?_eq_none h]
theorem lfLv_succ (l : List En) (gs : List (Nat × Nat)) (pg : List Nat) (k : Nat) : lfLv l gs pg (k + 1) = lfLv l gs pg k ++ [(pg.getD k 0, ((seg l (gs.getD k (0, 0))).head?).getD enZ)] := by simp [lfLv, List.range_succ]
theorem inLv_succ (l : List Kd) (gs : List (Nat × Nat)) (pg : List Nat) (k : Nat) : inLv l gs pg (k + 1) = inLv l gs pg k ++ [(pg.getD k 0, (((seg l (gs.getD k (0, 0))).head?).map Prod.snd).getD enZ)] := by simp [inLv, List.range_succ]
theorem lfLv_len (l : List En) (gs : List (Nat × Nat)) (pg : List Nat) (k : Nat) : (lfLv l gs pg k).length = k := by simp [lfLv]
theorem inLv_len (l : List Kd) (gs : List (Nat × Nat)) (pg : List Nat) (k : Nat) : (inLv l gs pg k).length = k := by simp [inLv]
end
end Go.Proofs.YtebobcbaloddaaaGreat
