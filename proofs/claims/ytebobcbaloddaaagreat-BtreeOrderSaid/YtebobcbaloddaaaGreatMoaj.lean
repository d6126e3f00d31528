/-
  Yc Yd Ye.
-/
import Derived.Test.YtebobcbaloddaaaGreatMoag
import Derived.Test.YtebobcbaloddaaaGreatShelf
import Derived.Deep.RegionHeld3
import Derived.Deep.DrawnRows
import Derived.Deep.QuietTactic
import Derived.BigQuiet
import Derived.RegionTactic
namespace Go.Proofs.YtebobcbaloddaaaGreat
section
set_option linter.unusedSimpArgs false
set_option linter.unusedVariables false
open Go.RowKit
@[reducible] def En.agg (e : En) : Value := .agg #[.string e.s, .int .u32 e.p, .int .u16 e.q]
theorem cmp32_any (x y : Int) (w : World) : Calls Tryz.prog 60 #[.int .u32 x, .int .u32 y] w fun e w' => e = .returned (.int .i64 (cmpI x y)) ∧ w = w' := by
 unfold cmpI
 by_cases h1 : x < y
 · go_enter Tryz.func60, Tryz.ntmps60
   go_wp2
   go_ret
   exact ⟨rfl, rfl⟩
 · by_cases h2 : y < x
   · go_enter Tryz.func60, Tryz.ntmps60
     go_wp2
     go_ret
     exact ⟨rfl, rfl⟩
   · go_enter Tryz.func60, Tryz.ntmps60
     go_wp2
     go_ret
     exact ⟨rfl, rfl⟩
theorem cmp16_any (x y : Int) (w : World) : Calls Tryz.prog 61 #[.int .u16 x, .int .u16 y] w fun e w' => e = .returned (.int .i64 (cmpI x y)) ∧ w = w' := by
 unfold cmpI
 by_cases h1 : x < y
 · go_enter Tryz.func61, Tryz.ntmps61
   go_wp2
   go_ret
   exact ⟨rfl, rfl⟩
 · by_cases h2 : y < x
   · go_enter Tryz.func61, Tryz.ntmps61
     go_wp2
     go_ret
     exact ⟨rfl, rfl⟩
   · go_enter Tryz.func61, Tryz.ntmps61
     go_wp2
     go_ret
     exact ⟨rfl, rfl⟩
theorem orL_drop {l : List Int} {k : Nat} {x : Int} (h : l[k]? = some x) : orL (l.drop k) = if x = 0 then orL (l.drop (k + 1)) else x := by
 have hk := lt_of_at h
 have : l[k] = x := by simpa [List.getElem?_eq_getElem hk] using h
 rw [List.drop_eq_getElem_cons hk, this]
 rfl
theorem or_any (A : Option Addr) (n c B : Nat) (l : List Int) (w : World) (hr : Reads w B 1 A n (l.map (Value.int .i64))) (hn : n ≤ 1000) :
 Calls Tryz.prog 58 #[.slice A n c] w fun e w' => e = .returned (.int .i64 (orL l)) ∧ w = w' := by
 have hl : l.length = n := by have := hr.1; simp at this; omega
 have Hl := Lib.hid hl; clear hl
 go_enter Tryz.func58, Tryz.ntmps58
 go_wp2
 go_loop [8] (fun i => ∃ k : Nat, k ≤ n ∧ i = .int .i64 k ∧ orL l = orL (l.drop k)) (fun i => n - (intOf i).toNat)
 case atStart => exact ⟨0, Nat.zero_le _, rfl, rfl⟩
 case round =>
  obtain ⟨k, hk, rfl, he⟩ := hrel
  have HE := Lib.hid he; clear he
  have q0 : (0 : Int) ≤ (k : Int) := by omega
  by_cases hlt : k < n
  · have q1 : (k : Int) < (n : Int) := by omega
    obtain ⟨ad, u, rfl, _, hu, c0⟩ := hr.at_ hlt
    rw [List.getElem?_map] at hu
    obtain ⟨x, hx, rfl⟩ := Option.map_eq_some_iff.1 hu
    have hd := Lib.hid (orL_drop hx)
    clear hx hu
    by_cases h0 : x = 0
    · subst h0
      have he2 : Hid (orL l = orL (l.drop (k + 1))) := Lib.hid (by rw [HE.out, hd.out, if_pos rfl])
      go_wp2
      go_round
      case rel => exact ⟨k + 1, by omega, by go_num, he2.out⟩
      case measure => simp [intOf]; omega
    · have he2 : Hid (orL l = x) := Lib.hid (by rw [HE.out, hd.out, if_neg h0])
      have hb : (x != 0) = true := by simpa using h0
      go_wp2
      go_ret
      exact ⟨by rw [he2.out]; rfl, rfl⟩
  · have he2 : Hid (orL l = 0) := Lib.hid (by rw [HE.out, List.drop_eq_nil_of_le (by rw [Hl.out]; omega)]; rfl)
    go_wp2
    go_ret
    exact ⟨by rw [he2.out]; rfl, rfl⟩
set_option maxHeartbeats 1000000 in
theorem lessE_any (a b : En) (w : World) : Calls Tryz.prog 35 #[a.agg, b.agg] w (RetB w (.bool (lessE a b))) := by
 unfold lessE
 obtain ⟨s, p, q⟩ := a
 obtain ⟨t, x, y⟩ := b
 unfold En.agg
 simp only
 by_cases h : (s.toList == t.toList) = true
 · rw [if_pos h]
   have h' : (s.toList != t.toList) = false := by simpa using h
   by_cases h2 : p = x
   · rw [if_pos h2]
     have h2' : (p != x) = false := by simpa using h2
     go_enter Tryz.func35, Tryz.ntmps35
     go_wp2
     go_ret
     exact ⟨rfl, by (with_reducible repeat (first | exact Below.refl _ _ | exact hb1 | exact hb1 | refine bto0 ?_ hb1 | refine bto0 ?_ hb1 | refine bdr ?_ _ | refine Below.drew ?_ | refine ball ?_ _))⟩
   · rw [if_neg h2]
     have h2' : (p != x) = true := by simpa using h2
     go_enter Tryz.func35, Tryz.ntmps35
     go_wp2
     go_ret
     exact ⟨rfl, by (with_reducible repeat (first | exact Below.refl _ _ | exact hb1 | exact hb1 | refine bto0 ?_ hb1 | refine bto0 ?_ hb1 | refine bdr ?_ _ | refine Below.drew ?_ | refine ball ?_ _))⟩
 · rw [if_neg h]
   have h' : (s.toList == t.toList) = false := by simpa using h
   have h'' : (s.toList != t.toList) = true := by simpa using h
   go_enter Tryz.func35, Tryz.ntmps35
   go_wp2
   go_ret
   exact ⟨rfl, by (with_reducible repeat (first | exact Below.refl _ _ | exact hb1 | exact hb1 | refine bto0 ?_ hb1 | refine bto0 ?_ hb1 | refine bdr ?_ _ | refine Below.drew ?_ | refine ball ?_ _))⟩
end
end Go.Proofs.YtebobcbaloddaaaGreat
namespace Go.Proofs.YtebobcbaloddaaaGreat
section
set_option linter.unusedSimpArgs false
set_option linter.unusedVariables false
open Go.RowKit
theorem three_reads (w : World) (x y z : Int) {g : Nat} (hg : g = w.heap.size) : Reads (w.alloc (.cells #[.int .i64 x, .int .i64 y, .int .i64 z] 3)) (g + 1) 1 (some ⟨g, 0, none⟩) 3 ([x, y, z].map (Value.int .i64)) := by
 subst hg
 exact reads_new w _ _ rfl rfl
def AtE (W : World) (g : Nat) (e : En) : Prop := W.cell? ⟨g, 0, none⟩ = some (.string e.s) ∧ W.cell? ⟨g, 1, none⟩ = some (.int .u32 e.p) ∧ W.cell? ⟨g, 2, none⟩ = some (.int .u16 e.q)
theorem AtE.new (w : World) (e : En) (t : TypeId) : AtE (w.alloc (.cells #[.string e.s, .int .u32 e.p, .int .u16 e.q] t)) w.heap.size e := by
 refine ⟨?_, ?_, ?_⟩ <;> rw [World.cell?_alloc_at _ _ _ _ rfl] <;> rfl
theorem AtE.below {w w' : World} {g : Nat} {e : En} (h : AtE w g e) (hb : Below w.heap.size w w') : AtE w' g e := by
 obtain ⟨a, b, c⟩ := h
 exact ⟨(hb.cell (cell_block a)).trans a, (hb.cell (cell_block b)).trans b, (hb.cell (cell_block c)).trans c⟩
set_option maxRecDepth 100000 in
set_option maxHeartbeats 4000000 in
theorem compareE_any (a b : En) (w : World) : Calls Tryz.prog 30 #[a.agg, b.agg] w (RetB w (.int .i64 (cmpE a b))) := by
 have hS : Hid (∀ W, Below (w.heap.size + 1 + 1) ((w.alloc (.cells #[.string a.s, .int .u32 a.p, .int .u16 a.q] 37)).alloc (.cells #[.string b.s, .int .u32 b.p, .int .u16 b.q] 37)) W → W.cell? ⟨w.heap.size, 0, none⟩ = some (.string a.s) ∧ W.cell? ⟨w.heap.size, 1, none⟩ = some (.int .u32 a.p) ∧ W.cell? ⟨w.heap.size, 2, none⟩ = some (.int .u16 a.q) ∧ W.cell? ⟨w.heap.size + 1, 0, none⟩ = some (.string b.s) ∧ W.cell? ⟨w.heap.size + 1, 1, none⟩ = some (.int .u32 b.p) ∧ W.cell? ⟨w.heap.size + 1, 2, none⟩ = some (.int .u16 b.q) ∧ Below w.heap.size w W) := by
  refine Lib.hid fun W hW => ?_
  have hW' : Below ((w.alloc (.cells #[.string a.s, .int .u32 a.p, .int .u16 a.q] 37)).alloc (.cells #[.string b.s, .int .u32 b.p, .int .u16 b.q] 37)).heap.size ((w.alloc (.cells #[.string a.s, .int .u32 a.p, .int .u16 a.q] 37)).alloc (.cells #[.string b.s, .int .u32 b.p, .int .u16 b.q] 37)) W := by simpa using hW
  obtain ⟨q0, q1, q2⟩ := ((AtE.new w a 37).below ((Below.refl _ _).alloc (Nat.le_refl _) (.cells #[.string b.s, .int .u32 b.p, .int .u16 b.q] 37))).below hW'
  obtain ⟨q3, q4, q5⟩ := (AtE.new (w.alloc (.cells #[.string a.s, .int .u32 a.p, .int .u16 a.q] 37)) b 37).below hW'
  simp only [alloc_size] at q3 q4 q5
  exact ⟨q0, q1, q2, q3, q4, q5, (ball (ball (Below.refl _ _) _) _).trans (hW.mono (by omega))⟩
 unfold cmpE
 obtain ⟨s, p, q⟩ := a
 obtain ⟨t, x, y⟩ := b
 unfold En.agg
 simp only at hS ⊢
 go_enter Tryz.func30, Tryz.ntmps30
 go_wp2_with fail
 obtain ⟨WA, hWA⟩ : ∃ WA, ((w.alloc (.cells #[.string s, .int .u32 p, .int .u16 q] 37)).alloc (.cells #[.string t, .int .u32 x, .int .u16 y] 37)) = WA := ⟨_, rfl⟩
 have hz : WA.heap.size = w.heap.size + 1 + 1 := by rw [← hWA]; simp
 rw [hWA] at hS ⊢
 clear hWA
 obtain ⟨q0, q1, q2, q3, q4, q5, q9⟩ := hS.out WA (Below.refl _ _)
 clear q9
 go_region_held3 (fun W => W.cell? ⟨w.heap.size, 0, none⟩ = some (.string s) ∧ W.cell? ⟨w.heap.size, 1, none⟩ = some (.int .u32 p) ∧ W.cell? ⟨w.heap.size, 2, none⟩ = some (.int .u16 q) ∧ W.cell? ⟨w.heap.size + 1, 0, none⟩ = some (.string t) ∧ W.cell? ⟨w.heap.size + 1, 1, none⟩ = some (.int .u32 x) ∧ W.cell? ⟨w.heap.size + 1, 2, none⟩ = some (.int .u16 y) ∧ Below w.heap.size w W)
  (first | exact hS.out _ (by rw [← hz]; (with_reducible repeat (first | exact Below.refl _ _ | exact hb1 | refine bto0 ?_ hb1 | refine bdr ?_ _ | refine Below.drew ?_ | refine ball ?_ _))) | assumption)
  (first
   | (go_at_call 59; (with_reducible refine (Tryz.strings_Compare _ _ _).mono ?_); rintro e w' ⟨rfl, rfl⟩)
   | (go_at_call 60; (with_reducible refine (cmp32_any _ _ _).mono ?_); rintro e w' ⟨rfl, rfl⟩)
   | (go_at_call 61; (with_reducible refine (cmp16_any _ _ _).mono ?_); rintro e w' ⟨rfl, rfl⟩)
   | (go_at_call 58; refine (or_any _ _ _ (w.heap.size + 1 + 1 + 1) [Lib.compareBytes s.data.toList t.data.toList, cmpI p x, cmpI q y] _ (three_reads WA _ _ _ hz.symm).drew (by decide)).mono ?_; rintro e w' ⟨rfl, rfl⟩))
 go_wp2
 go_ret
 exact ⟨rfl, (hS.out _ (by rw [← hz]; (with_reducible repeat (first | exact Below.refl _ _ | exact hb1 | refine bto0 ?_ hb1 | refine bdr ?_ _ | refine Below.drew ?_ | refine ball ?_ _)))).2.2.2.2.2.2⟩
end
end Go.Proofs.YtebobcbaloddaaaGreat
namespace Go.Proofs.YtebobcbaloddaaaGreat
section
set_option linter.unusedSimpArgs false
set_option linter.unusedVariables false
open Go.RowKit
def grE : Int → List En → Bool
 | _, [] => false
 | n, v :: r => if 9000 < n + (1 + min (v.s.size : Int) 9000) then true else grE (n + (1 + min (v.s.size : Int) 9000)) r
theorem grE_drop {l : List En} {k : Nat} {v : En} (h : l[k]? = some v) (n : Int) : grE n (l.drop k) = if 9000 < n + (1 + min (v.s.size : Int) 9000) then true else grE (n + (1 + min (v.s.size : Int) 9000)) (l.drop (k + 1)) := by
 have hk := lt_of_at h
 have : l[k] = v := by simpa [List.getElem?_eq_getElem hk] using h
 rw [List.drop_eq_getElem_cons hk, this]
 rfl
theorem ret_boolE {x y : Bool} (h : x = y) : Ending.returned (.bool x) = .returned (.bool y) := by rw [h]
set_option maxHeartbeats 1000000 in
theorem greatE_any (A : Option Addr) (n c : Nat) (l : List En) (w : World) (B : Nat) (hr : Reads w B 3 A n (vE l)) (hsz : ∀ v ∈ l, v.s.size ≤ maxLen) (hn : n ≤ maxLen) :
 Calls Tryz.prog 7 #[.slice A n c] w fun e w' => e = .returned (.bool (grE 0 l)) ∧ w = w' := by
 have hl : l.length = n := by have := hr.1; rw [vE_len] at this; omega
 have Hl := Lib.hid hl; clear hl
 have Hz := Lib.hid hsz; clear hsz
 unfold maxLen at hn
 go_enter Tryz.func7, Tryz.ntmps7
 go_wp2
 go_loop [3, 7] (fun m i => ∃ (k : Nat) (q : Int), k ≤ n ∧ i = .int .i64 k ∧ m = .int .i64 q ∧ 0 ≤ q ∧ q ≤ 9000 ∧ grE 0 l = grE q (l.drop k)) (fun _ i => n - (intOf i).toNat)
 case atStart => exact ⟨0, 0, Nat.zero_le _, rfl, rfl, by omega, by omega, rfl⟩
 case round =>
  obtain ⟨k, q, hk, rfl, rfl, hq0, hq1, he⟩ := hrel
  by_cases hlt : k < n
  · obtain ⟨ad, v, rfl, _, hv, hc2, _, _⟩ := hr.ent hlt
    have hvz := Hz.out v (List.mem_of_getElem? hv)
    have hd := grE_drop hv q
    unfold maxLen at hvz
    clear hv hr
    by_cases ht : 9000 < q + (1 + min (v.s.size : Int) 9000)
    · rw [if_pos ht] at hd
      have He := Lib.hid (he.trans hd)
      clear he hd
      by_cases h9 : 9000 < (v.s.size : Int)
      · go_wp2
        go_ret
        exact ⟨ret_boolE He.out.symm, rfl⟩
      · have ht' : 9000 < q + (1 + (v.s.size : Int)) := by omega
        go_wp2
        go_ret
        exact ⟨ret_boolE He.out.symm, rfl⟩
    · rw [if_neg ht] at hd
      have He := Lib.hid (he.trans hd)
      clear he hd
      go_wp2
      go_round
      case rel => exact ⟨k + 1, q + (1 + min (v.s.size : Int) 9000), by omega, by go_num, by first | rfl | exact val_int (by omega), by omega, by omega, He.out⟩
      case measure => simp [intOf]; omega
  · have hd : l.drop k = [] := List.drop_eq_nil_of_le (by rw [Hl.out]; omega)
    rw [hd] at he
    have he2 : grE 0 l = false := he
    have He := Lib.hid he2
    clear he hd he2
    go_wp2
    go_ret
    exact ⟨ret_boolE He.out.symm, rfl⟩
def riseE : List En → Bool
 | a :: b :: r => decide (cmpE a b < 0) && riseE (b :: r)
 | _ => true
theorem rise_drop {l : List En} {k : Nat} {a b : En} (h : l[k]? = some a) (h2 : l[k + 1]? = some b) : riseE (l.drop k) = (decide (cmpE a b < 0) && riseE (l.drop (k + 1))) := by
 have hk := lt_of_at h
 have hk2 := lt_of_at h2
 have e1 : l[k] = a := by simpa [List.getElem?_eq_getElem hk] using h
 have e2 : l[k + 1] = b := by simpa [List.getElem?_eq_getElem hk2] using h2
 rw [List.drop_eq_getElem_cons hk, List.drop_eq_getElem_cons hk2, e1, e2]
 rfl
theorem rise_end {l : List En} {k : Nat} (h : l.length ≤ k + 1) : riseE (l.drop k) = true := by
 have : (l.drop k).length ≤ 1 := by rw [List.length_drop]; omega
 match hh : l.drop k, this with
 | [], _ => rfl
 | [_], _ => rfl
set_option maxRecDepth 100000 in
set_option maxHeartbeats 4000000 in
theorem riseE_any (A : Option Addr) (n c : Nat) (l : List En) (w : World) (hr : Reads w w.heap.size 3 A n (vE l)) (hn : n ≤ 1000000) :
 Calls Tryz.prog 23 #[.slice A n c] w (RetB w (.bool (riseE l))) := by
 have hl : l.length = n := by have := hr.1; rw [vE_len] at this; omega
 have Hl := Lib.hid hl; clear hl
 have hnI : (n : Int) ≤ 1000000 := by omega
 go_enter Tryz.func23, Tryz.ntmps23
 go_wp2
 go_loopw [7] (fun i wr => ∃ k : Nat, k ≤ n ∧ i = .int .i64 k ∧ riseE l = riseE (l.drop k) ∧ Below w.heap.size w wr) (fun i _ => n - (intOf i).toNat)
 case atStart => exact ⟨0, Nat.zero_le _, rfl, rfl, Below.refl _ _⟩
 case round =>
  obtain ⟨k, hk, rfl, he, hb⟩ := hrel
  have hbs := hb.size
  have q0 : (0 : Int) ≤ (k : Int) := by omega
  by_cases hlt : k + 1 < n
  · obtain ⟨ad, a, rfl, hab, ha, u0, u1, u2⟩ := (hr.below hb).ent (show k < n by omega)
    obtain ⟨ad2, b, he2, hab2, hbb, v0, v1, v2⟩ := (hr.below hb).ent hlt
    cases he2
    have hd := rise_drop ha hbb
    have HC := Lib.hid fun W => compareE_any a b W
    generalize cmpE a b = x at *
    have He := Lib.hid (he.trans hd)
    clear he hd ha hbb
    have q1 : (k : Int) < (n : Int) - 1 := by omega
    have q2 : (k : Int) < (n : Int) := by omega
    have q3 : (k : Int) + 1 < (n : Int) := by omega
    have q4 : k < n := by omega
    have q5 : (0 : Int) ≤ (k : Int) + 1 := by omega
    have q6 : k + 1 < n := hlt
    have hw1 : IntKind.i64.wrap ((k : Int) + 1) = (k : Int) + 1 := IntWalk.i64_in _ (by omega)
    obtain ⟨s, p, q⟩ := a
    obtain ⟨t, y, z⟩ := b
    unfold En.agg at HC
    simp only at *
    have hS : Hid (∀ W, Below wr.heap.size wr W → W.cell? (ad.add (k * 3)) = some (.string s) ∧ W.cell? ⟨(ad.add (k * 3)).block, (ad.add (k * 3)).off + 1, none⟩ = some (.int .u32 p) ∧ W.cell? ⟨(ad.add (k * 3)).block, (ad.add (k * 3)).off + 2, none⟩ = some (.int .u16 q) ∧ W.cell? (ad.add ((k + 1) * 3)) = some (.string t) ∧ W.cell? ⟨(ad.add ((k + 1) * 3)).block, (ad.add ((k + 1) * 3)).off + 1, none⟩ = some (.int .u32 y) ∧ W.cell? ⟨(ad.add ((k + 1) * 3)).block, (ad.add ((k + 1) * 3)).off + 2, none⟩ = some (.int .u16 z) ∧ Below wr.heap.size wr W) := by
     refine Lib.hid fun W hW => ⟨(hW.cell ?_).trans u0, (hW.cell ?_).trans u1, (hW.cell ?_).trans u2, (hW.cell ?_).trans v0, (hW.cell ?_).trans v1, (hW.cell ?_).trans v2, hW⟩
     all_goals (simp only [block_of_add]; omega)
    go_wp2_with fail
    go_region_held3 (fun W => W.cell? (ad.add (k * 3)) = some (.string s) ∧ W.cell? ⟨(ad.add (k * 3)).block, (ad.add (k * 3)).off + 1, none⟩ = some (.int .u32 p) ∧ W.cell? ⟨(ad.add (k * 3)).block, (ad.add (k * 3)).off + 2, none⟩ = some (.int .u16 q) ∧ W.cell? (ad.add ((k + 1) * 3)) = some (.string t) ∧ W.cell? ⟨(ad.add ((k + 1) * 3)).block, (ad.add ((k + 1) * 3)).off + 1, none⟩ = some (.int .u32 y) ∧ W.cell? ⟨(ad.add ((k + 1) * 3)).block, (ad.add ((k + 1) * 3)).off + 2, none⟩ = some (.int .u16 z) ∧ Below wr.heap.size wr W)
     (first | exact hS.out _ (by (with_reducible repeat (first | exact Below.refl _ _ | exact hb1 | refine bto0 ?_ hb1 | refine bdr ?_ _ | refine Below.drew ?_ | refine ball ?_ _))) | assumption)
     (first | (go_at_call 30; (with_reducible refine (HC.out _).mono ?_); rintro e w1 ⟨rfl, hb1⟩))
    have hbw1 : Below w.heap.size w w1 := bto0 hb (by (with_reducible repeat (first | exact Below.refl _ _ | exact hb1 | refine bto0 ?_ hb1 | refine bdr ?_ _ | refine Below.drew ?_ | refine ball ?_ _)))
    by_cases hx : x < 0
    · have He1 : Hid (riseE l = riseE (l.drop (k + 1))) := Lib.hid (by rw [He.out]; simp [hx])
      clear He
      go_wp2
      go_roundw
      case rel => exact ⟨k + 1, by omega, by go_num, He1.out, hbw1⟩
      case measure => simp [intOf]; omega
    · have He1 : Hid (riseE l = false) := Lib.hid (by rw [He.out]; simp [hx])
      have hx' : (0 : Int) ≤ x := by omega
      clear He
      go_wp2
      go_ret
      exact ⟨by rw [He1.out]; rfl, hbw1⟩
  · have hfin : Hid (riseE l = true) := Lib.hid (by rw [he]; exact rise_end (by rw [Hl.out]; omega))
    have q1 : (n : Int) - 1 ≤ (k : Int) := by omega
    clear he
    go_wp2
    go_ret
    exact ⟨by rw [hfin.out]; rfl, hb⟩
end
end Go.Proofs.YtebobcbaloddaaaGreat
