/-
  Inner pages: the law LeafInner: its walk.
-/
import Derived.Test.YtgdipljaddodhaaZi
import Derived.Test.YtgdipljaddodhaaZk
import Derived.Test.YtgdipljaddodhaaZg
set_option linter.unusedSimpArgs false
set_option linter.unusedVariables false
namespace Go.Proofs.Ytgdipljaddodhaa
open Go.RowKit

/-- The law's children: as they came in, or one more than entries. -/
def chL (one : Bool) (n : Nat) (ch : List Nat) : List Nat := if one then (ch ++ List.replicate (n + 1) 0).take (n + 1) else ch
/-- What is left of the law behind its children's making; W: the world then. -/
def InnerC (w : World) (A : Option Addr) (n c : Nat) (l : List En) (ch : List Nat) (v : Value) (W : World) : Prop :=
  ∃ A0 c0, v = .slice A0 ch.length c0 ∧ Reads W W.heap.size 1 A0 ch.length (vN ch) ∧ Below w.heap.size w W
theorem vN_app (a b : List Nat) : vN (a ++ b) = vN a ++ vN b := by simp [vN]
theorem vN_take (a : List Nat) (k : Nat) : vN (a.take k) = (vN a).take k := by simp [vN, List.map_take]
theorem own_emptyN (w : World) {g : Nat} (hg : g = w.heap.size) : (w.alloc (.cells #[] 22)).ownsRow w.heap.size 22 1 (.slice (some ⟨g, 0, none⟩) 0 0) 0 [] := by
  subst hg
  exact ⟨rfl, .inr ⟨w.heap.size, 0, #[], rfl, Nat.le_refl _, Blk.new w _ _, Nat.le_refl _, by decide, rfl, rfl⟩⟩

section
variable {A0 : Option Addr} {m c0 : Nat} {A : Option Addr} {n c : Nat} {l : List En} {ch : List Nat} {w : World}
set_option maxRecDepth 100000 in
set_option maxHeartbeats 8000000 in
theorem leafInner_err (one : Bool) (q : Nat) (hq0 : q ≠ 0) (hr0 : Reads w w.heap.size 1 A0 m (vN ch)) (hm3 : m ≤ 3000) (hmc : m ≤ c0) (hr : Reads w w.heap.size 3 A n (vE l)) (hn : n ≤ 9000) (hs : sumE l ≤ 72000)
    (G : ∀ W, Below w.heap.size w W → Calls Try.prog 8 #[.slice A n c] W fun e w' => e = .returned (.bool false) ∧ W = w')
    (P : ∀ A1 c1 W, Below w.heap.size w W → Reads W W.heap.size 1 A1 (chL one n ch).length (vN (chL one n ch)) → Calls Try.prog 21 #[.slice A1 (chL one n ch).length c1, .slice A n c] W (RetB W (.tuple #[.slice none 0 0, .int .i64 q])))
    (R : ∀ A1 c1 W, Below w.heap.size w W → Reads W W.heap.size 1 A1 (chL one n ch).length (vN (chL one n ch)) → Calls Try.prog 22 #[.slice A1 (chL one n ch).length c1, .slice A n c] W (RetB W (.tuple #[.string ⟨#[]⟩, .int .i64 q]))) :
    Calls Try.prog 5 #[.slice A0 m c0, .slice A n c, .bool one] w (RetB w (.bool true)) := by
  have hl : l.length = n := by have := hr.1; rw [vE_len] at this; omega
  have hchl := hr0.num_len
  have HG := Lib.hid G
  have HP := Lib.hid P
  have HR := Lib.hid R
  have S1 := fun (W : World) (hb : Below w.heap.size w W) => innerSize_any A n c l W ((hr.below hb).more hb.size) hs
  have S2 := fun (W : World) (hb : Below w.heap.size w W) => rsize_any 12 12 A n c l W ((hr.below hb).more hb.size) (by omega) (by omega) (by rw [size12]; omega)
  have e8 : ((sizE 12 12 l : Nat) : Int) = 12 + (sumE l : Int) + 4 * (n : Int) := by rw [size12, hl]; omega
  rw [e8] at S2
  obtain ⟨Z, hZ⟩ : ∃ Z : Int, 12 + (sumE l : Int) + 4 * (n : Int) = Z := ⟨_, rfl⟩
  rw [hZ] at S1 S2
  have H1 := Lib.hid S1
  have H2 := Lib.hid S2
  have cv : ∀ W : World, (convert 34 9 (.slice none 0 0)).run Try.prog W = .ok (.string ⟨#[]⟩) W := fun W =>
    conv_reads (P := Try.prog) (w := W) (B := 0) (l := []) (Reads.none_ (size := 1)) 34 5 9 Try.underlying34 Try.underlying5 Try.underlying9 0
  have hb1 : (((q : Nat) : Int) == 0) = false := by simp; omega
  have hb2 : (((q : Nat) : Int) != 0) = true := by simp; omega
  have hb3 : (q == 0) = false := by simp; omega
  have hb4 : (q != 0) = true := by simp; omega
  have hmI : (m : Int) ≤ 3000 := by omega
  have hnI : (n : Int) ≤ 9000 := by omega
  have Hl := Lib.hid hl
  have Hc := Lib.hid hchl
  clear G P R S1 S2 e8 hZ hq0 hs hl hchl
  cases one
  focus
    have hcl : chL false n ch = ch := rfl
    rw [hcl, Hc.out] at HP HR
    have HPx := HP
    have HRx := HR
    have hW1 := Below.refl w.heap.size w
    have hR := hr0
    clear hcl HP HR
    go_enter Try.func5, Try.ntmps5
    go_wp2_with fail
    refine (HG.out _ (Below.refl _ _)).mono ?_
    rintro e w1 ⟨rfl, rfl⟩
    go_wp2_with fail
  rotate_left
  focus
    obtain ⟨i0, hi0, hz0, hs0, hy0⟩ := int_info8 Try.infoN
    have hcl : chL true n ch = (ch ++ List.replicate (n + 1) 0).take (n + 1) := rfl
    have hll : (chL true n ch).length = n + 1 := by rw [hcl, List.length_take, List.length_append, List.length_replicate]; omega
    rw [hll] at HP HR
    have HPx := HP
    have HRx := HR
    clear HP HR
    have Hcl := Lib.hid hcl
    clear hcl hll
    generalize chL true n ch = CH at *
    have E0 := own_emptyN w rfl
    have h0w : Below w.heap.size w (w.alloc (.cells #[] 22)) := ball (Below.refl _ _) _
    have hrr := hr0.alloc (Nat.le_refl _) (.cells #[] 22)
    have hsz0 : w.heap.size ≤ (w.alloc (.cells #[] 22)).heap.size := h0w.size
    have hn1 : (0 : Int) ≤ (n : Int) + 1 := by omega
    go_enter Try.func5, Try.ntmps5
    go_wp2_with fail
    refine (HG.out _ (Below.refl _ _)).mono ?_
    rintro e w1 ⟨rfl, rfl⟩
    go_wp2_with (first
      | (at_builtin; refine wpList_append_any _ rfl _ _ 44 rfl w.heap.size 22 i0 (.int .u32 0) 1 4 Try.underlying44 hi0 hz0 hs0 hy0 rfl (by decide) _ 0 [] rfl E0 w.heap.size A0 m c0 (vN ch) rfl hrr (by intro u hu; obtain ⟨x, _, rfl⟩ := List.mem_map.1 hu; rfl) (by unfold maxLen; omega) (by omega) hsz0 ?_; intro v1 w1 own1 hg1 ho1)
      | (at_builtin; refine wpList_appZ32 rfl _ _ rfl w.heap.size v1 (0 + m) _ (n + 1) _ rfl own1 rfl (by omega) (by omega) (by omega) (Nat.le_trans hsz0 hg1.size) ?_; intro v2 w2 own2 hg2; obtain ⟨A2, c2, rfl, hc2⟩ := own_form own2; have cut2 := cutN_hi (A := A2) (n := 0 + m + (n + 1)) (c := c2) (n + 1) ((n : Int) + 1) (by omega) (by omega) hc2 w2))
    have hbw1 : Below w.heap.size w w1 := h0w.grown hg1 hsz0 (fun k hk => by have h9 : some w.heap.size = some k := hk; injection h9 with h9; omega)
    have hW1 : Below w.heap.size w w2 := hbw1.grown hg2 hbw1.size (fun k hk => (own1.lt k hk).1)
    have hR : Reads w2 w2.heap.size 1 A2 (n + 1) (vN CH) := by
      have h1 := (Reads.of_own own2).takec (n + 1) (by omega)
      rw [Nat.mul_one, List.nil_append, ← vN_app, ← vN_take, ← Hcl.out] at h1
      exact h1
    clear own1 own2 hg1 hg2 ho1 hbw1 E0 h0w hrr hsz0 hc2
  all_goals
    go_wp2_with fail
    refine (HPx.out _ _ _ hW1 hR).mono ?_
    rintro e w3 ⟨rfl, hb1⟩
    have hR1 := (hR.below hb1).more hb1.size
    have hx1 := bto0 hW1 hb1
    clear hR hW1 hb1
    go_wp2_with fail
    refine (HRx.out _ _ _ hx1 hR1).mono ?_
    rintro e w4 ⟨rfl, hb2⟩
    have hx2 := bto0 hx1 hb2
    clear hx1 hb2 hR1
    go_wp2_with fail
    refine (fixed10_any _).mono ?_
    rintro e w5 ⟨rfl, hb3⟩
    have hx3 := bto0 hx2 hb3
    clear hx2 hb3
    go_wp2_with fail
    refine (H1.out _ hx3).mono ?_
    rintro e w6 ⟨rfl, hb4⟩
    have hx4 := bto0 hx3 hb4
    clear hx3 hb4
    go_wp2_with fail
    refine (H2.out _ hx4).mono ?_
    rintro e w7 ⟨rfl, rfl⟩
    go_wp2
    go_ret
    exact ⟨rfl, hx4⟩
set_option maxRecDepth 100000 in
set_option maxHeartbeats 8000000 in
theorem leafInner_ok (one : Bool) (ch0 : Nat) (cs : List Nat) (hCH : chL one n ch = ch0 :: cs) (hcs : cs.length = n) (hch : ∀ x ∈ ch0 :: cs, x < 4294967296) (h2 : n ≠ 0) (hm : mayEn l = true) (hf : sumE l + 4 * n ≤ 500) (hok : ∀ e ∈ l, e.ok)
    (hr0 : Reads w w.heap.size 1 A0 m (vN ch)) (hm3 : m ≤ 3000) (hmc : m ≤ c0) (hr : Reads w w.heap.size 3 A n (vE l))
    (G : ∀ W, Below w.heap.size w W → Calls Try.prog 8 #[.slice A n c] W fun e w' => e = .returned (.bool false) ∧ W = w') :
    Calls Try.prog 5 #[.slice A0 m c0, .slice A n c, .bool one] w (RetB w (.bool true)) := by
  have hl : l.length = n := by have := hr.1; rw [vE_len] at this; omega
  have hn : n ≤ 63 := by have := sumE_eq l; omega
  have hchl := hr0.num_len
  have hzl : (l.zip cs).length = n := by rw [List.length_zip]; omega
  have HG := Lib.hid G
  have P : ∀ A1 c1 W, Below w.heap.size w W → Reads W W.heap.size 1 A1 (chL one n ch).length (vN (chL one n ch)) → Calls Try.prog 21 #[.slice A1 (chL one n ch).length c1, .slice A n c] W (RetLf W (innL ch0 (l.zip cs) n)) := fun A1 c1 W hb h => by
    rw [hCH] at h ⊢
    rw [List.length_cons, hcs] at h ⊢
    exact putInner_ok A1 c1 A n c l ch0 cs W ((hr.below hb).more hb.size) h hok hch h2 hm hf
  have R : ∀ A1 c1 W, Below w.heap.size w W → Reads W W.heap.size 1 A1 (chL one n ch).length (vN (chL one n ch)) → Calls Try.prog 22 #[.slice A1 (chL one n ch).length c1, .slice A n c] W (RetB W (.tuple #[.string (str (innL ch0 (l.zip cs) n)), .int .i64 0])) := fun A1 c1 W hb h => by
    rw [hCH] at h ⊢
    rw [List.length_cons, hcs] at h ⊢
    exact rinner_ok A1 c1 A n c l ch0 cs W ((hr.below hb).more hb.size) h hok hch h2 hm hf
  have HP := Lib.hid P
  have HR := Lib.hid R
  have S1 := fun (W : World) (hb : Below w.heap.size w W) => innerSize_any A n c l W ((hr.below hb).more hb.size) (by omega)
  have S2 := fun (W : World) (hb : Below w.heap.size w W) => rsize_any 12 12 A n c l W ((hr.below hb).more hb.size) (by omega) (by omega) (by rw [size12]; omega)
  have e8 : ((sizE 12 12 l : Nat) : Int) = 12 + (sumE l : Int) + 4 * (n : Int) := by rw [size12, hl]; omega
  rw [e8] at S2
  obtain ⟨Z, hZ⟩ : ∃ Z : Int, 12 + (sumE l : Int) + 4 * (n : Int) = Z := ⟨_, rfl⟩
  rw [hZ] at S1 S2
  have H1 := Lib.hid S1
  have H2 := Lib.hid S2
  obtain ⟨p1, p2, p3, p4, p5, p6, p7, p8, p9⟩ := innL_page ch0 cs l (by omega) hch hok hm (by rw [hl]; exact hf) (l.zip cs) rfl (innL ch0 (l.zip cs) n) (by rw [hl])
  have hz7 := allZ_rep (512 - (12 + sumE l + 4 * l.length))
  have hpf : (l.zip cs).map Prod.fst = l := zip_fst (by omega)
  have hps : (l.zip cs).map Prod.snd = cs := zip_snd (by omega)
  have GI : ∀ (A' : Option Addr) (c' : Nat) (W : World), Reads W W.heap.size 1 A' 512 (bL (innL ch0 (l.zip cs) n)) → 512 ≤ c' → Calls Try.prog 19 #[.slice A' 512 c'] W (RetGi W ch0 (l.zip cs)) := fun A' c' W h hc' => by
    have := getInner_all A' 512 c' W.heap.size l.length ch0 (innL ch0 (l.zip cs) n) (l.zip cs) (List.replicate (512 - (12 + sumE l + 4 * l.length)) 0) W h (Nat.le_refl _) (by omega) hc' p1 p2 p3 (by omega) (by omega) p4 p6 p7 p8 false true true p9 hz7 (by simp; omega) (by rw [hpf]; exact hm)
    exact this
  unfold RetGi at GI
  rw [hpf, hps, hzl] at GI
  have HGI := Lib.hid GI
  have GL := Lib.hid fun (A' : Option Addr) (c' : Nat) (W : World) (h : Reads W W.heap.size 1 A' 512 (bL (innL ch0 (l.zip cs) n))) => getLeaf_op A' 512 c' W.heap.size (innL ch0 (l.zip cs) n) W h (Nat.le_refl _) (by omega) (.inr (by rw [p2]; decide))
  have SM := Lib.hid fun (A2 : Option Addr) (c2 : Nat) (W : World) (hb : Below w.heap.size w W) (h2 : Reads W W.heap.size 3 A2 n (vE l)) => sameE_any A n c A2 c2 l W ((hr.below hb).more hb.size) h2 (by omega)
  have SN := Lib.hid fun (A1 : Option Addr) (c1 : Nat) (A2 : Option Addr) (c2 : Nat) (W : World) (h1 : Reads W W.heap.size 1 A1 (n + 1) (vN (ch0 :: cs))) (h2 : Reads W W.heap.size 1 A2 (n + 1) (vN (ch0 :: cs))) => same_any A1 (n + 1) c1 A2 c2 (ch0 :: cs) W h1 h2 (by omega)
  have hlc : (chL one n ch).length = n + 1 := by rw [hCH, List.length_cons, hcs]
  have hmI : (m : Int) ≤ 3000 := by omega
  have hnI : (n : Int) ≤ 63 := by omega
  have Hl := Lib.hid hl
  have Hc := Lib.hid hchl
  have HX := Lib.hid p5
  have HCH := Lib.hid hCH
  have Hlc := Lib.hid hlc
  clear G P R hm hf hok hl S1 S2 e8 hZ GI p1 p2 p3 p4 p5 p6 p7 p8 p9 hz7 hpf hps hzl hcs hch hchl hlc hCH
  generalize innL ch0 (l.zip cs) n = X at *
  cases one
  focus
    have hcl : chL false n ch = ch := rfl
    have hlc := Hlc.out
    rw [hcl] at HP HR hlc
    have hCH := HCH.out
    rw [hcl] at hCH
    rw [hlc] at HP HR
    have hm1 : m = n + 1 := by rw [← Hc.out]; exact hlc
    subst hm1
    have HPx := HP
    have HRx := HR
    have hW1 := Below.refl w.heap.size w
    have hR := hr0
    have hCHx := Lib.hid hCH
    rw [hCH] at hR
    have hcl2 := hcl.trans hCH
    clear hcl HP HR hCH hlc hcl2 hr0
    go_enter Try.func5, Try.ntmps5
    go_wp2_with fail
    refine (HG.out _ (Below.refl _ _)).mono ?_
    rintro e w1 ⟨rfl, rfl⟩
    go_wp2_with fail
  rotate_left
  focus
    obtain ⟨i0, hi0, hz0, hs0, hy0⟩ := int_info8 Try.infoN
    have hcl : chL true n ch = (ch ++ List.replicate (n + 1) 0).take (n + 1) := rfl
    have hll : (chL true n ch).length = n + 1 := by rw [hcl, List.length_take, List.length_append, List.length_replicate]; omega
    rw [hll] at HP HR
    have hCH := HCH.out
    have HPx := HP
    have HRx := HR
    clear HP HR
    have Hcl := Lib.hid hcl
    clear hcl hll
    generalize chL true n ch = CH at *
    have hCHx := Lib.hid hCH
    clear hCH
    have E0 := own_emptyN w rfl
    have h0w : Below w.heap.size w (w.alloc (.cells #[] 22)) := ball (Below.refl _ _) _
    have hrr := hr0.alloc (Nat.le_refl _) (.cells #[] 22)
    have hsz0 : w.heap.size ≤ (w.alloc (.cells #[] 22)).heap.size := h0w.size
    have hn1 : (0 : Int) ≤ (n : Int) + 1 := by omega
    go_enter Try.func5, Try.ntmps5
    go_wp2_with fail
    refine (HG.out _ (Below.refl _ _)).mono ?_
    rintro e w1 ⟨rfl, rfl⟩
    go_wp2_with (first
      | (at_builtin; refine wpList_append_any _ rfl _ _ 44 rfl w.heap.size 22 i0 (.int .u32 0) 1 4 Try.underlying44 hi0 hz0 hs0 hy0 rfl (by decide) _ 0 [] rfl E0 w.heap.size A0 m c0 (vN ch) rfl hrr (by intro u hu; obtain ⟨x, _, rfl⟩ := List.mem_map.1 hu; rfl) (by unfold maxLen; omega) (by omega) hsz0 ?_; intro v1 w1 own1 hg1 ho1)
      | (at_builtin; refine wpList_appZ32 rfl _ _ rfl w.heap.size v1 (0 + m) _ (n + 1) _ rfl own1 rfl (by omega) (by omega) (by omega) (Nat.le_trans hsz0 hg1.size) ?_; intro v2 w2 own2 hg2; obtain ⟨A2, c2, rfl, hc2⟩ := own_form own2; have cut2 := cutN_hi (A := A2) (n := 0 + m + (n + 1)) (c := c2) (n + 1) ((n : Int) + 1) (by omega) (by omega) hc2 w2))
    have hbw1 : Below w.heap.size w w1 := h0w.grown hg1 hsz0 (fun k hk => by have h9 : some w.heap.size = some k := hk; injection h9 with h9; omega)
    have hW1 : Below w.heap.size w w2 := hbw1.grown hg2 hbw1.size (fun k hk => (own1.lt k hk).1)
    have hR : Reads w2 w2.heap.size 1 A2 (n + 1) (vN CH) := by
      have h1 := (Reads.of_own own2).takec (n + 1) (by omega)
      rw [Nat.mul_one, List.nil_append, ← vN_app, ← vN_take, ← Hcl.out] at h1
      exact h1
    rw [hCHx.out] at hR
    clear own1 own2 hg1 hg2 ho1 hbw1 E0 h0w hrr hsz0 hc2
  all_goals
    go_wp2_with fail
    refine (HPx.out _ _ _ hW1 (by rw [hCHx.out]; exact hR)).mono ?_
    rintro e w3 ⟨v3, rfl, own3, hb1⟩
    obtain ⟨A3, c3, rfl, hc3⟩ := own3.form
    have hrd3 := own3.reads.1
    rw [HX.out] at hrd3 hc3 ⊢
    have hR1 := (hR.below hb1).more hb1.size
    have hx1 := bto0 hW1 hb1
    clear hR hW1 hb1 own3
    go_wp2_with fail
    refine (HRx.out _ _ _ hx1 (by rw [hCHx.out]; exact hR1)).mono ?_
    rintro e w4 ⟨rfl, hb2⟩
    have hx2 := bto0 hx1 hb2
    have hR2 := (hR1.below hb2).more hb2.size
    have hrd4 := (hrd3.below hb2).more hb2.size
    clear hx1 hb2 hR1 hrd3
    go_wp2_with fail
    refine (fixed10_any _).mono ?_
    rintro e w5 ⟨rfl, hb3⟩
    have hx3 := bto0 hx2 hb3
    have hR3 := (hR2.below hb3).more hb3.size
    have hrd5 := (hrd4.below hb3).more hb3.size
    clear hx2 hb3 hR2 hrd4
    have cv := conv_reads hrd5 34 5 9 Try.underlying34 Try.underlying5 Try.underlying9 c3
    go_wp2_with fail
    refine (H1.out _ hx3).mono ?_
    rintro e w6 ⟨rfl, hb4⟩
    have hx4 := bto0 hx3 hb4
    have hR4 := (hR3.below hb4).more hb4.size
    have hrd6 := (hrd5.below hb4).more hb4.size
    clear hx3 hb4 hR3 hrd5 cv
    go_wp2_with fail
    refine (H2.out _ hx4).mono ?_
    rintro e w7 ⟨rfl, rfl⟩
    go_wp2_with fail
    refine (HGI.out _ _ _ hrd6 hc3).mono ?_
    rintro e w8 ⟨A5, c5, A6, c6, rfl, hc5, hc6, own5, own6, hb5⟩
    have hx5 := bto0 hx4 hb5
    have hR5 := (hR4.below hb5).more hb5.size
    have hrd8 := (hrd6.below hb5).more hb5.size
    have hk5 := Reads.of_own own5
    have he5 := Reads.of_own own6
    clear hx4 hb5 hR4 hrd6 own5 own6
    go_wp2_with fail
    refine (GL.out _ _ _ hrd8).mono ?_
    rintro e w9 ⟨rfl, hb6⟩
    have hx6 := bto0 hx5 hb6
    have hR6 := (hR5.below hb6).more hb6.size
    have hk6 := (hk5.below hb6).more hb6.size
    have he6 := (he5.below hb6).more hb6.size
    clear hx5 hb6 hR5 hrd8 hk5 he5
    go_wp2_with fail
    refine (SN.out _ _ _ _ _ hk6 hR6).mono ?_
    rintro e w10 ⟨rfl, hb7⟩
    have hx7 := bto0 hx6 hb7
    have he7 := (he6.below hb7).more hb7.size
    clear hx6 hb7 hR6 hk6 he6
    go_wp2_with fail
    refine (SM.out _ _ _ hx7 he7).mono ?_
    rintro e w11 ⟨rfl, hb8⟩
    go_wp2
    go_ret
    exact ⟨rfl, bto0 hx7 hb8⟩
end
theorem nums_of (l : List Int) (h : ∀ x ∈ l, (Lit.int .u32 x).wf = true) : ∃ ch : List Nat, l.map (Value.int .u32) = vN ch ∧ ch.length = l.length ∧ ∀ x ∈ ch, x < 4294967296 := by
  induction l with
  | nil => exact ⟨[], rfl, rfl, by simp⟩
  | cons x l ih =>
    obtain ⟨ch, h1, h2, h3⟩ := ih fun y hy => h y (by simp [hy])
    have hx := Go.bounds_u32 (h x (by simp))
    refine ⟨x.toNat :: ch, ?_, by simp [h2], ?_⟩
    · have e : ((x.toNat : Nat) : Int) = x := by omega
      simp [vN, e] at h1 ⊢
      exact h1
    · intro y hy
      rcases List.mem_cons.1 hy with rfl | hy
      · omega
      · exact h3 y hy
set_option maxRecDepth 100000 in
set_option maxHeartbeats 2000000 in
theorem leafInner_any (A0 : Option Addr) (m c0 : Nat) (il : List Int) (A : Option Addr) (n c : Nat) (l : List En) (one : Bool) (w : World) (hi : ∀ x ∈ il, (Lit.int .u32 x).wf = true) (hr0 : Reads w w.heap.size 1 A0 m (il.map (Value.int .u32))) (hmc : m ≤ c0) (hm : m ≤ maxLen) (hr : Reads w w.heap.size 3 A n (vE l)) (hok : ∀ e ∈ l, e.ok) (hn : n ≤ maxLen) :
    Calls Try.prog 5 #[.slice A0 m c0, .slice A n c, .bool one] w (RetB w (.bool true)) := by
  have hl : l.length = n := by have := hr.1; rw [vE_len] at this; omega
  have G := greatE_of A n c l w hr hok hn
  by_cases g1 : grE 0 l = true
  · have HG1 := Lib.hid (G true g1); clear G g1 hl
    go_enter Try.func5, Try.ntmps5
    go_wp2_with fail
    refine (HG1.out _ (Below.refl _ _)).mono ?_
    rintro e w1 ⟨rfl, rfl⟩
    go_wp2_with fail
    refine (fixed10_any _).mono ?_
    rintro e w2 ⟨rfl, hb2⟩
    go_wp2
    go_ret
    exact ⟨rfl, by (with_reducible repeat (first | exact Below.refl _ _ | exact hb2 | refine bto0 ?_ hb2 | refine bdr ?_ _ | refine Below.drew ?_ | refine ball ?_ _))⟩
  · have g1' : grE 0 l = false := by simpa using g1
    have H := fun W hb => G false g1' W hb
    by_cases hm3 : 3000 < m
    · have HG1 := Lib.hid H
      have q1 : (3000 : Int) < (m : Int) := by omega
      have q2 : decide ((3000 : Int) < (m : Int)) = true := by simp; omega
      have q3 : decide (3000 < m) = true := by simp; omega
      clear H G g1 g1' hl
      unfold maxLen at hm
      go_enter Try.func5, Try.ntmps5
      go_wp2_with fail
      refine (HG1.out _ (Below.refl _ _)).mono ?_
      rintro e w1 ⟨rfl, rfl⟩
      go_wp2_with fail
      refine (fixed10_any _).mono ?_
      rintro e w2 ⟨rfl, hb2⟩
      go_wp2
      go_ret
      exact ⟨rfl, by (with_reducible repeat (first | exact Below.refl _ _ | exact hb2 | refine bto0 ?_ hb2 | refine bdr ?_ _ | refine Below.drew ?_ | refine ball ?_ _))⟩
    · obtain ⟨ch, hch, hchl, hchb⟩ := nums_of il hi
      rw [hch] at hr0
      obtain ⟨hs, hl9, _⟩ := sumE_bd g1'
      have hml := hr0.num_len
      have hCl : one = true → (chL one n ch).length = n + 1 := by
        rintro rfl
        show ((ch ++ List.replicate (n + 1) 0).take (n + 1)).length = n + 1
        rw [List.length_take, List.length_append, List.length_replicate]; omega
      have hCb : ∀ x ∈ chL one n ch, x < 4294967296 := by
        intro x hx
        unfold chL at hx
        split at hx
        · rcases List.mem_append.1 (List.mem_of_mem_take hx) with h | h
          · exact hchb x h
          · have := List.eq_of_mem_replicate h; omega
        · exact hchb x hx
      have hCm : (chL one n ch).length ≤ 10000 := by
        cases one
        · show ch.length ≤ _; omega
        · have := hCl rfl; omega
      by_cases hno : (chL one n ch).length ≠ n + 1 ∨ n = 0
      · exact leafInner_err one 1 (by decide) hr0 (by omega) hmc hr (by omega) hs H (fun A1 c1 W hb h => putInner_no A1 _ c1 A n c l W ((hr.below hb).more hb.size) (by omega) (by omega) (by rcases hno with h | h; exact .inl h; exact .inr (.inl h))) (fun A1 c1 W hb h => rinner_no1 A1 _ c1 A n c W (by omega) (by omega) hno)
      · have hC1 : (chL one n ch).length = n + 1 := by
          rcases Nat.lt_trichotomy (chL one n ch).length (n + 1) with h | h | h
          · exact absurd (.inl (by omega)) hno
          · exact h
          · exact absurd (.inl (by omega)) hno
        have hn0 : n ≠ 0 := fun h => hno (.inr h)
        by_cases hme : mayEn l = true
        · by_cases hf : sumE l + 4 * n ≤ 500
          · obtain ⟨ch0, cs, hCH⟩ : ∃ ch0 cs, chL one n ch = ch0 :: cs := by
              cases h : chL one n ch with
              | nil => rw [h] at hC1; simp at hC1
              | cons a b => exact ⟨a, b, rfl⟩
            rw [hCH] at hC1 hCb
            exact leafInner_ok one ch0 cs hCH (by simpa using hC1) hCb hn0 hme hf hok hr0 (by omega) hmc hr H
          · have hx : mayN l (12 + sumE l + 4 * n) = 7 := by unfold mayN; rw [hme, if_pos rfl, if_pos (by omega)]
            exact leafInner_err one 7 (by decide) hr0 (by omega) hmc hr (by omega) hs H (fun A1 c1 W hb h => putInner_full A1 _ c1 A n c l W ((hr.below hb).more hb.size) hs hC1 hn0 hme (by omega)) (fun A1 c1 W hb h => rinner_no2 7 A1 _ c1 A n c l W ((hr.below hb).more hb.size) hs hC1 hn0 hx (by decide))
        · have hme' : mayEn l = false := by simpa using hme
          have hx : mayN l (12 + sumE l + 4 * n) = 1 := by unfold mayN; rw [hme']; rfl
          exact leafInner_err one 1 (by decide) hr0 (by omega) hmc hr (by omega) hs H (fun A1 c1 W hb h => putInner_no A1 _ c1 A n c l W ((hr.below hb).more hb.size) (by omega) (by omega) (.inr (.inr hme'))) (fun A1 c1 W hb h => rinner_no2 1 A1 _ c1 A n c l W ((hr.below hb).more hb.size) hs hC1 hn0 hx (by decide))
end Go.Proofs.Ytgdipljaddodhaa
