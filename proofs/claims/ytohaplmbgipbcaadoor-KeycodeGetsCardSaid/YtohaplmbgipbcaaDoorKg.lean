/-
  The law KeycodeLeast: its walk.
-/
import Derived.Test.YtohaplmbgipbcaaDoorKf
set_option linter.unusedSimpArgs false
namespace Go.Proofs.YtohaplmbgipbcaaDoor
open Go.RowKit

theorem may_k {v : Vl} (h : mayV v = true) : v.k = 0 ∨ v.k = 1 ∨ v.k = 2 ∨ v.k = 3 := by
  unfold mayV at h
  split at h
  · omega
  · split at h
    · omega
    · split at h
      · omega
      · split at h
        · omega
        · cases h
theorem key_head {v : Vl} (h : mayV v = true) : ∃ r, keyV v = UInt8.ofNat (1 + v.k).toNat :: r := by
  have hk := may_k h
  unfold keyV
  rcases hk with hk | hk | hk | hk
  · rw [if_neg (by omega), if_neg (by omega), if_neg (by omega), hk]; exact ⟨[], rfl⟩
  · rw [if_pos hk, hk]; exact ⟨_, rfl⟩
  · rw [if_neg (by omega), if_pos hk, hk]; exact ⟨_, rfl⟩
  · rw [if_neg (by omega), if_neg (by omega), if_pos hk, hk]; exact ⟨_, rfl⟩
theorem least_beg {v : Vl} {l : List Vl} (h : allMay (v :: l) = true) : begB ⟨#[UInt8.ofNat (1 + v.k).toNat]⟩ (str (kS (v :: l))) = true := by
  have hv : mayV v = true := by unfold allMay at h; simp at h; exact h.1
  obtain ⟨r, hr⟩ := key_head hv
  unfold begB kS keyR
  rw [h]
  simp only [if_true, List.flatMap_cons, hr]
  simp [str]
theorem least_s (k : Int) (h0 : 0 ≤ k) (h1 : k ≤ 3) (w : World) : Calls Tryd.prog 21 #[.int .u8 k] w (RetB w (.string ⟨#[UInt8.ofNat (1 + k).toNat]⟩)) := by
  have h := least_any k h0 (by omega) w
  rwa [if_neg (by omega)] at h
theorem least_5 (k : Int) (h0 : 4 ≤ k) (h1 : k ≤ 255) (w : World) : Calls Tryd.prog 21 #[.int .u8 k] w (RetB w (.string ⟨#[5]⟩)) := by
  have h := least_any k (by omega) h1 w
  rwa [if_pos (by omega)] at h

set_option maxRecDepth 100000 in
set_option maxHeartbeats 4000000 in
theorem lleast_any (k : Int) (h0 : 0 ≤ k) (h1 : k ≤ 255) (A : Option Addr) (n c : Nat) (l : List Vl) (w : World) (hm : MaxC w) (hr : Reads w w.heap.size 3 A n (vV l)) (hok : ∀ v ∈ l, v.ok) (hn : n ≤ maxLen) :
    Calls Tryd.prog 7 #[.int .u8 k, .slice A n c] w (RetB w (.bool true)) := by
  have HF := Lib.hid fun (W : World) (hb : Below w.heap.size w W) => fixed5_any W (hm.below0 hb)
  have up3 := fun (W : World) (hb : Below w.heap.size w W) => (hr.below hb).more hb.size
  have G := fun (W : World) (hb : Below w.heap.size w W) => great_any A n c l W W.heap.size (up3 W hb) (fun v hv => (hok v hv).2.2) hn
  have hl : l.length = n := by have := hr.1; rw [vV_len] at this; omega
  -- the first part: both ways to the least text come to the same
  suffices H : ∀ (b : Bool) (x : ByteArray), decide (k < 4) = b → (∀ W, Calls Tryd.prog 21 #[.int .u8 k] W (RetB W (.string x))) →
      (b = true → ∀ o : World, (convert 40 9 (.slice (some ⟨o.heap.size, 0, none⟩) 1 1)).run Tryd.prog (o.alloc (.cells #[.int .u8 (k + 1)] 5)) = .ok (.string x) (o.alloc (.cells #[.int .u8 (k + 1)] 5))) → (b = false → x = ⟨#[5]⟩) →
      Calls Tryd.prog 7 #[.int .u8 k, .slice A n c] w (RetB w (.bool true)) by
    by_cases h4 : k < 4
    · have hk : k + 1 = ((UInt8.ofNat (1 + k).toNat).toNat : Int) := by simp; omega
      exact H true _ (by simpa using h4) (fun W => least_s k h0 (by omega) W) (fun _ o => conv_reads (l := [UInt8.ofNat (1 + k).toNat]) (reads_new o #[.int .u8 (k + 1)] 5 (by show [Value.int .u8 ((UInt8.ofNat (1 + k).toNat).toNat : Int)] = _; rw [← hk]) rfl) _ 5 _ Tryd.underlying40 Tryd.underlying5 Tryd.underlying9 1) (fun h => by cases h)
    · exact H false _ (by simpa using h4) (fun W => least_5 k (by omega) h1 W) (fun h => by cases h) (fun _ => rfl)
  intro b x hb4 hX hcv hx5
  have HX := Lib.hid hX; clear hX
  have hxx : (x.toList == x.toList) = true := by simp
  have e4 : (k < 4) = (b = true) := by rw [← hb4]; simp
  have hcs : grV 0 l = true ∨ (grV 0 l = false ∧ allMay l = false) ∨ (grV 0 l = false ∧ allMay l = true ∧ l = []) ∨ (grV 0 l = false ∧ allMay l = true ∧ l ≠ []) := by
    cases grV 0 l <;> cases allMay l <;> by_cases h : l = [] <;> simp [h]
  rcases hcs with hg | ⟨hg, ha⟩ | ⟨hg, ha, he⟩ | ⟨hg, ha, hne⟩
  · rw [hg] at G
    have HG := Lib.hid G; clear G
    clear up3 hr hok hl hm hg e4
    cases b
    · have hx := hx5 rfl
      subst hx
      have hk : 4 ≤ k := by have : ¬ k < 4 := by simpa using hb4
                            omega
      clear hcv hx5 hb4
      go_enter Tryd.func7, Tryd.ntmps7
      go_wp2_with fail
      refine (HX.out _).mono ?_
      rintro e w1 ⟨rfl, hb1⟩
      go_wp2_with fail
      refine (HG.out _ (by (with_reducible repeat (first | exact Below.refl _ _ | exact hb1 | refine bto0 ?_ hb1 | refine bdr ?_ _ | refine Below.drew ?_ | refine ball ?_ _)))).mono ?_
      rintro e w' ⟨rfl, rfl⟩
      go_wp2_with fail
      refine (HF.out _ (by (with_reducible repeat (first | exact Below.refl _ _ | exact hb1 | refine bto0 ?_ hb1 | refine bdr ?_ _ | refine Below.drew ?_ | refine ball ?_ _)))).mono ?_
      rintro e w3 ⟨rfl, hb3⟩
      go_wp2
      go_ret
      exact ⟨rfl, by (with_reducible repeat (first | exact Below.refl _ _ | exact hb3 | exact hb1 | refine bto0 ?_ hb3 | refine bto0 ?_ hb1 | refine bdr ?_ _ | refine Below.drew ?_ | refine ball ?_ _))⟩
    · have hcv' := hcv rfl
      have hk : k ≤ 3 := by have : k < 4 := by simpa using hb4
                            omega
      clear hcv hx5 hb4
      go_enter Tryd.func7, Tryd.ntmps7
      go_wp2_with fail
      refine (HX.out _).mono ?_
      rintro e w1 ⟨rfl, hb1⟩
      go_wp2_with fail
      refine (HG.out _ (by (with_reducible repeat (first | exact Below.refl _ _ | exact hb1 | refine bto0 ?_ hb1 | refine bdr ?_ _ | refine Below.drew ?_ | refine ball ?_ _)))).mono ?_
      rintro e w' ⟨rfl, rfl⟩
      go_wp2_with fail
      refine (HF.out _ (by (with_reducible repeat (first | exact Below.refl _ _ | exact hb1 | refine bto0 ?_ hb1 | refine bdr ?_ _ | refine Below.drew ?_ | refine ball ?_ _)))).mono ?_
      rintro e w3 ⟨rfl, hb3⟩
      go_wp2
      go_ret
      exact ⟨rfl, by (with_reducible repeat (first | exact Below.refl _ _ | exact hb3 | exact hb1 | refine bto0 ?_ hb3 | refine bto0 ?_ hb1 | refine bdr ?_ _ | refine Below.drew ?_ | refine ball ?_ _))⟩
  · have M := fun (W : World) (hb : Below w.heap.size w W) => lmay_any A n c l W (up3 W hb) hok (by have := (grV_bd hg).1; omega)
    rw [hg] at G
    rw [ha] at M
    have HG := Lib.hid G; clear G
    have HM := Lib.hid M; clear M
    clear up3 hr hok hl hm hg ha e4
    cases b
    · have hx := hx5 rfl
      subst hx
      have hk : 4 ≤ k := by have : ¬ k < 4 := by simpa using hb4
                            omega
      clear hcv hx5 hb4
      go_enter Tryd.func7, Tryd.ntmps7
      go_wp2_with fail
      refine (HX.out _).mono ?_
      rintro e w1 ⟨rfl, hb1⟩
      go_wp2_with fail
      refine (HG.out _ (by (with_reducible repeat (first | exact Below.refl _ _ | exact hb1 | refine bto0 ?_ hb1 | refine bdr ?_ _ | refine Below.drew ?_ | refine ball ?_ _)))).mono ?_
      rintro e w' ⟨rfl, rfl⟩
      go_wp2_with fail
      refine (HM.out _ (by (with_reducible repeat (first | exact Below.refl _ _ | exact hb1 | refine bto0 ?_ hb1 | refine bdr ?_ _ | refine Below.drew ?_ | refine ball ?_ _)))).mono ?_
      rintro e w2 ⟨rfl, hb2⟩
      go_wp2_with fail
      refine (HF.out _ (by (with_reducible repeat (first | exact Below.refl _ _ | exact hb2 | exact hb1 | refine bto0 ?_ hb2 | refine bto0 ?_ hb1 | refine bdr ?_ _ | refine Below.drew ?_ | refine ball ?_ _)))).mono ?_
      rintro e w3 ⟨rfl, hb3⟩
      go_wp2
      go_ret
      exact ⟨rfl, by (with_reducible repeat (first | exact Below.refl _ _ | exact hb3 | exact hb2 | exact hb1 | refine bto0 ?_ hb3 | refine bto0 ?_ hb2 | refine bto0 ?_ hb1 | refine bdr ?_ _ | refine Below.drew ?_ | refine ball ?_ _))⟩
    · have hcv' := hcv rfl
      have hk : k ≤ 3 := by have : k < 4 := by simpa using hb4
                            omega
      clear hcv hx5 hb4
      go_enter Tryd.func7, Tryd.ntmps7
      go_wp2_with fail
      refine (HX.out _).mono ?_
      rintro e w1 ⟨rfl, hb1⟩
      go_wp2_with fail
      refine (HG.out _ (by (with_reducible repeat (first | exact Below.refl _ _ | exact hb1 | refine bto0 ?_ hb1 | refine bdr ?_ _ | refine Below.drew ?_ | refine ball ?_ _)))).mono ?_
      rintro e w' ⟨rfl, rfl⟩
      go_wp2_with fail
      refine (HM.out _ (by (with_reducible repeat (first | exact Below.refl _ _ | exact hb1 | refine bto0 ?_ hb1 | refine bdr ?_ _ | refine Below.drew ?_ | refine ball ?_ _)))).mono ?_
      rintro e w2 ⟨rfl, hb2⟩
      go_wp2_with fail
      refine (HF.out _ (by (with_reducible repeat (first | exact Below.refl _ _ | exact hb2 | exact hb1 | refine bto0 ?_ hb2 | refine bto0 ?_ hb1 | refine bdr ?_ _ | refine Below.drew ?_ | refine ball ?_ _)))).mono ?_
      rintro e w3 ⟨rfl, hb3⟩
      go_wp2
      go_ret
      exact ⟨rfl, by (with_reducible repeat (first | exact Below.refl _ _ | exact hb3 | exact hb2 | exact hb1 | refine bto0 ?_ hb3 | refine bto0 ?_ hb2 | refine bto0 ?_ hb1 | refine bdr ?_ _ | refine Below.drew ?_ | refine ball ?_ _))⟩
  · have M := fun (W : World) (hb : Below w.heap.size w W) => lmay_any A n c l W (up3 W hb) hok (by have := (grV_bd hg).1; omega)
    rw [hg] at G
    rw [ha] at M
    have HG := Lib.hid G; clear G
    have HM := Lib.hid M; clear M
    have hn0 : ((n : Int) == 0) = true := by rw [← hl, he]; rfl
    clear up3 hr hok hl hm hg ha e4 he
    cases b
    · have hx := hx5 rfl
      subst hx
      have hk : 4 ≤ k := by have : ¬ k < 4 := by simpa using hb4
                            omega
      clear hcv hx5 hb4
      go_enter Tryd.func7, Tryd.ntmps7
      go_wp2_with fail
      refine (HX.out _).mono ?_
      rintro e w1 ⟨rfl, hb1⟩
      go_wp2_with fail
      refine (HG.out _ (by (with_reducible repeat (first | exact Below.refl _ _ | exact hb1 | refine bto0 ?_ hb1 | refine bdr ?_ _ | refine Below.drew ?_ | refine ball ?_ _)))).mono ?_
      rintro e w' ⟨rfl, rfl⟩
      go_wp2_with fail
      refine (HM.out _ (by (with_reducible repeat (first | exact Below.refl _ _ | exact hb1 | refine bto0 ?_ hb1 | refine bdr ?_ _ | refine Below.drew ?_ | refine ball ?_ _)))).mono ?_
      rintro e w2 ⟨rfl, hb2⟩
      go_wp2_with fail
      refine (HF.out _ (by (with_reducible repeat (first | exact Below.refl _ _ | exact hb2 | exact hb1 | refine bto0 ?_ hb2 | refine bto0 ?_ hb1 | refine bdr ?_ _ | refine Below.drew ?_ | refine ball ?_ _)))).mono ?_
      rintro e w3 ⟨rfl, hb3⟩
      go_wp2
      go_ret
      exact ⟨rfl, by (with_reducible repeat (first | exact Below.refl _ _ | exact hb3 | exact hb2 | exact hb1 | refine bto0 ?_ hb3 | refine bto0 ?_ hb2 | refine bto0 ?_ hb1 | refine bdr ?_ _ | refine Below.drew ?_ | refine ball ?_ _))⟩
    · have hcv' := hcv rfl
      have hk : k ≤ 3 := by have : k < 4 := by simpa using hb4
                            omega
      clear hcv hx5 hb4
      go_enter Tryd.func7, Tryd.ntmps7
      go_wp2_with fail
      refine (HX.out _).mono ?_
      rintro e w1 ⟨rfl, hb1⟩
      go_wp2_with fail
      refine (HG.out _ (by (with_reducible repeat (first | exact Below.refl _ _ | exact hb1 | refine bto0 ?_ hb1 | refine bdr ?_ _ | refine Below.drew ?_ | refine ball ?_ _)))).mono ?_
      rintro e w' ⟨rfl, rfl⟩
      go_wp2_with fail
      refine (HM.out _ (by (with_reducible repeat (first | exact Below.refl _ _ | exact hb1 | refine bto0 ?_ hb1 | refine bdr ?_ _ | refine Below.drew ?_ | refine ball ?_ _)))).mono ?_
      rintro e w2 ⟨rfl, hb2⟩
      go_wp2_with fail
      refine (HF.out _ (by (with_reducible repeat (first | exact Below.refl _ _ | exact hb2 | exact hb1 | refine bto0 ?_ hb2 | refine bto0 ?_ hb1 | refine bdr ?_ _ | refine Below.drew ?_ | refine ball ?_ _)))).mono ?_
      rintro e w3 ⟨rfl, hb3⟩
      go_wp2
      go_ret
      exact ⟨rfl, by (with_reducible repeat (first | exact Below.refl _ _ | exact hb3 | exact hb2 | exact hb1 | refine bto0 ?_ hb3 | refine bto0 ?_ hb2 | refine bto0 ?_ hb1 | refine bdr ?_ _ | refine Below.drew ?_ | refine ball ?_ _))⟩
  · have M := fun (W : World) (hb : Below w.heap.size w W) => lmay_any A n c l W (up3 W hb) hok (by have := (grV_bd hg).1; omega)
    have P := fun (W : World) (hb : Below w.heap.size w W) => kput_any A n c l W (hm.below0 hb) (up3 W hb) hok hg
    have hgb := grV_bd hg
    rw [hg] at G
    rw [ha] at M
    have HG := Lib.hid G; clear G
    have HM := Lib.hid M; clear M
    have HP := Lib.hid P; clear P
    have hlp : 0 < l.length := by cases l with
      | nil => exact absurd rfl hne
      | cons _ _ => simp
    have hn0 : ((n : Int) == 0) = false := by simp; omega
    have hnp : 0 < n := by omega
    have hnI : (0 : Int) < (n : Int) := by omega
    obtain ⟨ad, v, rfl, hab, hv, d0, -, -⟩ := hr.val hnp
    obtain ⟨r, rfl⟩ : ∃ r, l = v :: r := by cases l with
      | nil => exact absurd rfl hne
      | cons x r => simp at hv; exact ⟨r, by rw [hv]⟩
    have d0' : w.cell? ad = some (.int .u8 v.k) := by simpa [Addr.add] using d0
    have hmv : mayV v = true := by unfold allMay at ha; simp at ha; exact ha.1
    have hk3 := may_k hmv
    have LS := Lib.hid fun W => least_s v.k (by omega) (by omega) W
    have hkl : (str (kS (v :: r))).size ≤ 100000 := by
      have h1 := hgb.2.2
      show (kS (v :: r)).toArray.size ≤ 100000
      unfold kS; rw [ha]; simp; omega
    have BG := fun W => begins_any ⟨#[UInt8.ofNat (1 + v.k).toNat]⟩ (str (kS (v :: r))) W (by show 1 ≤ 100000; decide) hkl
    rw [least_beg ha] at BG
    have HB := Lib.hid BG; clear BG
    have D0 := Lib.hid fun (W : World) (hb : Below w.heap.size w W) => (hb.cell hab).trans d0'
    unfold RetPut at HP
    generalize (⟨#[UInt8.ofNat (1 + v.k).toNat]⟩ : ByteArray) = q at *
    generalize str (kS (v :: r)) = key at *
    generalize kE (v :: r) = er at *
    have hvk0 : 0 ≤ v.k := by omega
    generalize v.k = vk at *
    clear up3 hr hok hl hm hg ha e4 hne hlp hv d0 d0' hmv hk3 hkl hgb
    cases b
    · have hx := hx5 rfl
      subst hx
      have hk : 4 ≤ k := by have : ¬ k < 4 := by simpa using hb4
                            omega
      clear hcv hx5 hb4
      go_enter Tryd.func7, Tryd.ntmps7
      go_wp2_with fail
      refine (HX.out _).mono ?_
      rintro e w1 ⟨rfl, hb1⟩
      go_wp2_with fail
      refine (HG.out _ (by (with_reducible repeat (first | exact Below.refl _ _ | exact hb1 | refine bto0 ?_ hb1 | refine bdr ?_ _ | refine Below.drew ?_ | refine ball ?_ _)))).mono ?_
      rintro e w' ⟨rfl, rfl⟩
      go_wp2_with fail
      refine (HM.out _ (by (with_reducible repeat (first | exact Below.refl _ _ | exact hb1 | refine bto0 ?_ hb1 | refine bdr ?_ _ | refine Below.drew ?_ | refine ball ?_ _)))).mono ?_
      rintro e w2 ⟨rfl, hb2⟩
      go_wp2_with fail
      refine (HP.out _ (by (with_reducible repeat (first | exact Below.refl _ _ | exact hb2 | exact hb1 | refine bto0 ?_ hb2 | refine bto0 ?_ hb1 | refine bdr ?_ _ | refine Below.drew ?_ | refine ball ?_ _)))).mono ?_
      rintro e w3 ⟨rfl, hb3⟩
      go_wp2_with fail
      refine (HF.out _ (by (with_reducible repeat (first | exact Below.refl _ _ | exact hb3 | exact hb2 | exact hb1 | refine bto0 ?_ hb3 | refine bto0 ?_ hb2 | refine bto0 ?_ hb1 | refine bdr ?_ _ | refine Below.drew ?_ | refine ball ?_ _)))).mono ?_
      rintro e w4 ⟨rfl, hb4⟩
      have c0 := D0.out w4 (by (with_reducible repeat (first | exact Below.refl _ _ | exact hb4 | exact hb3 | exact hb2 | exact hb1 | refine bto0 ?_ hb4 | refine bto0 ?_ hb3 | refine bto0 ?_ hb2 | refine bto0 ?_ hb1 | refine bdr ?_ _ | refine Below.drew ?_ | refine ball ?_ _)))
      go_wp2_with fail
      refine (LS.out _).mono ?_
      rintro e w5 ⟨rfl, hb5⟩
      go_wp2_with fail
      refine (HB.out _).mono ?_
      rintro e w' ⟨rfl, rfl⟩
      go_wp2
      go_ret
      exact ⟨rfl, by (with_reducible repeat (first | exact Below.refl _ _ | exact hb5 | exact hb4 | exact hb3 | exact hb2 | exact hb1 | refine bto0 ?_ hb5 | refine bto0 ?_ hb4 | refine bto0 ?_ hb3 | refine bto0 ?_ hb2 | refine bto0 ?_ hb1 | refine bdr ?_ _ | refine Below.drew ?_ | refine ball ?_ _))⟩
    · have hcv' := hcv rfl
      have hk : k ≤ 3 := by have : k < 4 := by simpa using hb4
                            omega
      clear hcv hx5 hb4
      go_enter Tryd.func7, Tryd.ntmps7
      go_wp2_with fail
      refine (HX.out _).mono ?_
      rintro e w1 ⟨rfl, hb1⟩
      go_wp2_with fail
      refine (HG.out _ (by (with_reducible repeat (first | exact Below.refl _ _ | exact hb1 | refine bto0 ?_ hb1 | refine bdr ?_ _ | refine Below.drew ?_ | refine ball ?_ _)))).mono ?_
      rintro e w' ⟨rfl, rfl⟩
      go_wp2_with fail
      refine (HM.out _ (by (with_reducible repeat (first | exact Below.refl _ _ | exact hb1 | refine bto0 ?_ hb1 | refine bdr ?_ _ | refine Below.drew ?_ | refine ball ?_ _)))).mono ?_
      rintro e w2 ⟨rfl, hb2⟩
      go_wp2_with fail
      refine (HP.out _ (by (with_reducible repeat (first | exact Below.refl _ _ | exact hb2 | exact hb1 | refine bto0 ?_ hb2 | refine bto0 ?_ hb1 | refine bdr ?_ _ | refine Below.drew ?_ | refine ball ?_ _)))).mono ?_
      rintro e w3 ⟨rfl, hb3⟩
      go_wp2_with fail
      refine (HF.out _ (by (with_reducible repeat (first | exact Below.refl _ _ | exact hb3 | exact hb2 | exact hb1 | refine bto0 ?_ hb3 | refine bto0 ?_ hb2 | refine bto0 ?_ hb1 | refine bdr ?_ _ | refine Below.drew ?_ | refine ball ?_ _)))).mono ?_
      rintro e w4 ⟨rfl, hb4⟩
      have c0 := D0.out w4 (by (with_reducible repeat (first | exact Below.refl _ _ | exact hb4 | exact hb3 | exact hb2 | exact hb1 | refine bto0 ?_ hb4 | refine bto0 ?_ hb3 | refine bto0 ?_ hb2 | refine bto0 ?_ hb1 | refine bdr ?_ _ | refine Below.drew ?_ | refine ball ?_ _)))
      go_wp2_with fail
      refine (LS.out _).mono ?_
      rintro e w5 ⟨rfl, hb5⟩
      go_wp2_with fail
      refine (HB.out _).mono ?_
      rintro e w' ⟨rfl, rfl⟩
      go_wp2
      go_ret
      exact ⟨rfl, by (with_reducible repeat (first | exact Below.refl _ _ | exact hb5 | exact hb4 | exact hb3 | exact hb2 | exact hb1 | refine bto0 ?_ hb5 | refine bto0 ?_ hb4 | refine bto0 ?_ hb3 | refine bto0 ?_ hb2 | refine bto0 ?_ hb1 | refine bdr ?_ _ | refine Below.drew ?_ | refine ball ?_ _))⟩
end Go.Proofs.YtohaplmbgipbcaaDoor
