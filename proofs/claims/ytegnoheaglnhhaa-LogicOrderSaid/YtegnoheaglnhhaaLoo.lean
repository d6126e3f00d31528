/-
  The law LogicOrder: its walk.
-/
import Derived.Test.YtegnoheaglnhhaaLot
import Derived.Deep.RegionHeld3
import Derived.Deep.DrawnRows
import Derived.IntWalk
namespace Go.Proofs.Ytegnoheaglnhhaa
open Go.RowKit
attribute [local go_sem ↓] Go.wp_at_zero Go.wp_at_succ

theorem foldmin_min (f : Int → Int) (l : List Int) : ∀ b, l.foldl (fun m a => min m (f a)) b = min b (l.foldl (fun m a => min m (f a)) b) := by
  induction l with
  | nil => intro b; simp
  | cons x r ih =>
    intro b
    simp only [List.foldl_cons]
    have := ih (min b (f x))
    omega
theorem foldmin_start (f : Int → Int) (l : List Int) : ∀ b c, l.foldl (fun m a => min m (f a)) (min b c) = min b (l.foldl (fun m a => min m (f a)) c) := by
  induction l with
  | nil => intro b c; rfl
  | cons x r ih =>
    intro b c
    simp only [List.foldl_cons]
    rw [show min (min b c) (f x) = min b (min c (f x)) from by omega]
    exact ih b _
theorem foldmin_app (f : Int → Int) (a b : List Int) (ha : a.foldl (fun m a => min m (f a)) 3 ≤ 3) : (a ++ b).foldl (fun m a => min m (f a)) 3 = min (a.foldl (fun m a => min m (f a)) 3) (b.foldl (fun m a => min m (f a)) 3) := by
  rw [List.foldl_append]
  have := foldmin_start f b (a.foldl (fun m a => min m (f a)) 3) 3
  rw [← this]
  congr 1
  omega
theorem fold_le (f : Int → Int) (l : List Int) : ∀ b, l.foldl (fun m a => min m (f a)) b ≤ b := by
  intro b
  have := foldmin_min f l b
  omega
theorem andL_swap (a b : List Int) : andL (a ++ b) = andL (b ++ a) := by
  unfold andL
  rw [foldmin_app kn a b (fold_le _ _ _), foldmin_app kn b a (fold_le _ _ _)]
  omega
theorem orL_swap (a b : List Int) : orL (a ++ b) = orL (b ++ a) := by
  unfold orL
  rw [foldmin_app nt a b (fold_le _ _ _), foldmin_app nt b a (fold_le _ _ _)]
  congr 1
  omega
theorem kn_id {a : Int} (h1 : a ≤ 3) : kn a = a := by unfold kn; rw [if_neg (by omega)]
theorem andL_two (a b : List Int) : andL [andL a, andL b] = andL (a ++ b) := by
  have h1 := fold_le kn a 3
  have h2 := fold_le kn b 3
  have e : andL (a ++ b) = min (andL a) (andL b) := foldmin_app kn a b h1
  rw [e]
  have h1' : andL a ≤ 3 := h1
  have h2' : andL b ≤ 3 := h2
  show min (min 3 (kn (andL a))) (kn (andL b)) = _
  rw [kn_id h1', kn_id h2']
  omega
theorem orL_two (a b : List Int) (ha : ∀ x ∈ a, 0 ≤ x) (hb : ∀ x ∈ b, 0 ≤ x) : orL [orL a, orL b] = orL (a ++ b) := by
  have h1 := fold_le nt a 3
  have h2 := fold_le nt b 3
  have f1 := foldmin nt (fun _ => nt_bd) a ha 3 (by omega)
  have f2 := foldmin nt (fun _ => nt_bd) b hb 3 (by omega)
  have g1 : 0 ≤ a.foldl (fun m a => min m (nt a)) 3 := by rw [f1]; split <;> (try split) <;> (try split) <;> omega
  have g2 : 0 ≤ b.foldl (fun m a => min m (nt a)) 3 := by rw [f2]; split <;> (try split) <;> (try split) <;> omega
  unfold orL
  rw [foldmin_app nt a b h1]
  show nt (min (min 3 (nt (nt _))) (nt (nt _))) = _
  rw [nt_nt g1, nt_nt g2, kn_id h1, kn_id h2]
  congr 1
  omega

theorem and_sw (A : Option Addr) (n c k : Nat) (l : List Int) (w : World) (B : Nat) (hr : Reads w B 1 A n (vU8 (l.drop k ++ l.take k))) (hn : n ≤ 1000000) :
    Calls Try.prog 11 #[.slice A n c] w fun e w' => e = .returned (.int .u8 (andL l)) ∧ w = w' := by
  have := and_any A n c _ w B hr hn
  rwa [andL_swap, List.take_append_drop] at this
theorem or_sw (A : Option Addr) (n c k : Nat) (l : List Int) (w : World) (B : Nat) (hr : Reads w B 1 A n (vU8 (l.drop k ++ l.take k))) (hn : n ≤ 1000000) :
    Calls Try.prog 14 #[.slice A n c] w fun e w' => e = .returned (.int .u8 (orL l)) ∧ w = w' := by
  have := or_any A n c _ w B hr hn
  rwa [orL_swap, List.take_append_drop] at this
theorem and_tw (l : List Int) (k : Nat) (w : World) (e : TypeId) (g : Nat) (hg : g = w.heap.size) : Calls Try.prog 11 #[.slice (some ⟨g, 0, none⟩) 2 2] (w.alloc (.cells #[.int .u8 (andL (l.take k)), .int .u8 (andL (l.drop k))] e)) fun e' w' => e' = .returned (.int .u8 (andL l)) ∧ w.alloc (.cells #[.int .u8 (andL (l.take k)), .int .u8 (andL (l.drop k))] e) = w' := by
  have := and_any _ 2 2 [andL (l.take k), andL (l.drop k)] _ _ (reads_at w #[.int .u8 (andL (l.take k)), .int .u8 (andL (l.drop k))] e hg rfl rfl) (by omega)
  rwa [andL_two, List.take_append_drop] at this
theorem or_tw (l : List Int) (hp : ∀ x ∈ l, 0 ≤ x) (k : Nat) (w : World) (e : TypeId) (g : Nat) (hg : g = w.heap.size) : Calls Try.prog 14 #[.slice (some ⟨g, 0, none⟩) 2 2] (w.alloc (.cells #[.int .u8 (orL (l.take k)), .int .u8 (orL (l.drop k))] e)) fun e' w' => e' = .returned (.int .u8 (orL l)) ∧ w.alloc (.cells #[.int .u8 (orL (l.take k)), .int .u8 (orL (l.drop k))] e) = w' := by
  have := or_any _ 2 2 [orL (l.take k), orL (l.drop k)] _ _ (reads_at w #[.int .u8 (orL (l.take k)), .int .u8 (orL (l.drop k))] e hg rfl rfl) (by omega)
  rwa [orL_two _ _ (fun x hx => hp x (List.mem_of_mem_take hx)) (fun x hx => hp x (List.mem_of_mem_drop hx)), List.take_append_drop] at this

set_option maxHeartbeats 1000000 in
theorem logicOrder_any (A : Option Addr) (n c : Nat) (l : List Int) (b : Nat) (w : World) (hr : Reads w w.heap.size 1 A n (vU8 l)) (hb : ∀ x ∈ l, 0 ≤ x ∧ x ≤ 255) (hnc : n ≤ c) (_hcm : c ≤ maxLen) (hb1 : b ≤ 255) :
    Calls Try.prog 4 #[.slice A n c, .int .u8 b] w (RetB w (.bool true)) := by
  obtain ⟨i0, hi0, hz0, hz1, hz2⟩ := int_info8 Try.infoTruth
  have hl : l.length = n := by have := hr.1; rw [vU8_len] at this; omega
  have Hl := Lib.hid hl; clear hl
  have hp : ∀ x ∈ l, 0 ≤ x := fun x hx => (hb x hx).1
  have Hb := Lib.hid hb; clear hb
  have Hp := Lib.hid hp; clear hp
  by_cases hn : 3000 < n
  · go_enter Try.func4, Try.ntmps4
    go_wp2_with (go_at_call 10; refine (lfixed_any _).mono ?_; rintro e w1 ⟨rfl, hb1⟩)
    go_ret
    exact ⟨rfl, hb1⟩
  · by_cases h0 : n = 0
    · subst h0
      go_enter Try.func4, Try.ntmps4
      go_wp2_with (go_at_call 10; refine (lfixed_any _).mono ?_; rintro e w1 ⟨rfl, hb1⟩)
      go_ret
      exact ⟨rfl, hb1⟩
    · have hn0 : ((n : Int) == 0) = false := by simp; omega
      have hpos : (0 : Int) < n := by omega
      obtain ⟨k, hk⟩ : ∃ k, k = b % n := ⟨_, rfl⟩
      have hkn : k < n := by rw [hk]; exact Nat.mod_lt _ (by omega)
      have hm : (b : Int) % (n : Int) = (k : Int) := by rw [hk]; omega
      clear hk
      obtain ⟨ad, _, rfl, _, _, _⟩ := hr.at_ (show 0 < n by omega)
      have hv1 : ∀ u ∈ vU8 (l.drop k), u.oneCell' = true := vU8_one _
      have hv2 : ∀ u ∈ vU8 (l.take k), u.oneCell' = true := vU8_one _
      have r1 : Reads w w.heap.size 1 (some (ad.add k)) (n - k) (vU8 (l.drop k)) := by have := hr.dropc k (by omega); simpa [vU8] using this
      have r2 : Reads w w.heap.size 1 (some ad) k (vU8 (l.take k)) := by have := hr.takec k (by omega); simpa [vU8] using this
      have hw0 : Below w.heap.size w (w.alloc (.cells #[] 23)) := ball (Below.refl _ _) _
      have ho0 := own_empty w 23 1 rfl
      go_enter Try.func4, Try.ntmps4
      go_wp2_with (first
        | (at_builtin; refine wpList_append_any _ rfl _ _ 22 rfl w.heap.size 23 i0 (.int .u8 0) 1 1 Try.underlying22 hi0 hz0 hz1 hz2 rfl (by decide) (.slice (some ⟨w.heap.size, 0, none⟩) 0 0) 0 [] rfl ho0 w.heap.size (some (ad.add k)) (n - k) (c - k) (vU8 (l.drop k)) rfl (r1.below hw0) hv1 (by unfold maxLen; omega) (by omega) (by simp) ?_; intro v1 w1 hown1 hg1 _; simp only [Nat.zero_add, List.nil_append] at hown1; have hw1 := bgrow hw0 hg1 ho0 (Nat.le_refl _) (by simp); obtain ⟨A1, c1, rfl, hc1⟩ := own_form hown1; clear ho0 hg1)
        | (at_builtin; refine wpList_append_any _ rfl _ _ 22 rfl w.heap.size 23 i0 (.int .u8 0) 1 1 Try.underlying22 hi0 hz0 hz1 hz2 rfl (by decide) (.slice A1 (n - k) c1) (n - k) (vU8 (l.drop k)) rfl hown1 w.heap.size (some ad) k c (vU8 (l.take k)) rfl (r2.below hw1) hv2 (by unfold maxLen; omega) (by omega) hw1.size ?_; intro v2 w2 hown2 hg2 _; rw [show n - k + k = n from by omega] at hown2; have hw2 := bgrow hw1 hg2 hown1 (Nat.le_refl _) hw1.size; obtain ⟨A2, c2, rfl, hc2⟩ := own_form hown2; clear hown1 hg2)
        | fail)
      have e2 : vU8 (l.drop k) ++ vU8 (l.take k) = vU8 (l.drop k ++ l.take k) := by simp [vU8]
      rw [e2] at hown2
      clear e2
      have rm := Reads.of_own hown2
      clear hown2
      have hn' : n ≤ 1000000 := by omega
      have hr2 := (hr.below hw2)
      clear hw0 hw1
      go_wp2_with (first
        | (go_at_call 11; (with_reducible refine (and_sw _ _ _ k l _ _ rm hn').mono ?_); rintro e w' ⟨rfl, rfl⟩)
        | (go_at_call 11; (with_reducible refine (and_any _ _ _ l _ _ hr2 hn').mono ?_); rintro e w' ⟨rfl, rfl⟩)
        | (go_at_call 14; (with_reducible refine (or_sw _ _ _ k l _ _ rm hn').mono ?_); rintro e w' ⟨rfl, rfl⟩)
        | (go_at_call 14; (with_reducible refine (or_any _ _ _ l _ _ hr2 hn').mono ?_); rintro e w' ⟨rfl, rfl⟩)
        | fail)
      have z0 : (0 : Int) ≤ (k : Int) := by omega
      have z1 : (k : Int) ≤ (n : Int) := by omega
      have z2 : (n : Int) ≤ (c : Int) := by omega
      have z3 : (k : Int) ≤ (c : Int) := by omega
      have Hr1 := Lib.hid r1
      have Hr2 := Lib.hid r2
      clear r1 r2
      have hz2 := hw2.size
      go_region_held3 (fun w' => Below w.heap.size w w')
        (first | exact hw2.drew | exact bto0 hw2.drew hb3 | (exact ball (by assumption) _) | assumption)
        (first
          | (go_at_call 10; refine (lfixed_any _).mono ?_; rintro e w3 ⟨rfl, hb3⟩)
          | (go_at_call 11; (with_reducible refine (and_tw l k _ _ _ (by simp)).mono ?_); rintro e w' ⟨rfl, rfl⟩)
          | (go_at_call 14; (with_reducible refine (or_tw l Hp.out k _ _ _ (by simp)).mono ?_); rintro e w' ⟨rfl, rfl⟩)
          | (go_at_call 11; (with_reducible refine (and_any (some ad) n c l _ _ (hr.below (by assumption)) hn').mono ?_); rintro e w' ⟨rfl, rfl⟩)
          | (go_at_call 11; (with_reducible refine (and_any (some ad) k c (l.take k) _ _ (Hr2.out.below (by assumption)) (by omega)).mono ?_); rintro e w' ⟨rfl, rfl⟩)
          | (go_at_call 11; (with_reducible refine (and_any (some (ad.add k)) (n - k) (c - k) (l.drop k) _ _ (Hr1.out.below (by assumption)) (by omega)).mono ?_); rintro e w' ⟨rfl, rfl⟩)
          | (go_at_call 14; (with_reducible refine (or_any (some ad) n c l _ _ (hr.below (by assumption)) hn').mono ?_); rintro e w' ⟨rfl, rfl⟩)
          | (go_at_call 14; (with_reducible refine (or_any (some ad) k c (l.take k) _ _ (Hr2.out.below (by assumption)) (by omega)).mono ?_); rintro e w' ⟨rfl, rfl⟩)
          | (go_at_call 14; (with_reducible refine (or_any (some (ad.add k)) (n - k) (c - k) (l.drop k) _ _ (Hr1.out.below (by assumption)) (by omega)).mono ?_); rintro e w' ⟨rfl, rfl⟩))
      go_wp2
      go_ret
      exact ⟨rfl, by assumption⟩

end Go.Proofs.Ytegnoheaglnhhaa
