/-
  The law LogicIs: its walk.
-/
import Derived.Test.YtegnoheaglnhhaaLob
namespace Go.Proofs.Ytegnoheaglnhhaa
open Go.RowKit

theorem and_12 (w : World) (e : TypeId) (g : Nat) (hg : g = w.heap.size) : Calls Try.prog 11 #[.slice (some ⟨g, 0, none⟩) 2 2] (w.alloc (.cells #[.int .u8 1, .int .u8 2] e)) fun e' w' => e' = .returned (.int .u8 1) ∧ w.alloc (.cells #[.int .u8 1, .int .u8 2] e) = w' :=
  and_any _ 2 2 [1, 2] _ _ (reads_at w _ e hg rfl rfl) (by omega)
theorem or_20 (w : World) (e : TypeId) (g : Nat) (hg : g = w.heap.size) : Calls Try.prog 14 #[.slice (some ⟨g, 0, none⟩) 2 2] (w.alloc (.cells #[.int .u8 2, .int .u8 0] e)) fun e' w' => e' = .returned (.int .u8 2) ∧ w.alloc (.cells #[.int .u8 2, .int .u8 0] e) = w' :=
  or_any _ 2 2 [2, 0] _ _ (reads_at w _ e hg rfl rfl) (by omega)
theorem and_nil (w : World) : Calls Try.prog 11 #[.slice none 0 0] w fun e' w' => e' = .returned (.int .u8 3) ∧ w = w' :=
  and_any none 0 0 [] w w.heap.size Reads.none_ (by omega)
theorem or_nil (w : World) : Calls Try.prog 14 #[.slice none 0 0] w fun e' w' => e' = .returned (.int .u8 0) ∧ w = w' :=
  or_any none 0 0 [] w w.heap.size Reads.none_ (by omega)

set_option maxHeartbeats 400000 in
theorem lfixed_any (w : World) : Calls Try.prog 10 #[] w (RetB w (.bool true)) := by
  go_enter Try.func10, Try.ntmps10
  go_wp2_with (first
    | (go_at_call 11; (with_reducible refine (and_nil _).mono ?_); rintro e w' ⟨rfl, rfl⟩)
    | (go_at_call 11; (with_reducible refine (and_12 _ _ _ (by simp)).mono ?_); rintro e w' ⟨rfl, rfl⟩)
    | (go_at_call 14; (with_reducible refine (or_nil _).mono ?_); rintro e w' ⟨rfl, rfl⟩)
    | (go_at_call 14; (with_reducible refine (or_20 _ _ _ (by simp)).mono ?_); rintro e w' ⟨rfl, rfl⟩))
  go_ret
  exact ⟨rfl, ((Below.refl _ _).alloc (Nat.le_refl _) _).alloc (by simp) _⟩

theorem kn_bd {a : Int} (h0 : 0 ≤ a) : 0 ≤ kn a ∧ kn a ≤ 3 := by unfold kn; split <;> omega
theorem nt_bd {a : Int} (h0 : 0 ≤ a) : 0 ≤ nt a ∧ nt a ≤ 3 := by
  have := kn_bd h0
  unfold nt; split <;> (try split) <;> omega
theorem rNot_kn {a : Int} (h0 : 0 ≤ a) : rNot (kn a) = nt a := by
  unfold rNot nt kn; split <;> split <;> (try split) <;> (try split) <;> (try split) <;> omega
theorem nt_nt {a : Int} (_h0 : 0 ≤ a) : nt (nt a) = kn a := by
  unfold nt kn; split <;> (try split) <;> (try split) <;> (try split) <;> (try split) <;> (try split) <;> omega

/-- The least of some truths, in the order in which they decide. -/
theorem foldmin (f : Int → Int) (hf : ∀ x, 0 ≤ x → 0 ≤ f x ∧ f x ≤ 3) (l : List Int) (h : ∀ x ∈ l, 0 ≤ x) (b : Int) (hb : 0 ≤ b ∧ b ≤ 3) :
    l.foldl (fun m a => min m (f a)) b = if b = 0 ∨ hasB (l.map f) 0 then 0 else if b = 1 ∨ hasB (l.map f) 1 then 1 else if b = 2 ∨ hasB (l.map f) 2 then 2 else 3 := by
  induction l generalizing b with
  | nil => simp [hasB]; split <;> (try split) <;> (try split) <;> omega
  | cons x r ih =>
    have hx := hf x (h x (by simp))
    simp only [List.foldl_cons, List.map_cons]
    rw [ih (fun y hy => h y (by simp [hy])) _ (by omega)]
    simp only [hasB, List.any_cons]
    have hc : f x = 0 ∨ f x = 1 ∨ f x = 2 ∨ f x = 3 := by omega
    have hd : b = 0 ∨ b = 1 ∨ b = 2 ∨ b = 3 := by omega
    rcases hc with e | e | e | e <;> rcases hd with e2 | e2 | e2 | e2 <;> simp [e, e2, Int.min_def]
theorem rAnd_told (l : List Int) (h : ∀ x ∈ l, 0 ≤ x) : rAnd (l.map kn) = andL l := by
  unfold andL
  rw [foldmin kn (fun _ => kn_bd) l h 3 (by omega)]
  simp [rAnd]
theorem any_map_nt (l : List Int) (h : ∀ x ∈ l, 0 ≤ x) (a b : Int) (hab : ∀ x, 0 ≤ x → (nt x == a) = (kn x == b)) : hasB (l.map nt) a = hasB (l.map kn) b := by
  unfold hasB
  rw [List.any_map, List.any_map]
  rw [Bool.eq_iff_iff]
  simp only [List.any_eq_true, Function.comp]
  constructor
  · rintro ⟨x, hx, e⟩; exact ⟨x, hx, by rw [← hab x (h x hx)]; exact e⟩
  · rintro ⟨x, hx, e⟩; exact ⟨x, hx, by rw [hab x (h x hx)]; exact e⟩
theorem nt_kn_eq (x : Int) (h : 0 ≤ x) : (nt x == 0) = (kn x == 3) ∧ (nt x == 1) = (kn x == 1) ∧ (nt x == 2) = (kn x == 2) ∧ (nt x == 3) = (kn x == 0) := by
  have hc : x = 0 ∨ x = 1 ∨ x = 2 ∨ x = 3 ∨ 3 < x := by omega
  rcases hc with rfl | rfl | rfl | rfl | hc
  · decide
  · decide
  · decide
  · decide
  · have e1 : nt x = 2 := by unfold nt kn; rw [if_neg (by omega), if_neg (by omega), if_pos hc]
    have e2 : kn x = 2 := by unfold kn; rw [if_pos hc]
    rw [e1, e2]; decide
theorem rOr_told (l : List Int) (h : ∀ x ∈ l, 0 ≤ x) : rOr (l.map kn) = orL l := by
  unfold orL
  rw [foldmin nt (fun _ => nt_bd) l h 3 (by omega)]
  rw [any_map_nt l h 0 3 (fun x hx => (nt_kn_eq x hx).1), any_map_nt l h 1 1 (fun x hx => (nt_kn_eq x hx).2.1), any_map_nt l h 2 2 (fun x hx => (nt_kn_eq x hx).2.2.1)]
  simp only [rOr]
  cases hasB (l.map kn) 3 <;> cases hasB (l.map kn) 1 <;> cases hasB (l.map kn) 2 <;> decide
theorem andL_bd (l : List Int) (h : ∀ x ∈ l, 0 ≤ x) : 0 ≤ andL l ∧ andL l ≤ 3 := by
  rw [← rAnd_told l h]; unfold rAnd; split <;> (try split) <;> (try split) <;> omega
theorem orL_bd (l : List Int) (h : ∀ x ∈ l, 0 ≤ x) : 0 ≤ orL l ∧ orL l ≤ 3 := by
  rw [← rOr_told l h]; unfold rOr; split <;> (try split) <;> (try split) <;> omega

theorem rand_told (A : Option Addr) (n c : Nat) (l : List Int) (h : ∀ x ∈ l, 0 ≤ x) (w : World) (B : Nat) (hr : Reads w B 1 A n (vI64 (l.map kn))) (hn : n ≤ 1000000) :
    Calls Try.prog 12 #[.slice A n c] w fun e w' => e = .returned (.int .i64 (andL l)) ∧ w = w' := by
  rw [← rAnd_told l h]; exact rand_any A n c _ w B hr hn
theorem ror_told (A : Option Addr) (n c : Nat) (l : List Int) (h : ∀ x ∈ l, 0 ≤ x) (w : World) (B : Nat) (hr : Reads w B 1 A n (vI64 (l.map kn))) (hn : n ≤ 1000000) :
    Calls Try.prog 15 #[.slice A n c] w fun e w' => e = .returned (.int .i64 (orL l)) ∧ w = w' := by
  rw [← rOr_told l h]; exact ror_any A n c _ w B hr hn
theorem rnot_kn (a : Int) (h0 : 0 ≤ a) (w : World) : Calls Try.prog 17 #[.int .i64 (kn a)] w (RetB w (.int .i64 (nt a))) := by
  rw [← rNot_kn h0]; exact rnot_any _ (kn_bd h0).1 (kn_bd h0).2 w

set_option maxHeartbeats 400000 in
theorem logicIs_any (A : Option Addr) (n c : Nat) (l : List Int) (a : Int) (w : World) (hr : Reads w w.heap.size 1 A n (vU8 l)) (hb : ∀ x ∈ l, 0 ≤ x ∧ x ≤ 255) (ha0 : 0 ≤ a) (ha1 : a ≤ 255) :
    Calls Try.prog 3 #[.slice A n c, .int .u8 a] w (RetB w (.bool true)) := by
  have hp : ∀ x ∈ l, 0 ≤ x := fun x hx => (hb x hx).1
  obtain ⟨x1, x2⟩ := andL_bd l hp
  obtain ⟨y1, y2⟩ := orL_bd l hp
  obtain ⟨z1, z2⟩ := nt_bd ha0
  have Hb := Lib.hid hb; clear hb
  have Hp := Lib.hid hp; clear hp
  by_cases hn : 3000 < n
  · go_enter Try.func3, Try.ntmps3
    go_wp2_with (go_at_call 10; refine (lfixed_any _).mono ?_; rintro e w1 ⟨rfl, hb1⟩)
    go_ret
    exact ⟨rfl, hb1⟩
  · have hn' : n ≤ 1000000 := by omega
    go_enter Try.func3, Try.ntmps3
    go_wp2_with fail
    refine (lfixed_any _).mono ?_; rintro e w1 ⟨rfl, hb1⟩
    have hr1 := (hr.below hb1).more hb1.size
    go_wp2_with fail
    refine (and_any _ _ _ l _ _ hr1 hn').mono ?_; rintro e w' ⟨rfl, rfl⟩
    go_wp2_with fail
    refine (told_any _ _ _ l _ hr1 hn' Hb.out).mono ?_; rintro e w2 ⟨A1, c1, rfl, hs2, _, hb2⟩
    have hr2 := (hr1.below hb2).more hb2.size
    go_wp2_with fail
    refine (rand_told _ _ _ l Hp.out _ _ hs2 hn').mono ?_; rintro e w' ⟨rfl, rfl⟩
    go_wp2_with fail
    refine (or_any _ _ _ l _ _ hr2 hn').mono ?_; rintro e w' ⟨rfl, rfl⟩
    go_wp2_with fail
    refine (told_any _ _ _ l _ hr2 hn' Hb.out).mono ?_; rintro e w3 ⟨A3, c3, rfl, hs3, _, hb3⟩
    go_wp2_with fail
    refine (ror_told _ _ _ l Hp.out _ _ hs3 hn').mono ?_; rintro e w' ⟨rfl, rfl⟩
    go_wp2_with fail
    refine (not_any _ _).mono ?_; rintro e w' ⟨rfl, rfl⟩
    go_wp2_with fail
    refine (rtold_any _ ha0 ha1 _).mono ?_; rintro e w' ⟨rfl, rfl⟩
    go_wp2_with fail
    refine (rnot_kn _ ha0 _).mono ?_; rintro e w4 ⟨rfl, hb4⟩
    go_wp2
    go_ret
    exact ⟨rfl, hb1.trans ((hb2.mono hb1.size).trans ((hb3.mono (Nat.le_trans hb1.size hb2.size)).trans (hb4.mono (Nat.le_trans hb1.size (Nat.le_trans hb2.size hb3.size)))))⟩

end Go.Proofs.Ytegnoheaglnhhaa
