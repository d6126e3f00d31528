/-
  The law LogicTurned: its walk.
-/
import Derived.Test.YtegnoheaglnhhaaLoc
namespace Go.Proofs.Ytegnoheaglnhhaa
open Go.RowKit

theorem not2_any (a : Int) (h0 : 0 ≤ a) (w : World) : Calls Try.prog 16 #[.int .u8 (nt a)] w fun e w' => e = .returned (.int .u8 (kn a)) ∧ w = w' := by
  rw [← nt_nt h0]; exact not_any _ w
theorem ntAnd (l : List Int) (h : ∀ x ∈ l, 0 ≤ x) : nt (andL l) = orL (l.map nt) := by
  unfold orL
  congr 1
  unfold andL
  rw [List.foldl_map]
  have : ∀ (l : List Int) (b : Int), (∀ x ∈ l, 0 ≤ x) → l.foldl (fun m a => min m (kn a)) b = l.foldl (fun m a => min m (nt (nt a))) b := by
    intro l
    induction l with
    | nil => intro b _; rfl
    | cons x r ih => intro b hb; simp only [List.foldl_cons]; rw [nt_nt (hb x (by simp)), ih _ (fun y hy => hb y (by simp [hy]))]
  exact this l 3 h
theorem ntOr (l : List Int) (h : ∀ x ∈ l, 0 ≤ x) : nt (orL l) = andL (l.map nt) := by
  have hb := foldmin nt (fun _ => nt_bd) l h 3 (by omega)
  have h3 : 0 ≤ l.foldl (fun m a => min m (nt a)) 3 ∧ l.foldl (fun m a => min m (nt a)) 3 ≤ 3 := by rw [hb]; split <;> (try split) <;> (try split) <;> omega
  unfold orL
  rw [nt_nt h3.1]
  have e : kn (l.foldl (fun m a => min m (nt a)) 3) = l.foldl (fun m a => min m (nt a)) 3 := by unfold kn; rw [if_neg (by omega)]
  rw [e]
  unfold andL
  rw [List.foldl_map]
  have : ∀ (l : List Int) (b : Int), (∀ x ∈ l, 0 ≤ x) → l.foldl (fun m a => min m (nt a)) b = l.foldl (fun m a => min m (kn (nt a))) b := by
    intro l
    induction l with
    | nil => intro b _; rfl
    | cons x r ih =>
      intro b hb
      have hx := nt_bd (hb x (by simp))
      have : kn (nt x) = nt x := by unfold kn; rw [if_neg (by omega)]
      simp only [List.foldl_cons]; rw [this, ih _ (fun y hy => hb y (by simp [hy]))]
  exact this l 3 h
theorem ntAnd_any (l : List Int) (h : ∀ x ∈ l, 0 ≤ x) (w : World) : Calls Try.prog 16 #[.int .u8 (andL l)] w fun e w' => e = .returned (.int .u8 (orL (l.map nt))) ∧ w = w' := by
  rw [← ntAnd l h]; exact not_any _ w
theorem ntOr_any (l : List Int) (h : ∀ x ∈ l, 0 ≤ x) (w : World) : Calls Try.prog 16 #[.int .u8 (orL l)] w fun e w' => e = .returned (.int .u8 (andL (l.map nt))) ∧ w = w' := by
  rw [← ntOr l h]; exact not_any _ w

theorem Try.infoTruth : (Try.prog.info? 23).map (fun i => (i.zero, i.size, i.bytes)) = some (some (.int .u8 0), 1, 1) := by kernel_rfl

set_option maxHeartbeats 1000000 in
theorem logicTurned_any (A : Option Addr) (n c : Nat) (l : List Int) (w : World) (hr : Reads w w.heap.size 1 A n (vU8 l)) (hb : ∀ x ∈ l, 0 ≤ x ∧ x ≤ 255) :
    Calls Try.prog 5 #[.slice A n c] w (RetB w (.bool true)) := by
  obtain ⟨i0, hi0, hz0, hz1, hz2⟩ := int_info8 Try.infoTruth
  have hl : l.length = n := by have := hr.1; rw [vU8_len] at this; omega
  have Hl := Lib.hid hl; clear hl
  have hp : ∀ x ∈ l, 0 ≤ x := fun x hx => (hb x hx).1
  have Hb := Lib.hid hb; clear hb
  have Hp := Lib.hid hp; clear hp
  by_cases hn : 3000 < n
  · go_enter Try.func5, Try.ntmps5
    go_wp2_with (go_at_call 10; refine (lfixed_any _).mono ?_; rintro e w1 ⟨rfl, hb1⟩)
    go_ret
    exact ⟨rfl, hb1⟩
  · go_enter Try.func5, Try.ntmps5
    go_wp2
    go_loopw [3, 12] (fun v i wr => ∃ k : Nat, k ≤ n ∧ i = .int .i64 k ∧ wr.ownsRow w.heap.size 23 1 v k (vU8 ((l.take k).map nt)) ∧ Below w.heap.size w wr) (fun _ i _ => n - (intOf i).toNat)
    case atStart => exact ⟨0, Nat.zero_le _, rfl, ⟨by simp [vU8], .inl ⟨rfl, rfl⟩⟩, Below.refl _ _⟩
    case round =>
      obtain ⟨k, hk, rfl, hown, hbw⟩ := hrel
      have hbz := hbw.size
      by_cases hlt : k < n
      · obtain ⟨ad, u, rfl, _, hx, hc⟩ := (hr.below hbw).at_ hlt
        obtain ⟨x, hx1, rfl⟩ := vU8_at hx
        obtain ⟨hb0, hb1⟩ := Hb.out x (List.mem_of_getElem? hx1)
        have Hs := Lib.hid (map_take_succ nt l k x hx1)
        clear hx hx1 hr
        obtain ⟨x1, x2⟩ := nt_bd hb0
        obtain ⟨y1, y2⟩ := kn_bd hb0
        have H1 : ∀ u ∈ [Value.int .u8 (nt x)], u.oneCell' = true := by simp [Value.oneCell']
        go_wp2_with (first
          | (go_at_call 18; refine (rtold_any _ hb0 hb1 _).mono ?_; rintro e w' ⟨rfl, rfl⟩)
          | (go_at_call 16; (with_reducible refine (not2_any _ hb0 _).mono ?_); rintro e w' ⟨rfl, rfl⟩)
          | (go_at_call 16; (with_reducible refine (not_any _ _).mono ?_); rintro e w' ⟨rfl, rfl⟩)
          | (at_builtin; refine wpList_push rfl _ _ 22 rfl w.heap.size 23 i0 (.int .u8 0) 1 1 Try.underlying22 hi0 hz0 hz1 hz2 rfl (by decide) u3 k _ rfl hown rfl rfl rfl H1 (by omega) (by omega) hbz ?_; intro v1 w1 hown1 hbb1))
        go_roundw
        case rel => exact ⟨k + 1, by omega, by go_num, by rw [Hs.out]; simpa [vU8] using hown1, hbb1 _ _ (Nat.le_refl _) hbw⟩
        case measure => simp [intOf]; omega
      · have : k = n := by omega
        subst this
        have H : Hid (List.take k l = l) := List.take_of_length_le (by rw [Hl.out]; omega)
        have hform : ∃ A1 c1, u3 = .slice A1 k c1 ∧ k ≤ c1 := by
          rcases hown.2 with ⟨rfl, h0⟩ | ⟨g, cap, cur, rfl, _, _, hnc, _⟩
          · exact ⟨none, 0, by rw [h0], by omega⟩
          · exact ⟨_, _, rfl, hnc⟩
        obtain ⟨A1, c1, rfl, hc1⟩ := hform
        have hn' : k ≤ 1000000 := by omega
        rw [H.out] at hown
        have hrn := Reads.of_own hown
        have hrl := (hr.below hbw).more hbz
        clear hown hr
        go_wp2_with fail
        refine (lfixed_any _).mono ?_; rintro e w1 ⟨rfl, hb1⟩
        have hrn1 := (hrn.below hb1)
        have hrl1 := (hrl.below hb1)
        go_wp2_with (first
          | (go_at_call 11; (with_reducible refine (and_any _ _ _ l _ _ hrl1 hn').mono ?_); rintro e w' ⟨rfl, rfl⟩)
          | (go_at_call 11; (with_reducible refine (and_any _ _ _ (l.map nt) _ _ hrn1 hn').mono ?_); rintro e w' ⟨rfl, rfl⟩)
          | (go_at_call 14; (with_reducible refine (or_any _ _ _ l _ _ hrl1 hn').mono ?_); rintro e w' ⟨rfl, rfl⟩)
          | (go_at_call 14; (with_reducible refine (or_any _ _ _ (l.map nt) _ _ hrn1 hn').mono ?_); rintro e w' ⟨rfl, rfl⟩)
          | (go_at_call 16; (with_reducible refine (ntAnd_any l Hp.out _).mono ?_); rintro e w' ⟨rfl, rfl⟩)
          | (go_at_call 16; (with_reducible refine (ntOr_any l Hp.out _).mono ?_); rintro e w' ⟨rfl, rfl⟩))
        go_ret
        exact ⟨rfl, hbw.trans (hb1.mono hbz)⟩

end Go.Proofs.Ytegnoheaglnhhaa
