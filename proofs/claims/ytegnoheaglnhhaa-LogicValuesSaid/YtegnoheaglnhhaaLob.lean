/-
  Contracts of the reference of layer 2, and of the law's helpers.
-/
import Derived.Test.YtegnoheaglnhhaaLoa
namespace Go.Proofs.Ytegnoheaglnhhaa
open Go.RowKit

/-- A truth as it counts, as a number. -/
def hasB (l : List Int) (t : Int) : Bool := l.any (fun x => x == t)
def rAnd (l : List Int) : Int := if hasB l 0 then 0 else if hasB l 1 then 1 else if hasB l 2 then 2 else 3
def rOr (l : List Int) : Int := if hasB l 3 then 3 else if hasB l 1 then 1 else if hasB l 2 then 2 else 0
def rNot (a : Int) : Int := if a = 0 then 3 else if a = 1 then 1 else if a = 2 then 2 else 0

set_option maxHeartbeats 400000 in
theorem rtold_any (a : Int) (h0 : 0 ≤ a) (h1 : a ≤ 255) (w : World) :
    Calls Try.prog 18 #[.int .u8 a] w fun e w' => e = .returned (.int .i64 (kn a)) ∧ w = w' := by
  unfold kn
  by_cases h : 3 < a
  all_goals
    go_enter Try.func18, Try.ntmps18
    go_wp2
    go_ret
    exact ⟨rfl, rfl⟩

set_option maxHeartbeats 400000 in
theorem rnot_any (a : Int) (h0 : 0 ≤ a) (h1 : a ≤ 3) (w : World) :
    Calls Try.prog 17 #[.int .i64 a] w (RetB w (.int .i64 (rNot a))) := by
  have hc : a = 0 ∨ a = 1 ∨ a = 2 ∨ a = 3 := by omega
  rcases hc with rfl | rfl | rfl | rfl
  all_goals
    go_enter Try.func17, Try.ntmps17
    go_wp2
    go_ret
    exact ⟨rfl, (Below.refl _ _).alloc (Nat.le_refl _) _⟩

set_option maxHeartbeats 400000 in
theorem has_any (A : Option Addr) (n c : Nat) (t : Int) (l : List Int) (w : World) (B : Nat) (hr : Reads w B 1 A n (vI64 l)) (hn : n ≤ 1000000) :
    Calls Try.prog 38 #[.slice A n c, .int .i64 t] w fun e w' => e = .returned (.bool (hasB l t)) ∧ w = w' := by
  have hl : l.length = n := by have := hr.1; rw [vI64_len] at this; omega
  go_enter Try.func38, Try.ntmps38
  have Hl := Lib.hid hl; clear hl
  go_wp2
  go_loop [8] (fun i => ∃ k : Nat, k ≤ n ∧ i = .int .i64 k ∧ hasB (l.take k) t = false) (fun i => n - (intOf i).toNat)
  case atStart => exact ⟨0, Nat.zero_le _, rfl, rfl⟩
  case round =>
    obtain ⟨k, hk, rfl, hno⟩ := hrel
    have Hno := Lib.hid hno; clear hno
    by_cases hlt : k < n
    · obtain ⟨ad, u, rfl, _, hx, hc⟩ := hr.at_ hlt
      obtain ⟨x, hx1, rfl⟩ := vI64_at hx
      have Hs : Hid (hasB (l.take (k + 1)) t = (hasB (l.take k) t || (x == t))) := by
        show _ = _
        unfold hasB; rw [List.take_add_one, hx1]; simp
      have Hx := Lib.hid hx1
      clear hx hx1 hr
      by_cases hxt : x = t
      · subst hxt
        go_wp2
        go_ret
        refine ⟨ret_bool ?_, rfl⟩
        unfold hasB
        rw [List.any_eq_true.2 ⟨x, List.mem_of_getElem? Hx.out, by simp⟩]
      · have hne : (x == t) = false := by simpa using hxt
        go_wp2
        go_round
        case rel => exact ⟨k + 1, by omega, by go_num, by rw [Hs.out, Hno.out, hne]; rfl⟩
        case measure => simp [intOf]; omega
    · go_wp2
      go_ret
      have : k = n := by omega
      subst this
      exact ⟨ret_bool (by have := Hno.out; rw [List.take_of_length_le (by rw [Hl.out]; omega)] at this; rw [this]), rfl⟩

set_option maxHeartbeats 400000 in
theorem rand_any (A : Option Addr) (n c : Nat) (l : List Int) (w : World) (B : Nat) (hr : Reads w B 1 A n (vI64 l)) (hn : n ≤ 1000000) :
    Calls Try.prog 12 #[.slice A n c] w fun e w' => e = .returned (.int .i64 (rAnd l)) ∧ w = w' := by
  go_enter Try.func12, Try.ntmps12
  go_wp2_with (go_at_call 38; refine (has_any _ _ _ _ _ _ _ hr hn).mono ?_; rintro e w' ⟨rfl, rfl⟩)
  all_goals (go_ret; refine ⟨ret_int ?_, rfl⟩; simp [rAnd, *])

set_option maxHeartbeats 400000 in
theorem ror_any (A : Option Addr) (n c : Nat) (l : List Int) (w : World) (B : Nat) (hr : Reads w B 1 A n (vI64 l)) (hn : n ≤ 1000000) :
    Calls Try.prog 15 #[.slice A n c] w fun e w' => e = .returned (.int .i64 (rOr l)) ∧ w = w' := by
  go_enter Try.func15, Try.ntmps15
  go_wp2_with (go_at_call 38; refine (has_any _ _ _ _ _ _ _ hr hn).mono ?_; rintro e w' ⟨rfl, rfl⟩)
  all_goals (go_ret; refine ⟨ret_int ?_, rfl⟩; simp [rOr, *])

theorem Try.infoInt : (Try.prog.info? 3).map (fun i => (i.zero, i.size, i.bytes)) = some (some (.int .i64 0), 1, 8) := by kernel_rfl

set_option maxHeartbeats 400000 in
theorem told_any (A : Option Addr) (n c : Nat) (l : List Int) (w : World) (hr : Reads w w.heap.size 1 A n (vU8 l)) (hn : n ≤ 1000000) (hb : ∀ x ∈ l, 0 ≤ x ∧ x ≤ 255) :
    Calls Try.prog 13 #[.slice A n c] w (RetRow w n (vI64 (l.map kn))) := by
  obtain ⟨i0, hi0, hz0, hz1, hz2⟩ := int_info8 Try.infoInt
  have hl : l.length = n := by have := hr.1; rw [vU8_len] at this; omega
  have Hl := Lib.hid hl; clear hl
  have Hb := Lib.hid hb; clear hb
  go_enter Try.func13, Try.ntmps13
  go_wp2
  go_loopw [3, 8] (fun v i wr => ∃ k : Nat, k ≤ n ∧ i = .int .i64 k ∧ wr.ownsRow w.heap.size 3 1 v k (vI64 ((l.take k).map kn)) ∧ Below w.heap.size w wr) (fun _ i _ => n - (intOf i).toNat)
  case atStart => exact ⟨0, Nat.zero_le _, rfl, ⟨by simp [vI64], .inl ⟨rfl, rfl⟩⟩, Below.refl _ _⟩
  case round =>
    obtain ⟨k, hk, rfl, hown, hbw⟩ := hrel
    by_cases hlt : k < n
    · obtain ⟨ad, u, rfl, _, hx, hc⟩ := (hr.below hbw).at_ hlt
      obtain ⟨x, hx1, rfl⟩ := vU8_at hx
      have hbd := Hb.out x (List.mem_of_getElem? hx1)
      have Hs := Lib.hid (map_take_succ kn l k x hx1)
      clear hx hx1 hr
      obtain ⟨hb0, hb1⟩ := hbd
      have hbz := hbw.size
      have H1 : ∀ u ∈ [Value.int .i64 (kn x)], u.oneCell' = true := by simp [Value.oneCell']
      go_wp2_with (first
        | (go_at_call 18; refine (rtold_any _ hb0 hb1 _).mono ?_; rintro e w' ⟨rfl, rfl⟩)
        | (at_builtin; go_loud (refine wpList_push rfl _ _ 27 rfl w.heap.size 3 i0 (.int .i64 0) 1 8 Try.underlying27 hi0 hz0 hz1 hz2 rfl (by decide) u3 k _ rfl hown rfl rfl rfl H1 (by omega) (by omega) hbz ?_); intro v1 w1 hown1 hb1))
      go_roundw
      case rel => exact ⟨k + 1, by omega, by go_num, by rw [Hs.out]; simpa [vI64] using hown1, hb1 _ _ (Nat.le_refl _) hbw⟩
      case measure => simp [intOf]; omega
    · have : k = n := by omega
      subst this
      have H : Hid (List.take k l = l) := List.take_of_length_le (by rw [Hl.out]; omega)
      have hform : ∃ A1 c1, u3 = .slice A1 k c1 ∧ k ≤ c1 := by
        rcases hown.2 with ⟨rfl, h0⟩ | ⟨g, cap, cur, rfl, _, _, hnc, _⟩
        · exact ⟨none, 0, by rw [h0], by omega⟩
        · exact ⟨_, _, rfl, hnc⟩
      obtain ⟨A1, c1, rfl, hc1⟩ := hform
      go_wp2
      go_ret
      rw [H.out] at hown
      exact ⟨A1, c1, rfl, Reads.of_own hown, hc1, hbw⟩

end Go.Proofs.Ytegnoheaglnhhaa
