/-
  Several texts in one: Loa Lob Loc Lov Lot Loe Nm.
-/
import Derived.Test.YtilopgfpifhccaaMta
import Derived.Test.YtilopgfpifhccaaMtb
import Derived.Test.YtilopgfpifhccaaRows
import Derived.WalkSpells
import Derived.WalkLawsBesides
import Derived.Deep.RegionHeld3
import Derived.Deep.DrawnRows
import Derived.IntWalk
/-
  Contracts of package logic: known, Not, of.
-/
namespace Go.Proofs.Ytilopgfpifhccaa
section
open Go.RowKit

def kn (a : Int) : Int := if 3 < a then 2 else a
def nt (a : Int) : Int := if a = 0 then 3 else if a = 3 then 0 else kn a

set_option maxHeartbeats 400000 in
theorem known_any (a : Int) (w : World) :
    Calls Try.prog 49 #[.int .u8 a] w fun e w' => e = .returned (.int .u8 (kn a)) ∧ w = w' := by
  unfold kn
  by_cases h : 3 < a
  · go_enter Try.func49, Try.ntmps49
    go_wp2
    go_ret
    exact ⟨rfl, rfl⟩
  · go_enter Try.func49, Try.ntmps49
    go_wp2
    go_ret
    exact ⟨rfl, rfl⟩

set_option maxHeartbeats 400000 in
theorem not_any (a : Int) (w : World) :
    Calls Try.prog 54 #[.int .u8 a] w fun e w' => e = .returned (.int .u8 (nt a)) ∧ w = w' := by
  unfold nt
  go_enter Try.func54, Try.ntmps54
  go_wp2_with (go_at_call 49; refine (known_any _ _).mono ?_; rintro e w' ⟨rfl, rfl⟩)
  all_goals (go_ret; refine ⟨?_, rfl⟩; simp_all)

def andL (l : List Int) : Int := l.foldl (fun m a => min m (kn a)) 3
def orL (l : List Int) : Int := nt (l.foldl (fun m a => min m (nt a)) 3)
set_option maxHeartbeats 400000 in
theorem and_any (A : Option Addr) (n c : Nat) (l : List Int) (w : World) (B : Nat) (hr : Reads w B 1 A n (vU8 l)) (hn : n ≤ 1000000) :
    Calls Try.prog 31 #[.slice A n c] w fun e w' => e = .returned (.int .u8 (andL l)) ∧ w = w' := by
  have hl : l.length = n := by have := hr.1; rw [vU8_len] at this; omega
  go_enter Try.func31, Try.ntmps31
  have Hl := Lib.hid hl; clear hl
  go_wp2
  go_loop [3, 8] (fun m i => ∃ k : Nat, k ≤ n ∧ i = .int .i64 k ∧ m = .int .u8 ((l.take k).foldl (fun m a => min m (kn a)) 3)) (fun _ i => n - (intOf i).toNat)
  case atStart => exact ⟨0, Nat.zero_le _, rfl, rfl⟩
  case round =>
    obtain ⟨k, hk, rfl, rfl⟩ := hrel
    by_cases hlt : k < n
    · obtain ⟨ad, u, rfl, _, hx, hc⟩ := hr.at_ hlt
      obtain ⟨x, hx1, rfl⟩ := vU8_at hx
      have Hs := Lib.hid (foldl_take_succ (fun m a => min m (kn a)) 3 l k x hx1)
      clear hx hx1 hr
      generalize (l.take k).foldl (fun m a => min m (kn a)) 3 = m at *
      go_wp2_with (go_at_call 49; refine (known_any _ _).mono ?_; rintro e w' ⟨rfl, rfl⟩)
      go_round
      case rel => exact ⟨k + 1, by omega, by go_num, val_int (by rw [Hs.out]; first | done | (split <;> omega))⟩
      case measure => simp [intOf]; omega
    · go_wp2
      go_ret
      have : k = n := by omega
      subst this
      exact ⟨ret_int (by unfold andL; rw [List.take_of_length_le (by rw [Hl.out]; omega)]), rfl⟩

set_option maxHeartbeats 400000 in
theorem or_any (A : Option Addr) (n c : Nat) (l : List Int) (w : World) (B : Nat) (hr : Reads w B 1 A n (vU8 l)) (hn : n ≤ 1000000) :
    Calls Try.prog 64 #[.slice A n c] w fun e w' => e = .returned (.int .u8 (orL l)) ∧ w = w' := by
  have hl : l.length = n := by have := hr.1; rw [vU8_len] at this; omega
  go_enter Try.func64, Try.ntmps64
  have Hl := Lib.hid hl; clear hl
  go_wp2
  go_loop [3, 8] (fun m i => ∃ k : Nat, k ≤ n ∧ i = .int .i64 k ∧ m = .int .u8 ((l.take k).foldl (fun m a => min m (nt a)) 3)) (fun _ i => n - (intOf i).toNat)
  case atStart => exact ⟨0, Nat.zero_le _, rfl, rfl⟩
  case round =>
    obtain ⟨k, hk, rfl, rfl⟩ := hrel
    by_cases hlt : k < n
    · obtain ⟨ad, u, rfl, _, hx, hc⟩ := hr.at_ hlt
      obtain ⟨x, hx1, rfl⟩ := vU8_at hx
      have Hs := Lib.hid (foldl_take_succ (fun m a => min m (nt a)) 3 l k x hx1)
      clear hx hx1 hr
      generalize (l.take k).foldl (fun m a => min m (nt a)) 3 = m at *
      go_wp2_with (go_at_call 54; refine (not_any _ _).mono ?_; rintro e w' ⟨rfl, rfl⟩)
      go_round
      case rel => exact ⟨k + 1, by omega, by go_num, val_int (by rw [Hs.out]; first | done | (split <;> omega))⟩
      case measure => simp [intOf]; omega
    · go_wp2_with (go_at_call 54; refine (not_any _ _).mono ?_; rintro e w' ⟨rfl, rfl⟩)
      go_ret
      have : k = n := by omega
      subst this
      exact ⟨ret_int (by unfold orL; rw [List.take_of_length_le (by rw [Hl.out]; omega)]), rfl⟩
end
end Go.Proofs.Ytilopgfpifhccaa
/-
  Contracts of the reference of layer 2, and of the law's helpers.
-/
namespace Go.Proofs.Ytilopgfpifhccaa
section
open Go.RowKit

/-- A truth as it counts, as a number. -/
def hasB (l : List Int) (t : Int) : Bool := l.any (fun x => x == t)
def rAnd (l : List Int) : Int := if hasB l 0 then 0 else if hasB l 1 then 1 else if hasB l 2 then 2 else 3
def rOr (l : List Int) : Int := if hasB l 3 then 3 else if hasB l 1 then 1 else if hasB l 2 then 2 else 0
def rNot (a : Int) : Int := if a = 0 then 3 else if a = 1 then 1 else if a = 2 then 2 else 0

set_option maxHeartbeats 400000 in
theorem rnot_any (a : Int) (h0 : 0 ≤ a) (h1 : a ≤ 3) (w : World) :
    Calls Try.prog 38 #[.int .i64 a] w (RetB w (.int .i64 (rNot a))) := by
  have hc : a = 0 ∨ a = 1 ∨ a = 2 ∨ a = 3 := by omega
  rcases hc with rfl | rfl | rfl | rfl
  all_goals
    go_enter Try.func38, Try.ntmps38
    go_wp2
    go_ret
    exact ⟨rfl, (Below.refl _ _).alloc (Nat.le_refl _) _⟩

set_option maxHeartbeats 400000 in
theorem has_any (A : Option Addr) (n c : Nat) (t : Int) (l : List Int) (w : World) (B : Nat) (hr : Reads w B 1 A n (vI64 l)) (hn : n ≤ 1000000) :
    Calls Try.prog 50 #[.slice A n c, .int .i64 t] w fun e w' => e = .returned (.bool (hasB l t)) ∧ w = w' := by
  have hl : l.length = n := by have := hr.1; rw [vI64_len] at this; omega
  go_enter Try.func50, Try.ntmps50
  have Hl := Lib.hid hl; clear hl
  go_wp2
  go_loop [8] (fun i => ∃ k : Nat, k ≤ n ∧ i = .int .i64 k ∧ hasB (l.take k) t = false) (fun i => n - (intOf i).toNat)
  case atStart => exact ⟨0, Nat.zero_le _, rfl, rfl⟩
  case round =>
    obtain ⟨k, hk, rfl, hno⟩ := hrel
    have Hno := Lib.hid hno; clear hno
    by_cases hlt : k < n
    · obtain ⟨ad, u, rfl, _, hx, hc⟩ := hr.at_ hlt
      obtain ⟨x, hx1, rfl⟩ := vI64_at hx
      have Hs : Hid (hasB (l.take (k + 1)) t = (hasB (l.take k) t || (x == t))) := by
        show _ = _
        unfold hasB; rw [List.take_add_one, hx1]; simp
      have Hx := Lib.hid hx1
      clear hx hx1 hr
      by_cases hxt : x = t
      · subst hxt
        go_wp2
        go_ret
        refine ⟨ret_bool ?_, rfl⟩
        unfold hasB
        rw [List.any_eq_true.2 ⟨x, List.mem_of_getElem? Hx.out, by simp⟩]
      · have hne : (x == t) = false := by simpa using hxt
        go_wp2
        go_round
        case rel => exact ⟨k + 1, by omega, by go_num, by rw [Hs.out, Hno.out, hne]; rfl⟩
        case measure => simp [intOf]; omega
    · go_wp2
      go_ret
      have : k = n := by omega
      subst this
      exact ⟨ret_bool (by have := Hno.out; rw [List.take_of_length_le (by rw [Hl.out]; omega)] at this; rw [this]), rfl⟩

set_option maxHeartbeats 400000 in
theorem rand_any (A : Option Addr) (n c : Nat) (l : List Int) (w : World) (B : Nat) (hr : Reads w B 1 A n (vI64 l)) (hn : n ≤ 1000000) :
    Calls Try.prog 33 #[.slice A n c] w fun e w' => e = .returned (.int .i64 (rAnd l)) ∧ w = w' := by
  go_enter Try.func33, Try.ntmps33
  go_wp2_with (go_at_call 50; refine (has_any _ _ _ _ _ _ _ hr hn).mono ?_; rintro e w' ⟨rfl, rfl⟩)
  all_goals (go_ret; refine ⟨ret_int ?_, rfl⟩; simp [rAnd, *])

set_option maxHeartbeats 400000 in
theorem ror_any (A : Option Addr) (n c : Nat) (l : List Int) (w : World) (B : Nat) (hr : Reads w B 1 A n (vI64 l)) (hn : n ≤ 1000000) :
    Calls Try.prog 43 #[.slice A n c] w fun e w' => e = .returned (.int .i64 (rOr l)) ∧ w = w' := by
  go_enter Try.func43, Try.ntmps43
  go_wp2_with (go_at_call 50; refine (has_any _ _ _ _ _ _ _ hr hn).mono ?_; rintro e w' ⟨rfl, rfl⟩)
  all_goals (go_ret; refine ⟨ret_int ?_, rfl⟩; simp [rOr, *])

theorem Try.infoInt : (Try.prog.info? 3).map (fun i => (i.zero, i.size, i.bytes)) = some (some (.int .i64 0), 1, 8) := by kernel_rfl
end
end Go.Proofs.Ytilopgfpifhccaa
/-
  The law LogicIs: its walk.
-/
namespace Go.Proofs.Ytilopgfpifhccaa
section
open Go.RowKit

theorem and_12 (w : World) (e : TypeId) (g : Nat) (hg : g = w.heap.size) : Calls Try.prog 31 #[.slice (some ⟨g, 0, none⟩) 2 2] (w.alloc (.cells #[.int .u8 1, .int .u8 2] e)) fun e' w' => e' = .returned (.int .u8 1) ∧ w.alloc (.cells #[.int .u8 1, .int .u8 2] e) = w' :=
  and_any _ 2 2 [1, 2] _ _ (reads_at w _ e hg rfl rfl) (by omega)
theorem or_20 (w : World) (e : TypeId) (g : Nat) (hg : g = w.heap.size) : Calls Try.prog 64 #[.slice (some ⟨g, 0, none⟩) 2 2] (w.alloc (.cells #[.int .u8 2, .int .u8 0] e)) fun e' w' => e' = .returned (.int .u8 2) ∧ w.alloc (.cells #[.int .u8 2, .int .u8 0] e) = w' :=
  or_any _ 2 2 [2, 0] _ _ (reads_at w _ e hg rfl rfl) (by omega)
theorem and_nil (w : World) : Calls Try.prog 31 #[.slice none 0 0] w fun e' w' => e' = .returned (.int .u8 3) ∧ w = w' :=
  and_any none 0 0 [] w w.heap.size Reads.none_ (by omega)
theorem or_nil (w : World) : Calls Try.prog 64 #[.slice none 0 0] w fun e' w' => e' = .returned (.int .u8 0) ∧ w = w' :=
  or_any none 0 0 [] w w.heap.size Reads.none_ (by omega)

theorem kn_bd {a : Int} (h0 : 0 ≤ a) : 0 ≤ kn a ∧ kn a ≤ 3 := by unfold kn; split <;> omega
theorem nt_bd {a : Int} (h0 : 0 ≤ a) : 0 ≤ nt a ∧ nt a ≤ 3 := by
  have := kn_bd h0
  unfold nt; split <;> (try split) <;> omega
theorem rNot_kn {a : Int} (h0 : 0 ≤ a) : rNot (kn a) = nt a := by
  unfold rNot nt kn; split <;> split <;> (try split) <;> (try split) <;> (try split) <;> omega
theorem nt_nt {a : Int} (_h0 : 0 ≤ a) : nt (nt a) = kn a := by
  unfold nt kn; split <;> (try split) <;> (try split) <;> (try split) <;> (try split) <;> (try split) <;> omega

/-- The least of some truths, in the order in which they decide. -/
theorem foldmin (f : Int → Int) (hf : ∀ x, 0 ≤ x → 0 ≤ f x ∧ f x ≤ 3) (l : List Int) (h : ∀ x ∈ l, 0 ≤ x) (b : Int) (hb : 0 ≤ b ∧ b ≤ 3) :
    l.foldl (fun m a => min m (f a)) b = if b = 0 ∨ hasB (l.map f) 0 then 0 else if b = 1 ∨ hasB (l.map f) 1 then 1 else if b = 2 ∨ hasB (l.map f) 2 then 2 else 3 := by
  induction l generalizing b with
  | nil => simp [hasB]; split <;> (try split) <;> (try split) <;> omega
  | cons x r ih =>
    have hx := hf x (h x (by simp))
    simp only [List.foldl_cons, List.map_cons]
    rw [ih (fun y hy => h y (by simp [hy])) _ (by omega)]
    simp only [hasB, List.any_cons]
    have hc : f x = 0 ∨ f x = 1 ∨ f x = 2 ∨ f x = 3 := by omega
    have hd : b = 0 ∨ b = 1 ∨ b = 2 ∨ b = 3 := by omega
    rcases hc with e | e | e | e <;> rcases hd with e2 | e2 | e2 | e2 <;> simp [e, e2, Int.min_def]
theorem rAnd_told (l : List Int) (h : ∀ x ∈ l, 0 ≤ x) : rAnd (l.map kn) = andL l := by
  unfold andL
  rw [foldmin kn (fun _ => kn_bd) l h 3 (by omega)]
  simp [rAnd]
theorem any_map_nt (l : List Int) (h : ∀ x ∈ l, 0 ≤ x) (a b : Int) (hab : ∀ x, 0 ≤ x → (nt x == a) = (kn x == b)) : hasB (l.map nt) a = hasB (l.map kn) b := by
  unfold hasB
  rw [List.any_map, List.any_map]
  rw [Bool.eq_iff_iff]
  simp only [List.any_eq_true, Function.comp]
  constructor
  · rintro ⟨x, hx, e⟩; exact ⟨x, hx, by rw [← hab x (h x hx)]; exact e⟩
  · rintro ⟨x, hx, e⟩; exact ⟨x, hx, by rw [hab x (h x hx)]; exact e⟩
theorem nt_kn_eq (x : Int) (h : 0 ≤ x) : (nt x == 0) = (kn x == 3) ∧ (nt x == 1) = (kn x == 1) ∧ (nt x == 2) = (kn x == 2) ∧ (nt x == 3) = (kn x == 0) := by
  have hc : x = 0 ∨ x = 1 ∨ x = 2 ∨ x = 3 ∨ 3 < x := by omega
  rcases hc with rfl | rfl | rfl | rfl | hc
  · decide
  · decide
  · decide
  · decide
  · have e1 : nt x = 2 := by unfold nt kn; rw [if_neg (by omega), if_neg (by omega), if_pos hc]
    have e2 : kn x = 2 := by unfold kn; rw [if_pos hc]
    rw [e1, e2]; decide
theorem rOr_told (l : List Int) (h : ∀ x ∈ l, 0 ≤ x) : rOr (l.map kn) = orL l := by
  unfold orL
  rw [foldmin nt (fun _ => nt_bd) l h 3 (by omega)]
  rw [any_map_nt l h 0 3 (fun x hx => (nt_kn_eq x hx).1), any_map_nt l h 1 1 (fun x hx => (nt_kn_eq x hx).2.1), any_map_nt l h 2 2 (fun x hx => (nt_kn_eq x hx).2.2.1)]
  simp only [rOr]
  cases hasB (l.map kn) 3 <;> cases hasB (l.map kn) 1 <;> cases hasB (l.map kn) 2 <;> decide
theorem andL_bd (l : List Int) (h : ∀ x ∈ l, 0 ≤ x) : 0 ≤ andL l ∧ andL l ≤ 3 := by
  rw [← rAnd_told l h]; unfold rAnd; split <;> (try split) <;> (try split) <;> omega
theorem orL_bd (l : List Int) (h : ∀ x ∈ l, 0 ≤ x) : 0 ≤ orL l ∧ orL l ≤ 3 := by
  rw [← rOr_told l h]; unfold rOr; split <;> (try split) <;> (try split) <;> omega

theorem rand_told (A : Option Addr) (n c : Nat) (l : List Int) (h : ∀ x ∈ l, 0 ≤ x) (w : World) (B : Nat) (hr : Reads w B 1 A n (vI64 (l.map kn))) (hn : n ≤ 1000000) :
    Calls Try.prog 33 #[.slice A n c] w fun e w' => e = .returned (.int .i64 (andL l)) ∧ w = w' := by
  rw [← rAnd_told l h]; exact rand_any A n c _ w B hr hn
theorem ror_told (A : Option Addr) (n c : Nat) (l : List Int) (h : ∀ x ∈ l, 0 ≤ x) (w : World) (B : Nat) (hr : Reads w B 1 A n (vI64 (l.map kn))) (hn : n ≤ 1000000) :
    Calls Try.prog 43 #[.slice A n c] w fun e w' => e = .returned (.int .i64 (orL l)) ∧ w = w' := by
  rw [← rOr_told l h]; exact ror_any A n c _ w B hr hn
theorem rnot_kn (a : Int) (h0 : 0 ≤ a) (w : World) : Calls Try.prog 38 #[.int .i64 (kn a)] w (RetB w (.int .i64 (nt a))) := by
  rw [← rNot_kn h0]; exact rnot_any _ (kn_bd h0).1 (kn_bd h0).2 w
end
end Go.Proofs.Ytilopgfpifhccaa
/-
  The law LogicValues: its walk.
-/
namespace Go.Proofs.Ytilopgfpifhccaa
section
open Go.RowKit
attribute [local go_sem ↓] Go.wp_at_zero Go.wp_at_succ

def tv (t : Int) : Vl := if t = 0 then ⟨2, 0, ⟨#[]⟩⟩ else if t = 1 then ⟨0, 0, ⟨#[]⟩⟩ else if t = 3 then ⟨2, 1, ⟨#[]⟩⟩ else ⟨0, 0, ⟨#[]⟩⟩
def tok (t : Int) : Bool := t == 0 || t == 1 || t == 3
def ofV (v : Vl) : Int := if v.k = 0 then 1 else if v.k = 2 then (if v.i = 0 then 0 else 3) else 2

set_option maxHeartbeats 400000 in
theorem value_any (t : Int) (h0 : 0 ≤ t) (w : World) :
    Calls Try.prog 36 #[.int .u8 t] w (RetB w (.tuple #[(tv t).agg, .bool (tok t)])) := by
  have hc : t = 0 ∨ t = 1 ∨ t = 3 ∨ (t ≠ 0 ∧ t ≠ 1 ∧ t ≠ 3) := by omega
  rcases hc with rfl | rfl | rfl | ⟨h1, h2, h3⟩
  all_goals
    go_enter Try.func36, Try.ntmps36
    go_wp2
  · exact bodyPost_ret (v := .tuple #[.agg #[.int .u8 2, .int .i64 0, .string ⟨#[]⟩], .bool true]) (by simp [results, Try.results36, go_sem]) rfl ⟨rfl, (Below.refl _ _).alloc (Nat.le_refl _) _⟩
  · exact bodyPost_ret (v := .tuple #[.agg #[.int .u8 0, .int .i64 0, .string ⟨#[]⟩], .bool true]) (by simp [results, Try.results36, go_sem]) rfl ⟨rfl, (Below.refl _ _).alloc (Nat.le_refl _) _⟩
  · exact bodyPost_ret (v := .tuple #[.agg #[.int .u8 2, .int .i64 1, .string ⟨#[]⟩], .bool true]) (by simp [results, Try.results36, go_sem]) rfl ⟨rfl, (Below.refl _ _).alloc (Nat.le_refl _) _⟩
  · have e1 : tv t = ⟨0, 0, ⟨#[]⟩⟩ := by unfold tv; simp [h1, h2, h3]
    have e2 : tok t = false := by unfold tok; simp [h1, h2, h3]
    rw [e1, e2]
    exact bodyPost_ret (v := .tuple #[.agg #[.int .u8 0, .int .i64 0, .string ⟨#[]⟩], .bool false]) (by simp [results, Try.results36, go_sem]) rfl ⟨rfl, (Below.refl _ _).alloc (Nat.le_refl _) _⟩

def tr (b : Bool) : Int := if b then 3 else 0
theorem bit_any (b : Bool) (w : World) : Calls Try.prog 61 #[.bool b] w fun e w' => e = .returned (.int .u8 (tr b)) ∧ w = w' := by
  cases b
  all_goals
    go_enter Try.func61, Try.ntmps61
    go_wp2
    go_ret
    exact ⟨rfl, rfl⟩

set_option maxHeartbeats 400000 in
theorem lof_any (v : Vl) (w : World) : Calls Try.prog 47 #[v.agg] w (RetB w (.int .u8 (ofV v))) := by
  obtain ⟨k, i, s⟩ := v
  unfold ofV Vl.agg
  simp only
  by_cases h0 : k = 0
  · subst h0
    go_enter Try.func47, Try.ntmps47
    go_wp2
    go_ret
    exact ⟨rfl, (Below.refl _ _).alloc (Nat.le_refl _) _⟩
  · by_cases h2 : k = 2
    · subst h2
      by_cases hi : i = 0
      · subst hi
        go_enter Try.func47, Try.ntmps47
        go_wp2_with (go_at_call 61; refine (bit_any _ _).mono ?_; rintro e w' ⟨rfl, rfl⟩)
        go_ret
        exact ⟨rfl, (Below.refl _ _).alloc (Nat.le_refl _) _⟩
      · have hi2 : (i != 0) = true := by simpa using hi
        rw [if_neg (by omega), if_neg hi]
        go_enter Try.func47, Try.ntmps47
        go_wp2_with (go_at_call 61; refine (bit_any _ _).mono ?_; rintro e w' ⟨rfl, rfl⟩)
        go_ret
        exact ⟨rfl, (Below.refl _ _).alloc (Nat.le_refl _) _⟩
    · rw [if_neg h0, if_neg h2]
      go_enter Try.func47, Try.ntmps47
      go_wp2
      go_ret
      exact ⟨rfl, (Below.refl _ _).alloc (Nat.le_refl _) _⟩

set_option maxHeartbeats 400000 in
theorem rof_any (v : Vl) (w : World) : Calls Try.prog 28 #[v.agg] w (RetB w (.int .i64 (ofV v))) := by
  obtain ⟨k, i, s⟩ := v
  unfold ofV Vl.agg
  simp only
  by_cases h0 : k = 0
  · subst h0
    go_enter Try.func28, Try.ntmps28
    go_wp2
    go_ret
    exact ⟨rfl, (Below.refl _ _).alloc (Nat.le_refl _) _⟩
  · by_cases h2 : k = 2
    · subst h2
      by_cases hi : i = 0
      · subst hi
        go_enter Try.func28, Try.ntmps28
        go_wp2
        go_ret
        exact ⟨rfl, (Below.refl _ _).alloc (Nat.le_refl _) _⟩
      · have hi2 : (i == 0) = false := by simpa using hi
        rw [if_neg (by omega), if_neg hi]
        go_enter Try.func28, Try.ntmps28
        go_wp2
        go_ret
        exact ⟨rfl, (Below.refl _ _).alloc (Nat.le_refl _) _⟩
    · rw [if_neg h0, if_neg h2]
      go_enter Try.func28, Try.ntmps28
      go_wp2
      go_ret
      exact ⟨rfl, (Below.refl _ _).alloc (Nat.le_refl _) _⟩
theorem ofV_bd (v : Vl) : 0 ≤ ofV v ∧ ofV v ≤ 3 := by unfold ofV; split <;> (try split) <;> (try split) <;> omega

def zeroS : ByteArray := ⟨#[]⟩
theorem value_0 (w : World) : Calls Try.prog 36 #[.int .u8 0] w (RetB w (.tuple #[.agg #[.int .u8 2, .int .i64 0, .string ⟨#[]⟩], .bool true])) := value_any 0 (by omega) w
theorem value_1 (w : World) : Calls Try.prog 36 #[.int .u8 1] w (RetB w (.tuple #[.agg #[.int .u8 0, .int .i64 0, .string ⟨#[]⟩], .bool true])) := value_any 1 (by omega) w
theorem value_3 (w : World) : Calls Try.prog 36 #[.int .u8 3] w (RetB w (.tuple #[.agg #[.int .u8 2, .int .i64 1, .string ⟨#[]⟩], .bool true])) := value_any 3 (by omega) w
theorem value_x (t : Int) (h0 : 0 ≤ t) (h : t ≠ 0 ∧ t ≠ 1 ∧ t ≠ 3) (w : World) : Calls Try.prog 36 #[.int .u8 t] w (RetB w (.tuple #[.agg #[.int .u8 0, .int .i64 0, .string ⟨#[]⟩], .bool false])) := by
  have e1 : tv t = ⟨0, 0, ⟨#[]⟩⟩ := by unfold tv; simp [h.1, h.2.1, h.2.2]
  have e2 : tok t = false := by unfold tok; simp [h.1, h.2.1, h.2.2]
  have := value_any t h0 w
  rw [e1, e2] at this
  exact this
theorem of_00 (w : World) : Calls Try.prog 47 #[.agg #[.int .u8 2, .int .i64 0, .string ⟨#[]⟩]] w (RetB w (.int .u8 0)) := lof_any ⟨2, 0, ⟨#[]⟩⟩ w
theorem of_01 (w : World) : Calls Try.prog 47 #[.agg #[.int .u8 2, .int .i64 1, .string ⟨#[]⟩]] w (RetB w (.int .u8 3)) := lof_any ⟨2, 1, ⟨#[]⟩⟩ w
theorem of_n (w : World) : Calls Try.prog 47 #[.agg #[.int .u8 0, .int .i64 0, .string ⟨#[]⟩]] w (RetB w (.int .u8 1)) := lof_any ⟨0, 0, ⟨#[]⟩⟩ w
end
end Go.Proofs.Ytilopgfpifhccaa
/-
  The law LogicTurned: its walk.
-/
namespace Go.Proofs.Ytilopgfpifhccaa
section
open Go.RowKit

theorem not2_any (a : Int) (h0 : 0 ≤ a) (w : World) : Calls Try.prog 54 #[.int .u8 (nt a)] w fun e w' => e = .returned (.int .u8 (kn a)) ∧ w = w' := by
  rw [← nt_nt h0]; exact not_any _ w
theorem ntAnd (l : List Int) (h : ∀ x ∈ l, 0 ≤ x) : nt (andL l) = orL (l.map nt) := by
  unfold orL
  congr 1
  unfold andL
  rw [List.foldl_map]
  have : ∀ (l : List Int) (b : Int), (∀ x ∈ l, 0 ≤ x) → l.foldl (fun m a => min m (kn a)) b = l.foldl (fun m a => min m (nt (nt a))) b := by
    intro l
    induction l with
    | nil => intro b _; rfl
    | cons x r ih => intro b hb; simp only [List.foldl_cons]; rw [nt_nt (hb x (by simp)), ih _ (fun y hy => hb y (by simp [hy]))]
  exact this l 3 h
theorem ntOr (l : List Int) (h : ∀ x ∈ l, 0 ≤ x) : nt (orL l) = andL (l.map nt) := by
  have hb := foldmin nt (fun _ => nt_bd) l h 3 (by omega)
  have h3 : 0 ≤ l.foldl (fun m a => min m (nt a)) 3 ∧ l.foldl (fun m a => min m (nt a)) 3 ≤ 3 := by rw [hb]; split <;> (try split) <;> (try split) <;> omega
  unfold orL
  rw [nt_nt h3.1]
  have e : kn (l.foldl (fun m a => min m (nt a)) 3) = l.foldl (fun m a => min m (nt a)) 3 := by unfold kn; rw [if_neg (by omega)]
  rw [e]
  unfold andL
  rw [List.foldl_map]
  have : ∀ (l : List Int) (b : Int), (∀ x ∈ l, 0 ≤ x) → l.foldl (fun m a => min m (nt a)) b = l.foldl (fun m a => min m (kn (nt a))) b := by
    intro l
    induction l with
    | nil => intro b _; rfl
    | cons x r ih =>
      intro b hb
      have hx := nt_bd (hb x (by simp))
      have : kn (nt x) = nt x := by unfold kn; rw [if_neg (by omega)]
      simp only [List.foldl_cons]; rw [this, ih _ (fun y hy => hb y (by simp [hy]))]
  exact this l 3 h
theorem ntAnd_any (l : List Int) (h : ∀ x ∈ l, 0 ≤ x) (w : World) : Calls Try.prog 54 #[.int .u8 (andL l)] w fun e w' => e = .returned (.int .u8 (orL (l.map nt))) ∧ w = w' := by
  rw [← ntAnd l h]; exact not_any _ w
theorem ntOr_any (l : List Int) (h : ∀ x ∈ l, 0 ≤ x) (w : World) : Calls Try.prog 54 #[.int .u8 (orL l)] w fun e w' => e = .returned (.int .u8 (andL (l.map nt))) ∧ w = w' := by
  rw [← ntOr l h]; exact not_any _ w

theorem Try.infoTruth : (Try.prog.info? 38).map (fun i => (i.zero, i.size, i.bytes)) = some (some (.int .u8 0), 1, 1) := by kernel_rfl
end
end Go.Proofs.Ytilopgfpifhccaa
/-
  Contracts of Test: the program's, and the reference's.
-/
namespace Go.Proofs.Ytilopgfpifhccaa
section
open Go.RowKit
attribute [local go_sem ↓] Go.wp_at_zero Go.wp_at_succ

def opT (o : List UInt8) (c : Int) : Int :=
  if o == [61] then tr (c == 0) else if o == [60, 62] then tr (c != 0) else if o == [60] then tr (decide (c < 0)) else if o == [60, 61] then tr (decide (c ≤ 0)) else if o == [62] then tr (decide (0 < c)) else if o == [62, 61] then tr (decide (0 ≤ c)) else 2
def testV (op : ByteArray) (a b : Vl) : Int :=
  if a.k = 0 ∨ b.k = 0 then 1 else if a.k ≠ b.k ∨ 3 < a.k then 2 else opT op.toList (cmpV a b)
theorem tr_bd (b : Bool) : 0 ≤ tr b ∧ tr b ≤ 3 := by unfold tr; split <;> omega
theorem opT_bd (o : List UInt8) (c : Int) : 0 ≤ opT o c ∧ opT o c ≤ 3 := by
  unfold opT
  repeat' (first | exact tr_bd _ | split | omega)
theorem testV_bd (op : ByteArray) (a b : Vl) : 0 ≤ testV op a b ∧ testV op a b ≤ 3 := by
  unfold testV
  split
  · omega
  · split
    · omega
    · exact opT_bd _ _

set_option maxHeartbeats 4000000 in
theorem test_any (op : ByteArray) (a b : Vl) (w : World) :
    Calls Try.prog 71 #[.string op, a.agg, b.agg] w (RetB w (.int .u8 (testV op a b))) := by
  have Hc := fun W => compare_any a b W
  generalize hc : cmpV a b = c at Hc
  obtain ⟨k, i, s⟩ := a
  obtain ⟨k', j, t⟩ := b
  unfold testV
  rw [hc]
  clear hc
  unfold Vl.agg at *
  simp only at *
  have HC := Lib.hid Hc; clear Hc
  by_cases h0 : k = 0 ∨ k' = 0
  · rw [if_pos h0]
    by_cases h1 : k = 0
    · have m1 : (k == 0) = true := by simpa using h1
      clear h0 h1
      go_enter Try.func71, Try.ntmps71
      go_wp2
      go_ret
      exact ⟨rfl, ball (ball (Below.refl _ _) _) _⟩
    · have m1 : (k == 0) = false := by simpa using h1
      have m2 : (k' == 0) = true := by simpa using h0.resolve_left h1
      clear h0 h1
      go_enter Try.func71, Try.ntmps71
      go_wp2
      go_ret
      exact ⟨rfl, ball (ball (Below.refl _ _) _) _⟩
  · rw [if_neg h0]
    have m1 : (k == 0) = false := by simp; exact fun h => h0 (.inl h)
    have m2 : (k' == 0) = false := by simp; exact fun h => h0 (.inr h)
    clear h0
    by_cases h1 : k ≠ k' ∨ 3 < k
    · rw [if_pos h1]
      by_cases h2 : k = k'
      · have m3 : (k != k') = false := by simpa using h2
        have m4 : 3 < k := h1.resolve_left (fun h => h h2)
        clear h1 h2
        go_enter Try.func71, Try.ntmps71
        go_wp2
        go_ret
        exact ⟨rfl, ball (ball (Below.refl _ _) _) _⟩
      · have m3 : (k != k') = true := by simpa using h2
        clear h1 h2
        go_enter Try.func71, Try.ntmps71
        go_wp2
        go_ret
        exact ⟨rfl, ball (ball (Below.refl _ _) _) _⟩
    · rw [if_neg h1]
      have m3 : (k != k') = false := by simp; exact Classical.byContradiction fun h => h1 (.inl h)
      have m4 : ¬ 3 < k := fun h => h1 (.inr h)
      clear h1
      go_enter Try.func71, Try.ntmps71
      go_wp2_with fail
      refine (HC.out _).mono ?_
      rintro e w1 ⟨rfl, hb1⟩
      go_wp2_with (go_at_call 61; refine (bit_any _ _).mono ?_; rintro e w' ⟨rfl, rfl⟩)
      all_goals (go_ret; refine ⟨ret_int ?_, bto0 (ball (ball (Below.refl _ _) _) _) hb1⟩; simp only [opT, *, if_true, if_false, Bool.false_eq_true])

set_option maxHeartbeats 4000000 in
theorem rtest_any (op : ByteArray) (a b : Vl) (w : World) (hs : a.s.size ≤ 1000000) (ht : b.s.size ≤ 1000000) :
    Calls Try.prog 45 #[.string op, a.agg, b.agg] w (RetB w (.int .i64 (testV op a b))) := by
  have H1 := fun W => rLess_any a b W hs ht
  have H2 := fun W => rLess_any b a W ht hs
  have hbd := cmpV_bd a b
  rw [lessV_cmp] at H1
  rw [lessV_cmp2] at H2
  unfold testV
  generalize cmpV a b = c at *
  obtain ⟨k, i, s⟩ := a
  obtain ⟨k', j, t⟩ := b
  unfold Vl.agg at *
  simp only at *
  have HL := Lib.hid H1; clear H1
  have HM := Lib.hid H2; clear H2
  by_cases h0 : k = 0 ∨ k' = 0
  · rw [if_pos h0]
    by_cases h1 : k = 0
    · have m1 : (k == 0) = true := by simpa using h1
      clear h0 h1
      go_enter Try.func45, Try.ntmps45
      go_wp2
      go_ret
      exact ⟨rfl, ball (ball (Below.refl _ _) _) _⟩
    · have m1 : (k == 0) = false := by simpa using h1
      have m2 : (k' == 0) = true := by simpa using h0.resolve_left h1
      clear h0 h1
      go_enter Try.func45, Try.ntmps45
      go_wp2
      go_ret
      exact ⟨rfl, ball (ball (Below.refl _ _) _) _⟩
  · rw [if_neg h0]
    have m1 : (k == 0) = false := by simp; exact fun h => h0 (.inl h)
    have m2 : (k' == 0) = false := by simp; exact fun h => h0 (.inr h)
    clear h0
    by_cases h1 : k ≠ k' ∨ 3 < k
    · rw [if_pos h1]
      by_cases h2 : k = k'
      · have m3 : (k != k') = false := by simpa using h2
        have m4 : 3 < k := h1.resolve_left (fun h => h h2)
        clear h1 h2
        go_enter Try.func45, Try.ntmps45
        go_wp2
        go_ret
        exact ⟨rfl, ball (ball (Below.refl _ _) _) _⟩
      · have m3 : (k != k') = true := by simpa using h2
        clear h1 h2
        go_enter Try.func45, Try.ntmps45
        go_wp2
        go_ret
        exact ⟨rfl, ball (ball (Below.refl _ _) _) _⟩
    · rw [if_neg h1]
      have m3 : (k != k') = false := by simp; exact Classical.byContradiction fun h => h1 (.inl h)
      have m4 : ¬ 3 < k := fun h => h1 (.inr h)
      clear h1
      have hc : c = -1 ∨ c = 0 ∨ c = 1 := by omega
      clear hbd
      rcases hc with rfl | rfl | rfl
      all_goals
        go_enter Try.func45, Try.ntmps45
        go_wp2_with fail
        refine (HL.out _).mono ?_
        rintro e w1 ⟨rfl, hb1⟩
        have z1 : w.heap.size + 1 + 1 ≤ w1.heap.size := by simpa using hb1.size
        have a0 := hb1.cell (p := ⟨w.heap.size, 0, none⟩) (by simp; omega)
        have a1 := hb1.cell (p := ⟨w.heap.size, 1, none⟩) (by simp; omega)
        have a2 := hb1.cell (p := ⟨w.heap.size, 2, none⟩) (by simp; omega)
        have c0 := hb1.cell (p := ⟨w.heap.size + 1, 0, none⟩) (by simp)
        have c1 := hb1.cell (p := ⟨w.heap.size + 1, 1, none⟩) (by simp)
        have c2 := hb1.cell (p := ⟨w.heap.size + 1, 2, none⟩) (by simp)
        go_wp2_with fail
        refine (HM.out _).mono ?_
        rintro e w2 ⟨rfl, hb2⟩
        go_wp2
        all_goals (go_ret; refine ⟨ret_int ?_, bto0 (bto0 (ball (ball (Below.refl _ _) _) _) hb1) hb2⟩; simp only [opT, *, if_true, if_false, Bool.false_eq_true]; (try rfl))
end
end Go.Proofs.Ytilopgfpifhccaa
/-
  Numbers as rows of digits of 2^16: the plain mathematics, and the words for walks.
-/
namespace Go.Proofs.Ytilopgfpifhccaa
section
set_option linter.unusedSimpArgs false
set_option linter.unusedVariables false
open Go.RowKit

/-- What digits come to, the lowest first. -/
def dv : List Nat → Nat
  | [] => 0
  | d :: r => d + 65536 * dv r
def dok (l : List Nat) : Prop := ∀ d ∈ l, d < 65536
def vD (l : List Nat) : List Value := l.map (fun d : Nat => Value.int .u64 (d : Int))
theorem vD_len (l : List Nat) : (vD l).length = l.length := by simp [vD]
theorem vD_at {l : List Nat} {k : Nat} {u : Value} (h : (vD l)[k]? = some u) : ∃ d : Nat, l[k]? = some d ∧ u = .int .u64 (d : Int) := by
  simp only [vD, List.getElem?_map, Option.map_eq_some_iff] at h
  obtain ⟨x, h1, rfl⟩ := h
  exact ⟨x, h1, rfl⟩
theorem vD_one (l : List Nat) : ∀ u ∈ vD l, u.oneCell' = true := by
  intro u hu
  obtain ⟨x, _, rfl⟩ := List.mem_map.1 hu
  rfl
theorem dv_app (a b : List Nat) : dv (a ++ b) = dv a + 65536 ^ a.length * dv b := by
  induction a with
  | nil => simp [dv]
  | cons d r ih => simp only [List.cons_append, dv, ih, List.length_cons, Nat.pow_succ]; rw [Nat.mul_add, Nat.add_assoc, Nat.mul_comm (65536 ^ r.length) 65536, Nat.mul_assoc]
theorem dv_lt {l : List Nat} (h : dok l) : dv l < 65536 ^ l.length := by
  induction l with
  | nil => simp [dv]
  | cons d r ih =>
    have h1 := ih fun x hx => h x (by simp [hx])
    have h2 := h d (by simp)
    simp only [dv, List.length_cons, Nat.pow_succ]
    have : dv r + 1 ≤ 65536 ^ r.length := h1
    omega
theorem dv_drop {l : List Nat} {k d : Nat} (h : l[k]? = some d) : dv (l.drop k) = d + 65536 * dv (l.drop (k + 1)) := by
  have hk := lt_of_at h
  have : l[k] = d := by simpa [List.getElem?_eq_getElem hk] using h
  rw [List.drop_eq_getElem_cons hk, this]
  rfl
/-- The digit at a place; 0 behind the last one. -/
def dg (l : List Nat) (k : Nat) : Nat := l[k]?.getD 0
theorem dg_lt {l : List Nat} (h : dok l) (k : Nat) : dg l k < 65536 := by
  unfold dg
  cases hk : l[k]? with
  | none => simp
  | some d => exact h d (List.mem_of_getElem? hk)
theorem dg_out {l : List Nat} {k : Nat} (h : l.length ≤ k) : dg l k = 0 := by unfold dg; rw [List.getElem?_eq_none h]; rfl
theorem dv_dg (l : List Nat) (k : Nat) : dv (l.drop k) = dg l k + 65536 * dv (l.drop (k + 1)) := by
  unfold dg
  cases hk : l[k]? with
  | none =>
    have h1 := List.getElem?_eq_none_iff.1 hk
    rw [List.drop_eq_nil_of_le h1, List.drop_eq_nil_of_le (by omega)]
    rfl
  | some d => exact dv_drop hk

/-- A number in memory: its sign, and its digits. -/
def IsN (w : World) (v : Value) (sg : Int) (x : Nat) (m : Nat) : Prop :=
  ∃ (A : Option Addr) (n c : Nat) (l : List Nat), v = .agg #[.int .i64 sg, .slice A n c] ∧ Reads w w.heap.size 1 A n (vD l) ∧ n ≤ c ∧ n ≤ m ∧ dok l ∧ dv l = x ∧ l.length = n
theorem IsN.below {w w' : World} {v : Value} {sg : Int} {x m : Nat} (h : IsN w v sg x m) (hb : Below w.heap.size w w') : IsN w' v sg x m := by
  obtain ⟨A, n, c, l, h1, h2, h3, h4, h5, h6, h7⟩ := h
  exact ⟨A, n, c, l, h1, (h2.below hb).more hb.size, h3, h4, h5, h6, h7⟩
def RetN (w : World) (sg : Int) (x m : Nat) (e : Ending) (w' : World) : Prop := ∃ v, e = .returned v ∧ IsN w' v sg x m ∧ Below w.heap.size w w'

theorem size_step {a b s q : Nat} {O A B : List Nat} {i c : Nat} (hO : O.length = i) (h : dv O + 65536 ^ i * (c + dv (A.drop i) + dv (B.drop i)) = s) (ha : dg A i = a) (hb : dg B i = b) (hq : a + b + c = q) :
    dv (O ++ [q % 65536]) + 65536 ^ (i + 1) * (q / 65536 + dv (A.drop (i + 1)) + dv (B.drop (i + 1))) = s := by
  rw [dv_app, hO]
  have h1 := dv_dg A i
  have h2 := dv_dg B i
  rw [ha] at h1
  rw [hb] at h2
  rw [h1, h2] at h
  rw [← h]
  have hm := Nat.div_add_mod q 65536
  have e : dv [q % 65536] = q % 65536 := by simp [dv]
  rw [e, Nat.pow_succ]
  generalize 65536 ^ i = P
  generalize dv (A.drop (i + 1)) = X
  generalize dv (B.drop (i + 1)) = Y
  rw [Nat.add_assoc]
  congr 1
  rw [Nat.mul_assoc, ← Nat.mul_add]
  congr 1
  omega
theorem dok_snoc {l : List Nat} {d : Nat} (h : dok l) (hd : d < 65536) : dok (l ++ [d]) := by
  intro x hx
  rcases List.mem_append.1 hx with hx | hx
  · exact h x hx
  · simp at hx; omega

theorem whole_step {i x N : Nat} {O : List Nat} (hO : O.length = i) (h : dv O + 65536 ^ i * x = N) : dv (O ++ [x % 65536]) + 65536 ^ (i + 1) * (x / 65536) = N := by
  rw [dv_app, hO, ← h]
  have e : dv [x % 65536] = x % 65536 := by simp [dv]
  rw [e, Nat.pow_succ, Nat.mul_assoc, Nat.add_assoc, ← Nat.mul_add]
  congr 2
  omega
/-- What the digits below a place come to. -/
def low (l : List Nat) (i : Nat) : Nat := dv (l.take i)
theorem low_all {l : List Nat} {i : Nat} (h : l.length ≤ i) : low l i = dv l := by unfold low; rw [List.take_of_length_le h]
theorem low_succ (l : List Nat) (i : Nat) : low l (i + 1) = low l i + 65536 ^ i * dg l i := by
  unfold low dg
  rw [List.take_add_one]
  cases h : l[i]? with
  | none => simp
  | some d =>
    have := lt_of_at h
    simp only [Option.toList_some, Option.getD_some]
    rw [dv_app, List.length_take, Nat.min_eq_left (by omega)]
    simp [dv]
theorem low_lt {l : List Nat} (h : dok l) (i : Nat) : low l i < 65536 ^ i := by
  unfold low
  have h1 : dok (l.take i) := fun x hx => h x (List.mem_of_mem_take hx)
  refine Nat.lt_of_lt_of_le (dv_lt h1) ?_
  exact Nat.pow_le_pow_right (by omega) (by rw [List.length_take]; omega)
theorem dv_split (l : List Nat) (i : Nat) : dv l = low l i + 65536 ^ i * dv (l.drop i) := by
  unfold low
  by_cases h : i ≤ l.length
  · have := dv_app (l.take i) (l.drop i)
    rw [List.take_append_drop, List.length_take, Nat.min_eq_left h] at this
    exact this
  · rw [List.drop_eq_nil_of_le (by omega), List.take_of_length_le (by omega)]
    simp [dv]
/-- The highest digit that differs tells. -/
theorem less_at {a b : List Nat} (ha : dok a) (hb : dok b) {k : Nat} (hh : dv (a.drop (k + 1)) = dv (b.drop (k + 1))) (hd : dg a k ≠ dg b k) : decide (dv a < dv b) = decide (dg a k < dg b k) := by
  rw [dv_split a k, dv_split b k, dv_dg a k, dv_dg b k, hh]
  have h1 := low_lt ha k
  have h2 := low_lt hb k
  generalize low a k = x at *
  generalize low b k = y at *
  generalize dv (b.drop (k + 1)) = Z
  generalize dg a k = p at *
  generalize dg b k = q at *
  generalize 65536 ^ k = P at *
  rcases Nat.lt_or_gt_of_ne hd with h | h
  · have h3 : P * (p + 65536 * Z) + P ≤ P * (q + 65536 * Z) := by rw [← Nat.mul_succ]; exact Nat.mul_le_mul_left P (by omega)
    have : x + P * (p + 65536 * Z) < y + P * (q + 65536 * Z) := by omega
    simp [this, h]
  · have h3 : P * (q + 65536 * Z) + P ≤ P * (p + 65536 * Z) := by rw [← Nat.mul_succ]; exact Nat.mul_le_mul_left P (by omega)
    have h4 : ¬ x + P * (p + 65536 * Z) < y + P * (q + 65536 * Z) := by omega
    have h5 : ¬ p < q := by omega
    simp [h4, h5]
theorem less_eq {a b : List Nat} (h : dv (a.drop 0) = dv (b.drop 0)) : decide (dv a < dv b) = false := by
  simp only [List.drop_zero] at h
  simp [h]
/-- One digit of a difference: what is borrowed is paid by the next one. -/
theorem apart_step {A B O : List Nat} {i br q : Nat} (hO : O.length = i) (h : dv O + low B i = low A i + br * 65536 ^ i) (hbr : br ≤ 1) (hA : dg A i < 65536) (hB : dg B i < 65536) (hq : q + dg B i + br = dg A i + 65536) :
    dv (O ++ [q % 65536]) + low B (i + 1) = low A (i + 1) + (1 - q / 65536) * 65536 ^ (i + 1) ∧ q / 65536 ≤ 1 := by
  have hq1 : q / 65536 ≤ 1 := by omega
  refine ⟨?_, hq1⟩
  rw [dv_app, hO, low_succ, low_succ, Nat.pow_succ]
  have e : dv [q % 65536] = q % 65536 := by simp [dv]
  rw [e]
  have hm := Nat.div_add_mod q 65536
  generalize 65536 ^ i = P at *
  generalize dg A i = a at *
  generalize dg B i = b at *
  generalize low A i = x at *
  generalize low B i = y at *
  generalize dv O = o at *
  have hc : q / 65536 = 0 ∨ q / 65536 = 1 := by omega
  have h1 : P * (q % 65536) + P * b + P * br + P * (q / 65536 * 65536) = P * a + P * 65536 := by
    rw [← Nat.mul_add, ← Nat.mul_add, ← Nat.mul_add, ← Nat.mul_add]
    congr 1
    omega
  have h2 : br * P = P * br := Nat.mul_comm _ _
  rcases hc with hc | hc
  · rw [hc] at h1 ⊢
    simp only [Nat.zero_mul, Nat.mul_zero, Nat.sub_zero, Nat.one_mul] at h1 ⊢
    omega
  · rw [hc] at h1 ⊢
    simp only [Nat.one_mul, Nat.sub_self, Nat.zero_mul] at h1 ⊢
    omega
theorem apart_end {A B O : List Nat} {i br : Nat} (hA : A.length = i) (hO : O.length = i) (hdO : dok O) (hdA : dok A) (h : dv O + low B i = low A i + br * 65536 ^ i) (hle : dv B ≤ dv A) : dv O = dv A - dv B := by
  have h1 := dv_lt hdA
  have h2 := dv_lt hdO
  rw [hA] at h1
  rw [hO] at h2
  have h3 := dv_split B i
  have h4 : dv (B.drop i) = 0 := by
    rcases Nat.eq_zero_or_pos (dv (B.drop i)) with h0 | h0
    · exact h0
    · have : 65536 ^ i * 1 ≤ 65536 ^ i * dv (B.drop i) := Nat.mul_le_mul_left _ h0
      omega
  rw [h4, Nat.mul_zero, Nat.add_zero] at h3
  rw [low_all (by omega : A.length ≤ i), ← h3] at h
  have h5 : br = 0 := by
    rcases Nat.eq_zero_or_pos br with h0 | h0
    · exact h0
    · have : 1 * 65536 ^ i ≤ br * 65536 ^ i := Nat.mul_le_mul_right _ h0
      omega
  subst h5
  omega
theorem low_zero (l : List Nat) : low l 0 = 0 := by simp [low, dv]
end
end Go.Proofs.Ytilopgfpifhccaa
