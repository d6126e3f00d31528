/-
  The law LogicValues: its walk.
-/
import Derived.Test.YtegnoheaglnhhaaLoc
import Derived.Test.YtegnoheaglnhhaaOpen
import Derived.Deep.RegionHeld3
import Derived.Deep.DrawnRows
import Derived.IntWalk
namespace Go.Proofs.Ytegnoheaglnhhaa
open Go.RowKit
attribute [local go_sem ↓] Go.wp_at_zero Go.wp_at_succ

def tv (t : Int) : Vl := if t = 0 then ⟨2, 0, ⟨#[]⟩⟩ else if t = 1 then ⟨0, 0, ⟨#[]⟩⟩ else if t = 3 then ⟨2, 1, ⟨#[]⟩⟩ else ⟨0, 0, ⟨#[]⟩⟩
def tok (t : Int) : Bool := t == 0 || t == 1 || t == 3
def ofV (v : Vl) : Int := if v.k = 0 then 1 else if v.k = 2 then (if v.i = 0 then 0 else 3) else 2

set_option maxHeartbeats 400000 in
theorem value_any (t : Int) (h0 : 0 ≤ t) (w : World) :
    Calls Try.prog 19 #[.int .u8 t] w (RetB w (.tuple #[(tv t).agg, .bool (tok t)])) := by
  have hc : t = 0 ∨ t = 1 ∨ t = 3 ∨ (t ≠ 0 ∧ t ≠ 1 ∧ t ≠ 3) := by omega
  rcases hc with rfl | rfl | rfl | ⟨h1, h2, h3⟩
  all_goals
    go_enter Try.func19, Try.ntmps19
    go_wp2
  · exact bodyPost_ret (v := .tuple #[.agg #[.int .u8 2, .int .i64 0, .string ⟨#[]⟩], .bool true]) (by simp [results, Try.results19, go_sem]) rfl ⟨rfl, (Below.refl _ _).alloc (Nat.le_refl _) _⟩
  · exact bodyPost_ret (v := .tuple #[.agg #[.int .u8 0, .int .i64 0, .string ⟨#[]⟩], .bool true]) (by simp [results, Try.results19, go_sem]) rfl ⟨rfl, (Below.refl _ _).alloc (Nat.le_refl _) _⟩
  · exact bodyPost_ret (v := .tuple #[.agg #[.int .u8 2, .int .i64 1, .string ⟨#[]⟩], .bool true]) (by simp [results, Try.results19, go_sem]) rfl ⟨rfl, (Below.refl _ _).alloc (Nat.le_refl _) _⟩
  · have e1 : tv t = ⟨0, 0, ⟨#[]⟩⟩ := by unfold tv; simp [h1, h2, h3]
    have e2 : tok t = false := by unfold tok; simp [h1, h2, h3]
    rw [e1, e2]
    exact bodyPost_ret (v := .tuple #[.agg #[.int .u8 0, .int .i64 0, .string ⟨#[]⟩], .bool false]) (by simp [results, Try.results19, go_sem]) rfl ⟨rfl, (Below.refl _ _).alloc (Nat.le_refl _) _⟩

def tr (b : Bool) : Int := if b then 3 else 0
theorem bit_any (b : Bool) (w : World) : Calls Try.prog 39 #[.bool b] w fun e w' => e = .returned (.int .u8 (tr b)) ∧ w = w' := by
  cases b
  all_goals
    go_enter Try.func39, Try.ntmps39
    go_wp2
    go_ret
    exact ⟨rfl, rfl⟩

set_option maxHeartbeats 400000 in
theorem of_any (v : Vl) (w : World) : Calls Try.prog 20 #[v.agg] w (RetB w (.int .u8 (ofV v))) := by
  obtain ⟨k, i, s⟩ := v
  unfold ofV Vl.agg
  simp only
  by_cases h0 : k = 0
  · subst h0
    go_enter Try.func20, Try.ntmps20
    go_wp2
    go_ret
    exact ⟨rfl, (Below.refl _ _).alloc (Nat.le_refl _) _⟩
  · by_cases h2 : k = 2
    · subst h2
      by_cases hi : i = 0
      · subst hi
        go_enter Try.func20, Try.ntmps20
        go_wp2_with (go_at_call 39; refine (bit_any _ _).mono ?_; rintro e w' ⟨rfl, rfl⟩)
        go_ret
        exact ⟨rfl, (Below.refl _ _).alloc (Nat.le_refl _) _⟩
      · have hi2 : (i != 0) = true := by simpa using hi
        rw [if_neg (by omega), if_neg hi]
        go_enter Try.func20, Try.ntmps20
        go_wp2_with (go_at_call 39; refine (bit_any _ _).mono ?_; rintro e w' ⟨rfl, rfl⟩)
        go_ret
        exact ⟨rfl, (Below.refl _ _).alloc (Nat.le_refl _) _⟩
    · rw [if_neg h0, if_neg h2]
      go_enter Try.func20, Try.ntmps20
      go_wp2
      go_ret
      exact ⟨rfl, (Below.refl _ _).alloc (Nat.le_refl _) _⟩

set_option maxHeartbeats 400000 in
theorem rof_any (v : Vl) (w : World) : Calls Try.prog 21 #[v.agg] w (RetB w (.int .i64 (ofV v))) := by
  obtain ⟨k, i, s⟩ := v
  unfold ofV Vl.agg
  simp only
  by_cases h0 : k = 0
  · subst h0
    go_enter Try.func21, Try.ntmps21
    go_wp2
    go_ret
    exact ⟨rfl, (Below.refl _ _).alloc (Nat.le_refl _) _⟩
  · by_cases h2 : k = 2
    · subst h2
      by_cases hi : i = 0
      · subst hi
        go_enter Try.func21, Try.ntmps21
        go_wp2
        go_ret
        exact ⟨rfl, (Below.refl _ _).alloc (Nat.le_refl _) _⟩
      · have hi2 : (i == 0) = false := by simpa using hi
        rw [if_neg (by omega), if_neg hi]
        go_enter Try.func21, Try.ntmps21
        go_wp2
        go_ret
        exact ⟨rfl, (Below.refl _ _).alloc (Nat.le_refl _) _⟩
    · rw [if_neg h0, if_neg h2]
      go_enter Try.func21, Try.ntmps21
      go_wp2
      go_ret
      exact ⟨rfl, (Below.refl _ _).alloc (Nat.le_refl _) _⟩
theorem ofV_bd (v : Vl) : 0 ≤ ofV v ∧ ofV v ≤ 3 := by unfold ofV; split <;> (try split) <;> (try split) <;> omega

def zeroS : ByteArray := ⟨#[]⟩
theorem value_0 (w : World) : Calls Try.prog 19 #[.int .u8 0] w (RetB w (.tuple #[.agg #[.int .u8 2, .int .i64 0, .string ⟨#[]⟩], .bool true])) := value_any 0 (by omega) w
theorem value_1 (w : World) : Calls Try.prog 19 #[.int .u8 1] w (RetB w (.tuple #[.agg #[.int .u8 0, .int .i64 0, .string ⟨#[]⟩], .bool true])) := value_any 1 (by omega) w
theorem value_3 (w : World) : Calls Try.prog 19 #[.int .u8 3] w (RetB w (.tuple #[.agg #[.int .u8 2, .int .i64 1, .string ⟨#[]⟩], .bool true])) := value_any 3 (by omega) w
theorem value_x (t : Int) (h0 : 0 ≤ t) (h : t ≠ 0 ∧ t ≠ 1 ∧ t ≠ 3) (w : World) : Calls Try.prog 19 #[.int .u8 t] w (RetB w (.tuple #[.agg #[.int .u8 0, .int .i64 0, .string ⟨#[]⟩], .bool false])) := by
  have e1 : tv t = ⟨0, 0, ⟨#[]⟩⟩ := by unfold tv; simp [h.1, h.2.1, h.2.2]
  have e2 : tok t = false := by unfold tok; simp [h.1, h.2.1, h.2.2]
  have := value_any t h0 w
  rw [e1, e2] at this
  exact this
theorem of_00 (w : World) : Calls Try.prog 20 #[.agg #[.int .u8 2, .int .i64 0, .string ⟨#[]⟩]] w (RetB w (.int .u8 0)) := of_any ⟨2, 0, ⟨#[]⟩⟩ w
theorem of_01 (w : World) : Calls Try.prog 20 #[.agg #[.int .u8 2, .int .i64 1, .string ⟨#[]⟩]] w (RetB w (.int .u8 3)) := of_any ⟨2, 1, ⟨#[]⟩⟩ w
theorem of_n (w : World) : Calls Try.prog 20 #[.agg #[.int .u8 0, .int .i64 0, .string ⟨#[]⟩]] w (RetB w (.int .u8 1)) := of_any ⟨0, 0, ⟨#[]⟩⟩ w

set_option maxHeartbeats 1000000 in
theorem logicValues_any (v : Vl) (t : Int) (h0 : 0 ≤ t) (h1 : t ≤ 255) (w : World) :
    Calls Try.prog 6 #[v.agg, .int .u8 t] w (RetB w (.bool true)) := by
  obtain ⟨o1, o2⟩ := ofV_bd v
  have Hof := of_any v
  have Hrof := rof_any v
  obtain ⟨k, i, s⟩ := v
  generalize ofV ⟨k, i, s⟩ = o at *
  have HOf := Lib.hid Hof; clear Hof
  have HRof := Lib.hid Hrof; clear Hrof
  unfold Vl.agg at *
  dsimp only at *
  have wo : IntKind.i64.wrap o = o := IntWalk.i64_in _ (by omega)
  have hc : t = 0 ∨ t = 1 ∨ t = 3 ∨ t = 2 ∨ (t ≠ 0 ∧ t ≠ 1 ∧ t ≠ 3 ∧ ¬ t ≤ 3) := by omega
  rcases hc with rfl | rfl | rfl | rfl | ⟨x0, x1, x3, x4⟩
  ·
    go_enter Try.func6, Try.ntmps6
    go_wp2_with fail
    refine (value_0 _).mono ?_; rintro e w1 ⟨rfl, hb1⟩
    have hbz : w.heap.size + 1 ≤ w1.heap.size := by simpa using hb1.size
    have c0 := hb1.cell (p := ⟨w.heap.size, 0, none⟩) (by simp)
    have c1 := hb1.cell (p := ⟨w.heap.size, 1, none⟩) (by simp)
    have c2 := hb1.cell (p := ⟨w.heap.size, 2, none⟩) (by simp)
    go_wp2_with fail
    refine (of_00 _).mono ?_; rintro e w2 ⟨rfl, hb2⟩
    have hb2z : w1.heap.size + 1 ≤ w2.heap.size := by simpa using hb2.size
    have d0 := hb2.cell (p := ⟨w.heap.size, 0, none⟩) (by simp; omega)
    have d1 := hb2.cell (p := ⟨w.heap.size, 1, none⟩) (by simp; omega)
    have d2 := hb2.cell (p := ⟨w.heap.size, 2, none⟩) (by simp; omega)
    go_wp2_with fail
    go_region_held3 (fun w' => w'.cell? ⟨w.heap.size, 0, none⟩ = some (.int .u8 k) ∧ w'.cell? ⟨w.heap.size, 1, none⟩ = some (.int .i64 i) ∧ w'.cell? ⟨w.heap.size, 2, none⟩ = some (.string s))
      (first | go_keep | ((try go_split_ands); refine ⟨?_, ?_, ?_⟩ <;> first | (rw [hb5.cell (by simp; omega)]; assumption) | (rw [hb4.cell (by simp; omega)]; assumption) | (rw [hb3.cell (by simp; omega)]; assumption)))
      (first | (go_at_call 10; refine (lfixed_any _).mono ?_; rintro e w3 ⟨rfl, hb3⟩; have hz3 := hb3.size; (try simp at hz3)) | (go_at_call 20; refine (HOf.out _).mono ?_; rintro e w4 ⟨rfl, hb4⟩; have hz4 := hb4.size; (try simp at hz4)) | (go_at_call 21; refine (HRof.out _).mono ?_; rintro e w5 ⟨rfl, hb5⟩; have hz5 := hb5.size; (try simp at hz5)))
    go_wp2
    go_ret
    exact ⟨rfl, bto0 (bto0 (bto0 (bto0 (ball (bto0 (ball (Below.refl _ _) _) hb1) _) hb2).drew hb3) hb4) hb5⟩
  ·
    go_enter Try.func6, Try.ntmps6
    go_wp2_with fail
    refine (value_1 _).mono ?_; rintro e w1 ⟨rfl, hb1⟩
    have hbz : w.heap.size + 1 ≤ w1.heap.size := by simpa using hb1.size
    have c0 := hb1.cell (p := ⟨w.heap.size, 0, none⟩) (by simp)
    have c1 := hb1.cell (p := ⟨w.heap.size, 1, none⟩) (by simp)
    have c2 := hb1.cell (p := ⟨w.heap.size, 2, none⟩) (by simp)
    go_wp2_with fail
    refine (of_n _).mono ?_; rintro e w2 ⟨rfl, hb2⟩
    have hb2z : w1.heap.size + 1 ≤ w2.heap.size := by simpa using hb2.size
    have d0 := hb2.cell (p := ⟨w.heap.size, 0, none⟩) (by simp; omega)
    have d1 := hb2.cell (p := ⟨w.heap.size, 1, none⟩) (by simp; omega)
    have d2 := hb2.cell (p := ⟨w.heap.size, 2, none⟩) (by simp; omega)
    go_wp2_with fail
    go_region_held3 (fun w' => w'.cell? ⟨w.heap.size, 0, none⟩ = some (.int .u8 k) ∧ w'.cell? ⟨w.heap.size, 1, none⟩ = some (.int .i64 i) ∧ w'.cell? ⟨w.heap.size, 2, none⟩ = some (.string s))
      (first | go_keep | ((try go_split_ands); refine ⟨?_, ?_, ?_⟩ <;> first | (rw [hb5.cell (by simp; omega)]; assumption) | (rw [hb4.cell (by simp; omega)]; assumption) | (rw [hb3.cell (by simp; omega)]; assumption)))
      (first | (go_at_call 10; refine (lfixed_any _).mono ?_; rintro e w3 ⟨rfl, hb3⟩; have hz3 := hb3.size; (try simp at hz3)) | (go_at_call 20; refine (HOf.out _).mono ?_; rintro e w4 ⟨rfl, hb4⟩; have hz4 := hb4.size; (try simp at hz4)) | (go_at_call 21; refine (HRof.out _).mono ?_; rintro e w5 ⟨rfl, hb5⟩; have hz5 := hb5.size; (try simp at hz5)))
    go_wp2
    go_ret
    exact ⟨rfl, bto0 (bto0 (bto0 (bto0 (ball (bto0 (ball (Below.refl _ _) _) hb1) _) hb2).drew hb3) hb4) hb5⟩
  ·
    go_enter Try.func6, Try.ntmps6
    go_wp2_with fail
    refine (value_3 _).mono ?_; rintro e w1 ⟨rfl, hb1⟩
    have hbz : w.heap.size + 1 ≤ w1.heap.size := by simpa using hb1.size
    have c0 := hb1.cell (p := ⟨w.heap.size, 0, none⟩) (by simp)
    have c1 := hb1.cell (p := ⟨w.heap.size, 1, none⟩) (by simp)
    have c2 := hb1.cell (p := ⟨w.heap.size, 2, none⟩) (by simp)
    go_wp2_with fail
    refine (of_01 _).mono ?_; rintro e w2 ⟨rfl, hb2⟩
    have hb2z : w1.heap.size + 1 ≤ w2.heap.size := by simpa using hb2.size
    have d0 := hb2.cell (p := ⟨w.heap.size, 0, none⟩) (by simp; omega)
    have d1 := hb2.cell (p := ⟨w.heap.size, 1, none⟩) (by simp; omega)
    have d2 := hb2.cell (p := ⟨w.heap.size, 2, none⟩) (by simp; omega)
    go_wp2_with fail
    go_region_held3 (fun w' => w'.cell? ⟨w.heap.size, 0, none⟩ = some (.int .u8 k) ∧ w'.cell? ⟨w.heap.size, 1, none⟩ = some (.int .i64 i) ∧ w'.cell? ⟨w.heap.size, 2, none⟩ = some (.string s))
      (first | go_keep | ((try go_split_ands); refine ⟨?_, ?_, ?_⟩ <;> first | (rw [hb5.cell (by simp; omega)]; assumption) | (rw [hb4.cell (by simp; omega)]; assumption) | (rw [hb3.cell (by simp; omega)]; assumption)))
      (first | (go_at_call 10; refine (lfixed_any _).mono ?_; rintro e w3 ⟨rfl, hb3⟩; have hz3 := hb3.size; (try simp at hz3)) | (go_at_call 20; refine (HOf.out _).mono ?_; rintro e w4 ⟨rfl, hb4⟩; have hz4 := hb4.size; (try simp at hz4)) | (go_at_call 21; refine (HRof.out _).mono ?_; rintro e w5 ⟨rfl, hb5⟩; have hz5 := hb5.size; (try simp at hz5)))
    go_wp2
    go_ret
    exact ⟨rfl, bto0 (bto0 (bto0 (bto0 (ball (bto0 (ball (Below.refl _ _) _) hb1) _) hb2).drew hb3) hb4) hb5⟩
  ·
    go_enter Try.func6, Try.ntmps6
    go_wp2_with fail
    refine (value_x 2 (by omega) (by omega) _).mono ?_; rintro e w1 ⟨rfl, hb1⟩
    have hbz : w.heap.size + 1 ≤ w1.heap.size := by simpa using hb1.size
    have c0 := hb1.cell (p := ⟨w.heap.size, 0, none⟩) (by simp)
    have c1 := hb1.cell (p := ⟨w.heap.size, 1, none⟩) (by simp)
    have c2 := hb1.cell (p := ⟨w.heap.size, 2, none⟩) (by simp)
    go_wp2_with fail
    go_region_held3 (fun w' => w'.cell? ⟨w.heap.size, 0, none⟩ = some (.int .u8 k) ∧ w'.cell? ⟨w.heap.size, 1, none⟩ = some (.int .i64 i) ∧ w'.cell? ⟨w.heap.size, 2, none⟩ = some (.string s))
      (first | go_keep | ((try go_split_ands); refine ⟨?_, ?_, ?_⟩ <;> first | (rw [hb5.cell (by simp; omega)]; assumption) | (rw [hb4.cell (by simp; omega)]; assumption) | (rw [hb3.cell (by simp; omega)]; assumption)))
      (first | (go_at_call 10; refine (lfixed_any _).mono ?_; rintro e w3 ⟨rfl, hb3⟩; have hz3 := hb3.size; (try simp at hz3)) | (go_at_call 20; refine (HOf.out _).mono ?_; rintro e w4 ⟨rfl, hb4⟩; have hz4 := hb4.size; (try simp at hz4)) | (go_at_call 21; refine (HRof.out _).mono ?_; rintro e w5 ⟨rfl, hb5⟩; have hz5 := hb5.size; (try simp at hz5)))
    go_wp2
    go_ret
    exact ⟨rfl, bto0 (bto0 (bto0 (ball (bto0 (ball (Below.refl _ _) _) hb1) _).drew hb3) hb4) hb5⟩
  ·
    go_enter Try.func6, Try.ntmps6
    go_wp2_with fail
    refine (value_x t h0 ⟨x0, x1, x3⟩ _).mono ?_; rintro e w1 ⟨rfl, hb1⟩
    have hbz : w.heap.size + 1 ≤ w1.heap.size := by simpa using hb1.size
    have c0 := hb1.cell (p := ⟨w.heap.size, 0, none⟩) (by simp)
    have c1 := hb1.cell (p := ⟨w.heap.size, 1, none⟩) (by simp)
    have c2 := hb1.cell (p := ⟨w.heap.size, 2, none⟩) (by simp)
    go_wp2_with fail
    go_region_held3 (fun w' => w'.cell? ⟨w.heap.size, 0, none⟩ = some (.int .u8 k) ∧ w'.cell? ⟨w.heap.size, 1, none⟩ = some (.int .i64 i) ∧ w'.cell? ⟨w.heap.size, 2, none⟩ = some (.string s))
      (first | go_keep | ((try go_split_ands); refine ⟨?_, ?_, ?_⟩ <;> first | (rw [hb5.cell (by simp; omega)]; assumption) | (rw [hb4.cell (by simp; omega)]; assumption) | (rw [hb3.cell (by simp; omega)]; assumption)))
      (first | (go_at_call 10; refine (lfixed_any _).mono ?_; rintro e w3 ⟨rfl, hb3⟩; have hz3 := hb3.size; (try simp at hz3)) | (go_at_call 20; refine (HOf.out _).mono ?_; rintro e w4 ⟨rfl, hb4⟩; have hz4 := hb4.size; (try simp at hz4)) | (go_at_call 21; refine (HRof.out _).mono ?_; rintro e w5 ⟨rfl, hb5⟩; have hz5 := hb5.size; (try simp at hz5)))
    go_wp2
    go_ret
    exact ⟨rfl, bto0 (bto0 (bto0 (ball (bto0 (ball (Below.refl _ _) _) hb1) _).drew hb3) hb4) hb5⟩

end Go.Proofs.Ytegnoheaglnhhaa
