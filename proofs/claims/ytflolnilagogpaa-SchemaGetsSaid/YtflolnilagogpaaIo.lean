/-
  The program's words on lists: all, fits, below, differ.
-/
import Derived.Test.YtflolnilagogpaaIf
set_option linter.unusedSimpArgs false
set_option linter.unusedVariables false
namespace Go.Proofs.Ytflolnilagogpaa
open Go.RowKit

def vS (l : List ByteArray) : List Value := l.map Value.string
theorem vS_len (l : List ByteArray) : (vS l).length = l.length := by simp [vS]
theorem Reads.str_ {w : World} {B n k : Nat} {A : Option Addr} {l : List ByteArray} (h : Reads w B 1 A n (vS l)) (hk : k < n) : ∃ ad x, A = some ad ∧ ad.block < B ∧ l[k]? = some x ∧ w.cell? (ad.add k) = some (.string x) := by
  obtain ⟨ad, u, hA, hb, hu, hc⟩ := h.at_ hk
  unfold vS at hu
  rw [List.getElem?_map] at hu
  cases hx : l[k]? with
  | none => rw [hx] at hu; cases hu
  | some x => rw [hx] at hu; cases hu; exact ⟨ad, x, hA, hb, rfl, hc⟩
/-- No two of a list are the same. -/
def Apart {α : Type} (l : List α) (n : Nat) : Prop := ∀ i, i < n → ∀ a, l[i]? = some a → ∀ k, k < i → ∀ b, l[k]? = some b → b ≠ a
theorem mem_take {α : Type} {l : List α} {i : Nat} {a : α} : a ∈ l.take i ↔ ∃ k, k < i ∧ l[k]? = some a := by
  constructor
  · intro h
    obtain ⟨k, hk, he⟩ := List.mem_iff_getElem.1 h
    rw [List.length_take] at hk
    refine ⟨k, by omega, ?_⟩
    rw [List.getElem_take] at he
    rw [List.getElem?_eq_getElem (by omega), he]
  · rintro ⟨k, hk, he⟩
    obtain ⟨h1, h2⟩ := List.getElem?_eq_some_iff.1 he
    rw [List.mem_iff_getElem]
    exact ⟨k, by rw [List.length_take]; omega, by rw [List.getElem_take]; exact h2⟩
theorem fits_any (z : Int) (w : World) : Calls Try.prog 41 #[.int .i64 z] w fun e w' => e = .returned (.bool (num31 z)) ∧ w = w' := by
  unfold num31
  by_cases h0 : 0 ≤ z
  · by_cases h1 : z < 2147483648
    · have h2 : z ≤ 2147483647 := by omega
      rw [decide_eq_true h0, decide_eq_true h1]
      go_enter Try.func41, Try.ntmps41
      go_wp2
      go_ret
      exact ⟨by simp [h2], rfl⟩
    · have h2 : ¬ z ≤ 2147483647 := by omega
      rw [decide_eq_true h0, decide_eq_false h1]
      go_enter Try.func41, Try.ntmps41
      go_wp2
      go_ret
      exact ⟨by simp [h2], rfl⟩
  · rw [decide_eq_false h0]
    go_enter Try.func41, Try.ntmps41
    go_wp2
    go_ret
    exact ⟨by simp, rfl⟩
def lowB (n : Nat) (z : Int) : Bool := decide (0 ≤ z) && decide (z < (n : Int))
theorem below_any (n g : Nat) (z : Int) (w : World) (hc : w.cell? ⟨g, 0, none⟩ = some (.int .i64 (n : Int))) : Calls Try.prog 56 #[.int .i64 z, .pointer (some ⟨g, 0, none⟩)] w fun e w' => e = .returned (.bool (lowB n z)) ∧ w = w' := by
  unfold lowB
  by_cases h0 : 0 ≤ z
  · by_cases h1 : z < (n : Int)
    · rw [decide_eq_true h0, decide_eq_true h1]
      go_enter Try.func56, Try.ntmps56
      go_wp2
      go_ret
      exact ⟨by simp [h1], rfl⟩
    · rw [decide_eq_true h0, decide_eq_false h1]
      go_enter Try.func56, Try.ntmps56
      go_wp2
      go_ret
      exact ⟨by simp [h1], rfl⟩
  · rw [decide_eq_false h0]
    go_enter Try.func56, Try.ntmps56
    go_wp2
    go_ret
    exact ⟨by simp, rfl⟩
/-- The test that is made, and where its number lies. -/
theorem mk_below (n : Nat) (w : World) : Calls Try.prog 43 #[.int .i64 (n : Int)] w fun e w' => e = .returned (.func (.func 56) #[] #[.pointer (some ⟨w.heap.size, 0, none⟩)]) ∧ w' = w.alloc (.cells #[.int .i64 (n : Int)] 3) := by
  have hmf : ∀ (fn : Fn) (first cap : Array Value) (w : World), (Instr.makeFunc fn first cap).run Try.prog w = .ok (.func fn first cap) w := fun _ _ _ _ => rfl
  go_enter Try.func43, Try.ntmps43
  go_wp2
  go_ret
  exact ⟨rfl, rfl⟩
set_option maxHeartbeats 1000000 in
theorem allF_any (A : Option Addr) (n c : Nat) (l : List Int) (w : World) (hl : Reads w w.heap.size 1 A n (vI64 l)) (hn : n ≤ maxLen) :
    Calls Try.prog 40 #[.func (.func 41) #[] #[], .slice A n c] w (RetM w (∀ x ∈ l, num31 x = true)) := by
  have hln : l.length = n := by have := hl.1; rw [vI64_len] at this; omega
  unfold maxLen at hn
  have nI : (n : Int) ≤ 9223372036854775807 := by omega
  have TT : Hid (∀ x W, Below w.heap.size w W → Calls Try.prog 41 #[.int .i64 x] W fun e w' => e = .returned (.bool (num31 x)) ∧ W = w') := Lib.hid fun x W hW => fits_any x W
  have HC := Lib.hid (And.intro hl hln)
  clear hl hln hn
  go_enter Try.func40, Try.ntmps40
  go_wp2
  go_loopw [9] (fun v wr => ∃ i : Nat, i ≤ n ∧ v = .int .i64 i ∧ Below w.heap.size w wr ∧ ∀ x ∈ l.take i, num31 x = true) (fun v _ => n - (intOf v).toNat)
  case atStart => exact ⟨0, by omega, rfl, Below.refl _ _, fun x hx => by simp at hx⟩
  case round =>
    obtain ⟨i, hi, rfl, hb, hg'⟩ := hrel
    have q0 : (0 : Int) ≤ (i : Int) := by omega
    by_cases hlt : i < n
    · have q1 : (i : Int) < (n : Int) := by omega
      obtain ⟨ad, x, hA, hab, hx, f0⟩ := (HC.out.1.below hb).i64_ hlt
      subst hA
      have TX := Lib.hid (TT.out x _ hb)
      obtain ⟨b, hbe⟩ : ∃ b, num31 x = b := ⟨_, rfl⟩
      rw [hbe] at TX
      have HG := Lib.hid (And.intro hx (And.intro hb (And.intro hg' hbe)))
      clear hx hb hg' hbe
      cases b with
      | false =>
        go_wp2_with (first | (go_at_call 41; (with_reducible refine TX.out.mono ?_); rintro e w' ⟨rfl, rfl⟩))
        go_ret
        exact ⟨false, rfl, ⟨fun h => (by cases h), fun h => (by have h1 := h x (List.mem_of_getElem? HG.out.1); rw [HG.out.2.2.2] at h1; cases h1)⟩, HG.out.2.1⟩
      | true =>
        go_wp2_with (first | (go_at_call 41; (with_reducible refine TX.out.mono ?_); rintro e w' ⟨rfl, rfl⟩))
        exact ⟨⟨i + 1, by omega, by go_num, HG.out.2.1, fun y hy => by
          rw [List.take_add_one, HG.out.1] at hy
          rcases List.mem_append.1 hy with h1 | h1
          · exact HG.out.2.2.1 y h1
          · simp at h1
            rw [h1]
            exact HG.out.2.2.2⟩, by simp [intOf]; omega⟩
    · obtain rfl : i = n := by omega
      have HL : Hid (∀ x ∈ l, num31 x = true) := Lib.hid fun x hx => hg' x (by rw [List.take_of_length_le (by have := HC.out.2; omega)]; exact hx)
      clear hg'
      go_wp2
      go_ret
      exact ⟨true, rfl, ⟨fun _ => HL.out, fun _ => rfl⟩, hb⟩
set_option maxHeartbeats 1000000 in
theorem allB_any (A : Option Addr) (n c : Nat) (l : List Int) (w : World) (hl : Reads w w.heap.size 1 A n (vI64 l)) (hn : n ≤ maxLen) (N g : Nat) (hg : w.cell? ⟨g, 0, none⟩ = some (.int .i64 (N : Int))) (hgl : g < w.heap.size) :
    Calls Try.prog 40 #[.func (.func 56) #[] #[.pointer (some ⟨g, 0, none⟩)], .slice A n c] w (RetM w (∀ x ∈ l, lowB N x = true)) := by
  have hln : l.length = n := by have := hl.1; rw [vI64_len] at this; omega
  unfold maxLen at hn
  have nI : (n : Int) ≤ 9223372036854775807 := by omega
  have TT : Hid (∀ x W, Below w.heap.size w W → Calls Try.prog 56 #[.int .i64 x, .pointer (some ⟨g, 0, none⟩)] W fun e w' => e = .returned (.bool (lowB N x)) ∧ W = w') := Lib.hid fun x W hW => below_any N g x W ((hW.cell (p := ⟨g, 0, none⟩) hgl).trans hg)
  have HC := Lib.hid (And.intro hl hln)
  clear hl hln hn hg hgl
  go_enter Try.func40, Try.ntmps40
  go_wp2
  go_loopw [9] (fun v wr => ∃ i : Nat, i ≤ n ∧ v = .int .i64 i ∧ Below w.heap.size w wr ∧ ∀ x ∈ l.take i, lowB N x = true) (fun v _ => n - (intOf v).toNat)
  case atStart => exact ⟨0, by omega, rfl, Below.refl _ _, fun x hx => by simp at hx⟩
  case round =>
    obtain ⟨i, hi, rfl, hb, hg'⟩ := hrel
    have q0 : (0 : Int) ≤ (i : Int) := by omega
    by_cases hlt : i < n
    · have q1 : (i : Int) < (n : Int) := by omega
      obtain ⟨ad, x, hA, hab, hx, f0⟩ := (HC.out.1.below hb).i64_ hlt
      subst hA
      have TX := Lib.hid (TT.out x _ hb)
      obtain ⟨b, hbe⟩ : ∃ b, lowB N x = b := ⟨_, rfl⟩
      rw [hbe] at TX
      have HG := Lib.hid (And.intro hx (And.intro hb (And.intro hg' hbe)))
      clear hx hb hg' hbe
      cases b with
      | false =>
        go_wp2_with (first | (go_at_call 56; (with_reducible refine TX.out.mono ?_); rintro e w' ⟨rfl, rfl⟩))
        go_ret
        exact ⟨false, rfl, ⟨fun h => (by cases h), fun h => (by have h1 := h x (List.mem_of_getElem? HG.out.1); rw [HG.out.2.2.2] at h1; cases h1)⟩, HG.out.2.1⟩
      | true =>
        go_wp2_with (first | (go_at_call 56; (with_reducible refine TX.out.mono ?_); rintro e w' ⟨rfl, rfl⟩))
        exact ⟨⟨i + 1, by omega, by go_num, HG.out.2.1, fun y hy => by
          rw [List.take_add_one, HG.out.1] at hy
          rcases List.mem_append.1 hy with h1 | h1
          · exact HG.out.2.2.1 y h1
          · simp at h1
            rw [h1]
            exact HG.out.2.2.2⟩, by simp [intOf]; omega⟩
    · obtain rfl : i = n := by omega
      have HL : Hid (∀ x ∈ l, lowB N x = true) := Lib.hid fun x hx => hg' x (by rw [List.take_of_length_le (by have := HC.out.2; omega)]; exact hx)
      clear hg'
      go_wp2
      go_ret
      exact ⟨true, rfl, ⟨fun _ => HL.out, fun _ => rfl⟩, hb⟩
set_option maxHeartbeats 1000000 in
theorem idxS_any (A : Option Addr) (n c : Nat) (l : List ByteArray) (x : ByteArray) (w : World) (hl : Reads w w.heap.size 1 A n (vS l)) (hn : n ≤ maxLen) :
    Calls Try.prog 55 #[.slice A n c, .string x] w fun e w' => ∃ z : Int, e = .returned (.int .i64 z) ∧ (0 ≤ z ↔ x ∈ l) ∧ w = w' := by
  have hln : l.length = n := by have := hl.1; rw [vS_len] at this; omega
  unfold maxLen at hn
  have nI : (n : Int) ≤ 9223372036854775807 := by omega
  have HC := Lib.hid (And.intro hl hln)
  clear hl hln hn
  go_enter Try.func55, Try.ntmps55
  go_wp2
  go_loop [8] (fun v => ∃ i : Nat, i ≤ n ∧ v = .int .i64 i ∧ x ∉ l.take i) (fun v => n - (intOf v).toNat)
  case atStart => exact ⟨0, by omega, rfl, by simp⟩
  case round =>
    obtain ⟨i, hi, rfl, hg⟩ := hrel
    have q0 : (0 : Int) ≤ (i : Int) := by omega
    by_cases hlt : i < n
    · have q1 : (i : Int) < (n : Int) := by omega
      obtain ⟨ad, y, hA, hab, hy, f0⟩ := HC.out.1.str_ hlt
      subst hA
      obtain ⟨b, he, hbe⟩ : ∃ b : Bool, (x.toList == y.toList) = b ∧ (b = true ↔ x = y) := by
        rcases nm_cases2 x y with ⟨h1, h2⟩ | ⟨h1, h2⟩
        · exact ⟨true, h2, fun _ => nm_bytes _ _ (by rw [ByteArray.toList_eq, ByteArray.toList_eq]; exact h1), fun _ => rfl⟩
        · exact ⟨false, h2, fun h => (by cases h), fun h => absurd (by rw [h]) h1⟩
      have HG := Lib.hid (And.intro hy (And.intro hg hbe))
      clear hy hg hbe
      cases b with
      | true =>
        go_wp2
        go_ret
        exact ⟨i, rfl, ⟨fun _ => by rw [HG.out.2.2.1 (by first | rfl | trivial)]; exact List.mem_of_getElem? HG.out.1, fun _ => by omega⟩, rfl⟩
      | false =>
        go_wp2
        go_round
        case rel => exact ⟨i + 1, by omega, by go_num, fun h => by
          rw [List.take_add_one, HG.out.1] at h
          rcases List.mem_append.1 h with h1 | h1
          · exact HG.out.2.1 h1
          · simp at h1
            have := HG.out.2.2.2 h1
            cases this⟩
        case measure => simp [intOf]; omega
    · obtain rfl : i = n := by omega
      have HL : Hid (x ∉ l) := Lib.hid fun hx => hg (by rw [List.take_of_length_le (by have := HC.out.2; omega)]; exact hx)
      clear hg
      go_wp2
      go_ret
      exact ⟨-1, rfl, ⟨fun h => by omega, fun h => absurd h HL.out⟩, rfl⟩
theorem hasS_any (A : Option Addr) (n c : Nat) (l : List ByteArray) (x : ByteArray) (w : World) (hl : Reads w w.heap.size 1 A n (vS l)) (hn : n ≤ maxLen) :
    Calls Try.prog 42 #[.slice A n c, .string x] w fun e w' => ∃ b : Bool, e = .returned (.bool b) ∧ (b = true ↔ x ∈ l) ∧ w = w' := by
  have IX := Lib.hid (idxS_any A n c l x w hl hn)
  clear hl hn
  go_enter Try.func42, Try.ntmps42
  go_wp2_with fail
  refine IX.out.mono ?_
  rintro e w1 ⟨z, rfl, hz, rfl⟩
  go_wp2
  go_ret
  exact ⟨_, rfl, (by first | (simp; done) | (simp; exact hz)), rfl⟩
set_option maxHeartbeats 1000000 in
theorem differS_any (A : Option Addr) (n c : Nat) (l : List ByteArray) (w : World) (hl : Reads w w.heap.size 1 A n (vS l)) (hn : n ≤ maxLen) (hnc : n ≤ c) :
    Calls Try.prog 21 #[.slice A n c] w (RetM w (Apart l n)) := by
  have hln : l.length = n := by have := hl.1; rw [vS_len] at this; omega
  have hn2 := hn
  unfold maxLen at hn
  have nI : (n : Int) ≤ 9223372036854775807 := by omega
  have ncI : (n : Int) ≤ (c : Int) := by omega
  have HC := Lib.hid (And.intro hl (And.intro hln (And.intro hnc hn2)))
  clear hl hln hn hnc hn2
  go_enter Try.func21, Try.ntmps21
  go_wp2
  go_loopw [7] (fun v wr => ∃ i : Nat, i ≤ n ∧ v = .int .i64 i ∧ Below w.heap.size w wr ∧ Apart l i) (fun v _ => n - (intOf v).toNat)
  case atStart => exact ⟨0, by omega, rfl, Below.refl _ _, fun i hi => by omega⟩
  case round =>
    obtain ⟨i, hi, rfl, hb, hg⟩ := hrel
    have q0 : (0 : Int) ≤ (i : Int) := by omega
    by_cases hlt : i < n
    · have q1 : (i : Int) < (n : Int) := by omega
      have q2 : (i : Int) ≤ (c : Int) := by omega
      obtain ⟨ad, x, hA, hab, hx, f0⟩ := (HC.out.1.below hb).str_ hlt
      subst hA
      have CT := Lib.hid (hasS_any (some ad) i c (l.take i) x _ (by
        have h := ((HC.out.1.below hb).more hb.size).takec i (by omega)
        rwa [Nat.mul_one, show (vS l).take i = vS (l.take i) from by unfold vS; rw [List.map_take]] at h) (by have := HC.out.2.2.2; omega))
      have HG := Lib.hid (And.intro hx (And.intro hb hg))
      clear hx hb hg
      go_wp2_with fail
      refine CT.out.mono ?_
      rintro e w1 ⟨b, rfl, hbi, rfl⟩
      have HBI := Lib.hid hbi
      clear hbi
      cases b with
      | true =>
        go_wp2
        go_ret
        exact ⟨false, rfl, ⟨fun h => (by cases h), fun h => (by
          obtain ⟨k, hk, he⟩ := mem_take.1 (HBI.out.1 (by first | rfl | trivial))
          exact absurd rfl (h i hlt x HG.out.1 k hk x he))⟩, HG.out.2.1⟩
      | false =>
        go_wp2
        exact ⟨⟨i + 1, by omega, by go_num, HG.out.2.1, fun j hj a ha k hk b hbk => by
          by_cases hji : j < i
          · exact HG.out.2.2 j hji a ha k hk b hbk
          · obtain rfl : j = i := by omega
            rw [HG.out.1] at ha
            cases ha
            intro hba
            subst hba
            have := HBI.out.2 (mem_take.2 ⟨k, hk, hbk⟩)
            cases this⟩, by simp [intOf]; omega⟩
    · obtain rfl : i = n := by omega
      have HG := Lib.hid hg
      clear hg
      go_wp2
      go_ret
      exact ⟨true, rfl, ⟨fun _ => HG.out, fun _ => rfl⟩, hb⟩
set_option maxHeartbeats 1000000 in
theorem idxI_any (A : Option Addr) (n c : Nat) (l : List Int) (x : Int) (w : World) (hl : Reads w w.heap.size 1 A n (vI64 l)) (hn : n ≤ maxLen) :
    Calls Try.prog 58 #[.slice A n c, .int .i64 x] w fun e w' => ∃ z : Int, e = .returned (.int .i64 z) ∧ (0 ≤ z ↔ x ∈ l) ∧ w = w' := by
  have hln : l.length = n := by have := hl.1; rw [vI64_len] at this; omega
  unfold maxLen at hn
  have nI : (n : Int) ≤ 9223372036854775807 := by omega
  have HC := Lib.hid (And.intro hl hln)
  clear hl hln hn
  go_enter Try.func58, Try.ntmps58
  go_wp2
  go_loop [8] (fun v => ∃ i : Nat, i ≤ n ∧ v = .int .i64 i ∧ x ∉ l.take i) (fun v => n - (intOf v).toNat)
  case atStart => exact ⟨0, by omega, rfl, by simp⟩
  case round =>
    obtain ⟨i, hi, rfl, hg⟩ := hrel
    have q0 : (0 : Int) ≤ (i : Int) := by omega
    by_cases hlt : i < n
    · have q1 : (i : Int) < (n : Int) := by omega
      obtain ⟨ad, y, hA, hab, hy, f0⟩ := HC.out.1.i64_ hlt
      subst hA
      obtain ⟨b, he, hbe⟩ : ∃ b : Bool, (x == y) = b ∧ (b = true ↔ x = y) := by
        exact ⟨_, rfl, by simp⟩
      have HG := Lib.hid (And.intro hy (And.intro hg hbe))
      clear hy hg hbe
      cases b with
      | true =>
        go_wp2
        go_ret
        exact ⟨i, rfl, ⟨fun _ => by rw [HG.out.2.2.1 (by first | rfl | trivial)]; exact List.mem_of_getElem? HG.out.1, fun _ => by omega⟩, rfl⟩
      | false =>
        go_wp2
        go_round
        case rel => exact ⟨i + 1, by omega, by go_num, fun h => by
          rw [List.take_add_one, HG.out.1] at h
          rcases List.mem_append.1 h with h1 | h1
          · exact HG.out.2.1 h1
          · simp at h1
            have := HG.out.2.2.2 h1
            cases this⟩
        case measure => simp [intOf]; omega
    · obtain rfl : i = n := by omega
      have HL : Hid (x ∉ l) := Lib.hid fun hx => hg (by rw [List.take_of_length_le (by have := HC.out.2; omega)]; exact hx)
      clear hg
      go_wp2
      go_ret
      exact ⟨-1, rfl, ⟨fun h => by omega, fun h => absurd h HL.out⟩, rfl⟩
theorem hasI_any (A : Option Addr) (n c : Nat) (l : List Int) (x : Int) (w : World) (hl : Reads w w.heap.size 1 A n (vI64 l)) (hn : n ≤ maxLen) :
    Calls Try.prog 57 #[.slice A n c, .int .i64 x] w fun e w' => ∃ b : Bool, e = .returned (.bool b) ∧ (b = true ↔ x ∈ l) ∧ w = w' := by
  have IX := Lib.hid (idxI_any A n c l x w hl hn)
  clear hl hn
  go_enter Try.func57, Try.ntmps57
  go_wp2_with fail
  refine IX.out.mono ?_
  rintro e w1 ⟨z, rfl, hz, rfl⟩
  go_wp2
  go_ret
  exact ⟨_, rfl, (by first | (simp; done) | (simp; exact hz)), rfl⟩
set_option maxHeartbeats 1000000 in
theorem differI_any (A : Option Addr) (n c : Nat) (l : List Int) (w : World) (hl : Reads w w.heap.size 1 A n (vI64 l)) (hn : n ≤ maxLen) (hnc : n ≤ c) :
    Calls Try.prog 44 #[.slice A n c] w (RetM w (Apart l n)) := by
  have hln : l.length = n := by have := hl.1; rw [vI64_len] at this; omega
  have hn2 := hn
  unfold maxLen at hn
  have nI : (n : Int) ≤ 9223372036854775807 := by omega
  have ncI : (n : Int) ≤ (c : Int) := by omega
  have HC := Lib.hid (And.intro hl (And.intro hln (And.intro hnc hn2)))
  clear hl hln hn hnc hn2
  go_enter Try.func44, Try.ntmps44
  go_wp2
  go_loopw [7] (fun v wr => ∃ i : Nat, i ≤ n ∧ v = .int .i64 i ∧ Below w.heap.size w wr ∧ Apart l i) (fun v _ => n - (intOf v).toNat)
  case atStart => exact ⟨0, by omega, rfl, Below.refl _ _, fun i hi => by omega⟩
  case round =>
    obtain ⟨i, hi, rfl, hb, hg⟩ := hrel
    have q0 : (0 : Int) ≤ (i : Int) := by omega
    by_cases hlt : i < n
    · have q1 : (i : Int) < (n : Int) := by omega
      have q2 : (i : Int) ≤ (c : Int) := by omega
      obtain ⟨ad, x, hA, hab, hx, f0⟩ := (HC.out.1.below hb).i64_ hlt
      subst hA
      have CT := Lib.hid (hasI_any (some ad) i c (l.take i) x _ (by
        have h := ((HC.out.1.below hb).more hb.size).takec i (by omega)
        rwa [Nat.mul_one, show (vI64 l).take i = vI64 (l.take i) from by unfold vI64; rw [List.map_take]] at h) (by have := HC.out.2.2.2; omega))
      have HG := Lib.hid (And.intro hx (And.intro hb hg))
      clear hx hb hg
      go_wp2_with fail
      refine CT.out.mono ?_
      rintro e w1 ⟨b, rfl, hbi, rfl⟩
      have HBI := Lib.hid hbi
      clear hbi
      cases b with
      | true =>
        go_wp2
        go_ret
        exact ⟨false, rfl, ⟨fun h => (by cases h), fun h => (by
          obtain ⟨k, hk, he⟩ := mem_take.1 (HBI.out.1 (by first | rfl | trivial))
          exact absurd rfl (h i hlt x HG.out.1 k hk x he))⟩, HG.out.2.1⟩
      | false =>
        go_wp2
        exact ⟨⟨i + 1, by omega, by go_num, HG.out.2.1, fun j hj a ha k hk b hbk => by
          by_cases hji : j < i
          · exact HG.out.2.2 j hji a ha k hk b hbk
          · obtain rfl : j = i := by omega
            rw [HG.out.1] at ha
            cases ha
            intro hba
            subst hba
            have := HBI.out.2 (mem_take.2 ⟨k, hk, hbk⟩)
            cases this⟩, by simp [intOf]; omega⟩
    · obtain rfl : i = n := by omega
      have HG := Lib.hid hg
      clear hg
      go_wp2
      go_ret
      exact ⟨true, rfl, ⟨fun _ => HG.out, fun _ => rfl⟩, hb⟩
end Go.Proofs.Ytflolnilagogpaa
