/-
  Several texts in one: Is Io.
-/
import Derived.Test.YtflolnilagogpaaMge
import Derived.Test.YtflolnilagogpaaMgd
import Derived.Test.YtflolnilagogpaaMgh
/-
  The program's writing: texts, numbers.
-/
namespace Go.Proofs.Ytflolnilagogpaa
section
set_option linter.unusedSimpArgs false
set_option linter.unusedVariables false
open Go.RowKit

def RetOwn (w : World) (base : Nat) (l : List UInt8) (e : Ending) (w' : World) : Prop := ∃ v', e = .returned v' ∧ Own w' base v' l ∧ Keeps base w w'
theorem reads_blk {w : World} {g n : Nat} {t : TypeId} {cs : Array Value} {xs : List Value} (h : Blk w g t cs) (hx : xs = cs.toList) (hn : xs.length = n) : Reads w w.heap.size 1 (some ⟨g, 0, none⟩) n xs := by
  refine ⟨by omega, fun _ => ⟨⟨g, 0, none⟩, rfl, h.lt, fun k u hu => ?_⟩⟩
  rw [add_head, h.cell k, ← Array.getElem?_toList, ← hx]
  exact hu
set_option maxHeartbeats 1000000 in
theorem putText_any (sv : Value) (l : List UInt8) (s : ByteArray) (w : World) (base : Nat) (hown : Own w base sv l) (hb : base ≤ w.heap.size) (hs : s.size ≤ 24) (hlen : l.length ≤ 100000000) :
    Calls Try.prog 38 #[sv, .string s] w (RetOwn w base (l ++ txtB s.data.toList)) := by
  have h0 : IntKind.u8.wrap (s.size : Int) = ((UInt8.ofNat s.size).toNat : Int) := by rw [u8_nat, IntKind.wrap_u8]
  have h0' : (s.size : Int) = ((UInt8.ofNat s.size).toNat : Int) := by rw [u8_nat]; omega
  have HL := Lib.hid (And.intro hlen (And.intro hs (And.intro h0 h0')))
  clear hlen h0 h0'
  have hsI : (s.size : Int) ≤ 24 := by omega
  have e1 : l ++ txtB s.data.toList = l ++ [UInt8.ofNat s.size] ++ s.data.toList := by unfold txtB; first | (simp; done) | (simp; rfl)
  have HE := Lib.hid e1
  clear e1
  go_enter Try.func38, Try.ntmps38
  go_wp2_with (first
    | (at_builtin; refine wpList_pushB rfl _ _ rfl base sv l (UInt8.ofNat s.size) _ rfl hown _ rfl rfl (by first | exact HL.out.2.2.1 | exact HL.out.2.2.2) (by have := HL.out.1; omega) hb ?_; intro v2 w2 own2 kp2)
    | (at_builtin; refine wpList_appS rfl _ _ rfl base v2 _ s rfl own2 rfl (by have := HL.out.1; have := HL.out.2.1; simp; omega) (Nat.le_trans hb kp2.size) ?_; intro v3 w3 own3 kp3))
  go_ret
  exact ⟨_, rfl, by rw [HE.out]; exact own3, kp2.trans kp3⟩
theorem four_flat : ∀ q : List Int, (q.flatMap fourB).length ≤ 4 * q.length
  | [] => by simp
  | a :: r => by
    have h1 : (fourB a).length = 4 := by unfold fourB; exact be_len 4 _
    have h2 := four_flat r
    rw [List.flatMap_cons, List.length_append, List.length_cons]
    omega
theorem bL_be4 {U : Nat} (h : U < 2147483648) : [Value.int .u8 ((U : Int) / 16777216), .int .u8 ((U : Int) / 65536 % 256), .int .u8 ((U : Int) / 256 % 256), .int .u8 ((U : Int) % 256)] = bL (be 4 U) := by
  have b0 : (U : Int) / 16777216 = ((UInt8.ofNat (U / 256 ^ 3)).toNat : Int) := by rw [u8_nat]; omega
  have b1 : (U : Int) / 65536 % 256 = ((UInt8.ofNat (U / 256 ^ 2)).toNat : Int) := by rw [u8_nat]; omega
  have b2 : (U : Int) / 256 % 256 = ((UInt8.ofNat (U / 256 ^ 1)).toNat : Int) := by rw [u8_nat]; omega
  have b3 : (U : Int) % 256 = ((UInt8.ofNat (U / 256 ^ 0)).toNat : Int) := by rw [u8_nat]; simp
  rw [b0, b1, b2, b3]
  rw [be_cons, be_cons, be_cons, be_cons]
  rfl
theorem shr_any {U d : Nat} : (U : Int) / 2 ^ (8 * d) % 256 = ((UInt8.ofNat (U / 256 ^ d)).toNat : Int) := by
  have h2 : (2 : Int) ^ (8 * d) = ((256 ^ d : Nat) : Int) := by
    rw [Int.pow_mul, Int.natCast_pow]
    rfl
  rw [h2, u8_nat, Int.natCast_ediv]
set_option maxRecDepth 100000 in
set_option maxHeartbeats 2000000 in
theorem putNumbers_any (sv : Value) (l : List UInt8) (A : Option Addr) (n c : Nat) (ns : List Int) (w : World) (base : Nat) (hown : Own w base sv l) (hb : base ≤ w.heap.size) (hlen : l.length ≤ 100000000) (hn : n ≤ 10)
    (hr : ∀ W, Keeps base w W → ∃ B, Reads W B 1 A n (vI64 ns)) (h31 : ∀ z ∈ ns, num31 z = true) :
    Calls Try.prog 39 #[sv, .slice A n c] w (RetOwn w base (l ++ ns.flatMap fourB)) := by
  have hln : ns.length = n := by obtain ⟨B, h⟩ := hr w (Keeps.refl _ _); have := h.1; rw [vI64_len] at this; omega
  have nI : (n : Int) ≤ 10 := by omega
  have HC := Lib.hid (And.intro hr (And.intro h31 (And.intro hln hlen)))
  clear hr h31 hln hlen
  go_enter Try.func39, Try.ntmps39
  go_wp2
  go_loopw [0, 9] (fun bv iv wr => ∃ j : Nat, j ≤ n ∧ iv = .int .i64 j ∧ Own wr base bv (l ++ (ns.take j).flatMap fourB) ∧ Keeps base w wr) (fun _ iv _ => n - (intOf iv).toNat)
  case atStart => exact ⟨0, by omega, rfl, by rw [List.take_zero, List.flatMap_nil, List.append_nil]; exact hown, Keeps.refl _ _⟩
  case round =>
    obtain ⟨j, hj, rfl, hown2, hkp⟩ := hrel
    have q0 : (0 : Int) ≤ (j : Int) := by omega
    have hbr := Nat.le_trans hb hkp.size
    by_cases hlt : j < n
    · have q1 : (j : Int) < (n : Int) := by omega
      obtain ⟨B, hrd⟩ := HC.out.1 _ hkp
      obtain ⟨ad, z, hA, hab, hz, f0⟩ : ∃ ad x, A = some ad ∧ ad.block < B ∧ ns[j]? = some x ∧ wr.cell? (ad.add j) = some (.int .i64 x) := by
        obtain ⟨ad, u, hA, hb, hu, hc⟩ := hrd.at_ hlt
        obtain ⟨x, hx, rfl⟩ := vI64_at hu
        exact ⟨ad, x, hA, hb, hx, hc⟩
      subst hA
      have hz31 := num31_iff.1 (HC.out.2.1 z (List.mem_of_getElem? hz))
      obtain ⟨U, rfl⟩ : ∃ U : Nat, z = U := ⟨z.toNat, by omega⟩
      have u0 : (0 : Int) ≤ (U : Int) := by omega
      have u1 : (U : Int) < 2147483648 := by omega
      have hft : (ns.take (j + 1)).flatMap fourB = (ns.take j).flatMap fourB ++ be 4 U := by
        rw [List.take_add_one, hz]
        simp [fourB]
      have hl2 : (l ++ (ns.take j).flatMap fourB).length ≤ 100000200 := by
        have h1 : ((ns.take j).flatMap fourB).length ≤ 4 * (ns.take j).length := by
          exact four_flat _
        have h2 : (ns.take j).length ≤ 10 := by rw [List.length_take]; omega
        have := HC.out.2.2.2
        rw [List.length_append]; omega
      have HN := Lib.hid (And.intro hft hl2)
      clear hz hz31 hft hl2 hrd hab
      have hU := u1
      go_wp2_with (at_builtin; refine wpList_appR (w := wr.alloc _) rfl _ _ rfl base _ (l ++ (ns.take j).flatMap fourB) (be 4 U) (some ⟨wr.heap.size, 0, none⟩) 4 4 (wr.heap.size + 1) (by first | rfl | (simp; done)) (hown2.alloc _) (by first | rfl | (simp; done)) (by rw [← bL_be4 (by omega)]; exact reads_new wr _ _ rfl rfl) (by have := HN.out.2; rw [be_len]; omega) (by simp; omega) ?_; intro v2 w2 own2 kp2)
      go_roundw
      case rel => exact ⟨j + 1, by omega, by go_num, by rw [HN.out.1, ← List.append_assoc]; exact own2, hkp.trans ((Keeps.alloc_ hbr _).trans kp2)⟩
      case measure => simp [intOf]; omega
    · obtain rfl : j = n := by omega
      have hT : ns.take j = ns := List.take_of_length_le (by have := HC.out.2.2.1; omega)
      rw [hT] at hown2
      clear hT
      go_wp2
      go_ret
      exact ⟨_, rfl, hown2, hkp⟩
end
end Go.Proofs.Ytflolnilagogpaa
/-
  The program's words on lists: all, fits, below, differ.
-/
namespace Go.Proofs.Ytflolnilagogpaa
section
set_option linter.unusedSimpArgs false
set_option linter.unusedVariables false
open Go.RowKit

def vS (l : List ByteArray) : List Value := l.map Value.string
theorem vS_len (l : List ByteArray) : (vS l).length = l.length := by simp [vS]
theorem Reads.str_ {w : World} {B n k : Nat} {A : Option Addr} {l : List ByteArray} (h : Reads w B 1 A n (vS l)) (hk : k < n) : ∃ ad x, A = some ad ∧ ad.block < B ∧ l[k]? = some x ∧ w.cell? (ad.add k) = some (.string x) := by
  obtain ⟨ad, u, hA, hb, hu, hc⟩ := h.at_ hk
  unfold vS at hu
  rw [List.getElem?_map] at hu
  cases hx : l[k]? with
  | none => rw [hx] at hu; cases hu
  | some x => rw [hx] at hu; cases hu; exact ⟨ad, x, hA, hb, rfl, hc⟩
/-- No two of a list are the same. -/
def Apart {α : Type} (l : List α) (n : Nat) : Prop := ∀ i, i < n → ∀ a, l[i]? = some a → ∀ k, k < i → ∀ b, l[k]? = some b → b ≠ a
theorem mem_take {α : Type} {l : List α} {i : Nat} {a : α} : a ∈ l.take i ↔ ∃ k, k < i ∧ l[k]? = some a := by
  constructor
  · intro h
    obtain ⟨k, hk, he⟩ := List.mem_iff_getElem.1 h
    rw [List.length_take] at hk
    refine ⟨k, by omega, ?_⟩
    rw [List.getElem_take] at he
    rw [List.getElem?_eq_getElem (by omega), he]
  · rintro ⟨k, hk, he⟩
    obtain ⟨h1, h2⟩ := List.getElem?_eq_some_iff.1 he
    rw [List.mem_iff_getElem]
    exact ⟨k, by rw [List.length_take]; omega, by rw [List.getElem_take]; exact h2⟩
theorem fits_any (z : Int) (w : World) : Calls Try.prog 41 #[.int .i64 z] w fun e w' => e = .returned (.bool (num31 z)) ∧ w = w' := by
  unfold num31
  by_cases h0 : 0 ≤ z
  · by_cases h1 : z < 2147483648
    · have h2 : z ≤ 2147483647 := by omega
      rw [decide_eq_true h0, decide_eq_true h1]
      go_enter Try.func41, Try.ntmps41
      go_wp2
      go_ret
      exact ⟨by simp [h2], rfl⟩
    · have h2 : ¬ z ≤ 2147483647 := by omega
      rw [decide_eq_true h0, decide_eq_false h1]
      go_enter Try.func41, Try.ntmps41
      go_wp2
      go_ret
      exact ⟨by simp [h2], rfl⟩
  · rw [decide_eq_false h0]
    go_enter Try.func41, Try.ntmps41
    go_wp2
    go_ret
    exact ⟨by simp, rfl⟩
def lowB (n : Nat) (z : Int) : Bool := decide (0 ≤ z) && decide (z < (n : Int))
theorem below_any (n g : Nat) (z : Int) (w : World) (hc : w.cell? ⟨g, 0, none⟩ = some (.int .i64 (n : Int))) : Calls Try.prog 56 #[.int .i64 z, .pointer (some ⟨g, 0, none⟩)] w fun e w' => e = .returned (.bool (lowB n z)) ∧ w = w' := by
  unfold lowB
  by_cases h0 : 0 ≤ z
  · by_cases h1 : z < (n : Int)
    · rw [decide_eq_true h0, decide_eq_true h1]
      go_enter Try.func56, Try.ntmps56
      go_wp2
      go_ret
      exact ⟨by simp [h1], rfl⟩
    · rw [decide_eq_true h0, decide_eq_false h1]
      go_enter Try.func56, Try.ntmps56
      go_wp2
      go_ret
      exact ⟨by simp [h1], rfl⟩
  · rw [decide_eq_false h0]
    go_enter Try.func56, Try.ntmps56
    go_wp2
    go_ret
    exact ⟨by simp, rfl⟩
/-- The test that is made, and where its number lies. -/
theorem mk_below (n : Nat) (w : World) : Calls Try.prog 43 #[.int .i64 (n : Int)] w fun e w' => e = .returned (.func (.func 56) #[] #[.pointer (some ⟨w.heap.size, 0, none⟩)]) ∧ w' = w.alloc (.cells #[.int .i64 (n : Int)] 3) := by
  have hmf : ∀ (fn : Fn) (first cap : Array Value) (w : World), (Instr.makeFunc fn first cap).run Try.prog w = .ok (.func fn first cap) w := fun _ _ _ _ => rfl
  go_enter Try.func43, Try.ntmps43
  go_wp2
  go_ret
  exact ⟨rfl, rfl⟩
set_option maxHeartbeats 1000000 in
theorem allF_any (A : Option Addr) (n c : Nat) (l : List Int) (w : World) (hl : Reads w w.heap.size 1 A n (vI64 l)) (hn : n ≤ maxLen) :
    Calls Try.prog 40 #[.func (.func 41) #[] #[], .slice A n c] w (RetM w (∀ x ∈ l, num31 x = true)) := by
  have hln : l.length = n := by have := hl.1; rw [vI64_len] at this; omega
  unfold maxLen at hn
  have nI : (n : Int) ≤ 9223372036854775807 := by omega
  have TT : Hid (∀ x W, Below w.heap.size w W → Calls Try.prog 41 #[.int .i64 x] W fun e w' => e = .returned (.bool (num31 x)) ∧ W = w') := Lib.hid fun x W hW => fits_any x W
  have HC := Lib.hid (And.intro hl hln)
  clear hl hln hn
  go_enter Try.func40, Try.ntmps40
  go_wp2
  go_loopw [9] (fun v wr => ∃ i : Nat, i ≤ n ∧ v = .int .i64 i ∧ Below w.heap.size w wr ∧ ∀ x ∈ l.take i, num31 x = true) (fun v _ => n - (intOf v).toNat)
  case atStart => exact ⟨0, by omega, rfl, Below.refl _ _, fun x hx => by simp at hx⟩
  case round =>
    obtain ⟨i, hi, rfl, hb, hg'⟩ := hrel
    have q0 : (0 : Int) ≤ (i : Int) := by omega
    by_cases hlt : i < n
    · have q1 : (i : Int) < (n : Int) := by omega
      obtain ⟨ad, x, hA, hab, hx, f0⟩ := (HC.out.1.below hb).i64_ hlt
      subst hA
      have TX := Lib.hid (TT.out x _ hb)
      obtain ⟨b, hbe⟩ : ∃ b, num31 x = b := ⟨_, rfl⟩
      rw [hbe] at TX
      have HG := Lib.hid (And.intro hx (And.intro hb (And.intro hg' hbe)))
      clear hx hb hg' hbe
      cases b with
      | false =>
        go_wp2_with (first | (go_at_call 41; (with_reducible refine TX.out.mono ?_); rintro e w' ⟨rfl, rfl⟩))
        go_ret
        exact ⟨false, rfl, ⟨fun h => (by cases h), fun h => (by have h1 := h x (List.mem_of_getElem? HG.out.1); rw [HG.out.2.2.2] at h1; cases h1)⟩, HG.out.2.1⟩
      | true =>
        go_wp2_with (first | (go_at_call 41; (with_reducible refine TX.out.mono ?_); rintro e w' ⟨rfl, rfl⟩))
        exact ⟨⟨i + 1, by omega, by go_num, HG.out.2.1, fun y hy => by
          rw [List.take_add_one, HG.out.1] at hy
          rcases List.mem_append.1 hy with h1 | h1
          · exact HG.out.2.2.1 y h1
          · simp at h1
            rw [h1]
            exact HG.out.2.2.2⟩, by simp [intOf]; omega⟩
    · obtain rfl : i = n := by omega
      have HL : Hid (∀ x ∈ l, num31 x = true) := Lib.hid fun x hx => hg' x (by rw [List.take_of_length_le (by have := HC.out.2; omega)]; exact hx)
      clear hg'
      go_wp2
      go_ret
      exact ⟨true, rfl, ⟨fun _ => HL.out, fun _ => rfl⟩, hb⟩
set_option maxHeartbeats 1000000 in
theorem allB_any (A : Option Addr) (n c : Nat) (l : List Int) (w : World) (hl : Reads w w.heap.size 1 A n (vI64 l)) (hn : n ≤ maxLen) (N g : Nat) (hg : w.cell? ⟨g, 0, none⟩ = some (.int .i64 (N : Int))) (hgl : g < w.heap.size) :
    Calls Try.prog 40 #[.func (.func 56) #[] #[.pointer (some ⟨g, 0, none⟩)], .slice A n c] w (RetM w (∀ x ∈ l, lowB N x = true)) := by
  have hln : l.length = n := by have := hl.1; rw [vI64_len] at this; omega
  unfold maxLen at hn
  have nI : (n : Int) ≤ 9223372036854775807 := by omega
  have TT : Hid (∀ x W, Below w.heap.size w W → Calls Try.prog 56 #[.int .i64 x, .pointer (some ⟨g, 0, none⟩)] W fun e w' => e = .returned (.bool (lowB N x)) ∧ W = w') := Lib.hid fun x W hW => below_any N g x W ((hW.cell (p := ⟨g, 0, none⟩) hgl).trans hg)
  have HC := Lib.hid (And.intro hl hln)
  clear hl hln hn hg hgl
  go_enter Try.func40, Try.ntmps40
  go_wp2
  go_loopw [9] (fun v wr => ∃ i : Nat, i ≤ n ∧ v = .int .i64 i ∧ Below w.heap.size w wr ∧ ∀ x ∈ l.take i, lowB N x = true) (fun v _ => n - (intOf v).toNat)
  case atStart => exact ⟨0, by omega, rfl, Below.refl _ _, fun x hx => by simp at hx⟩
  case round =>
    obtain ⟨i, hi, rfl, hb, hg'⟩ := hrel
    have q0 : (0 : Int) ≤ (i : Int) := by omega
    by_cases hlt : i < n
    · have q1 : (i : Int) < (n : Int) := by omega
      obtain ⟨ad, x, hA, hab, hx, f0⟩ := (HC.out.1.below hb).i64_ hlt
      subst hA
      have TX := Lib.hid (TT.out x _ hb)
      obtain ⟨b, hbe⟩ : ∃ b, lowB N x = b := ⟨_, rfl⟩
      rw [hbe] at TX
      have HG := Lib.hid (And.intro hx (And.intro hb (And.intro hg' hbe)))
      clear hx hb hg' hbe
      cases b with
      | false =>
        go_wp2_with (first | (go_at_call 56; (with_reducible refine TX.out.mono ?_); rintro e w' ⟨rfl, rfl⟩))
        go_ret
        exact ⟨false, rfl, ⟨fun h => (by cases h), fun h => (by have h1 := h x (List.mem_of_getElem? HG.out.1); rw [HG.out.2.2.2] at h1; cases h1)⟩, HG.out.2.1⟩
      | true =>
        go_wp2_with (first | (go_at_call 56; (with_reducible refine TX.out.mono ?_); rintro e w' ⟨rfl, rfl⟩))
        exact ⟨⟨i + 1, by omega, by go_num, HG.out.2.1, fun y hy => by
          rw [List.take_add_one, HG.out.1] at hy
          rcases List.mem_append.1 hy with h1 | h1
          · exact HG.out.2.2.1 y h1
          · simp at h1
            rw [h1]
            exact HG.out.2.2.2⟩, by simp [intOf]; omega⟩
    · obtain rfl : i = n := by omega
      have HL : Hid (∀ x ∈ l, lowB N x = true) := Lib.hid fun x hx => hg' x (by rw [List.take_of_length_le (by have := HC.out.2; omega)]; exact hx)
      clear hg'
      go_wp2
      go_ret
      exact ⟨true, rfl, ⟨fun _ => HL.out, fun _ => rfl⟩, hb⟩
set_option maxHeartbeats 1000000 in
theorem idxS_any (A : Option Addr) (n c : Nat) (l : List ByteArray) (x : ByteArray) (w : World) (hl : Reads w w.heap.size 1 A n (vS l)) (hn : n ≤ maxLen) :
    Calls Try.prog 55 #[.slice A n c, .string x] w fun e w' => ∃ z : Int, e = .returned (.int .i64 z) ∧ (0 ≤ z ↔ x ∈ l) ∧ w = w' := by
  have hln : l.length = n := by have := hl.1; rw [vS_len] at this; omega
  unfold maxLen at hn
  have nI : (n : Int) ≤ 9223372036854775807 := by omega
  have HC := Lib.hid (And.intro hl hln)
  clear hl hln hn
  go_enter Try.func55, Try.ntmps55
  go_wp2
  go_loop [8] (fun v => ∃ i : Nat, i ≤ n ∧ v = .int .i64 i ∧ x ∉ l.take i) (fun v => n - (intOf v).toNat)
  case atStart => exact ⟨0, by omega, rfl, by simp⟩
  case round =>
    obtain ⟨i, hi, rfl, hg⟩ := hrel
    have q0 : (0 : Int) ≤ (i : Int) := by omega
    by_cases hlt : i < n
    · have q1 : (i : Int) < (n : Int) := by omega
      obtain ⟨ad, y, hA, hab, hy, f0⟩ := HC.out.1.str_ hlt
      subst hA
      obtain ⟨b, he, hbe⟩ : ∃ b : Bool, (x.toList == y.toList) = b ∧ (b = true ↔ x = y) := by
        rcases nm_cases2 x y with ⟨h1, h2⟩ | ⟨h1, h2⟩
        · exact ⟨true, h2, fun _ => nm_bytes _ _ (by rw [ByteArray.toList_eq, ByteArray.toList_eq]; exact h1), fun _ => rfl⟩
        · exact ⟨false, h2, fun h => (by cases h), fun h => absurd (by rw [h]) h1⟩
      have HG := Lib.hid (And.intro hy (And.intro hg hbe))
      clear hy hg hbe
      cases b with
      | true =>
        go_wp2
        go_ret
        exact ⟨i, rfl, ⟨fun _ => by rw [HG.out.2.2.1 (by first | rfl | trivial)]; exact List.mem_of_getElem? HG.out.1, fun _ => by omega⟩, rfl⟩
      | false =>
        go_wp2
        go_round
        case rel => exact ⟨i + 1, by omega, by go_num, fun h => by
          rw [List.take_add_one, HG.out.1] at h
          rcases List.mem_append.1 h with h1 | h1
          · exact HG.out.2.1 h1
          · simp at h1
            have := HG.out.2.2.2 h1
            cases this⟩
        case measure => simp [intOf]; omega
    · obtain rfl : i = n := by omega
      have HL : Hid (x ∉ l) := Lib.hid fun hx => hg (by rw [List.take_of_length_le (by have := HC.out.2; omega)]; exact hx)
      clear hg
      go_wp2
      go_ret
      exact ⟨-1, rfl, ⟨fun h => by omega, fun h => absurd h HL.out⟩, rfl⟩
theorem hasS_any (A : Option Addr) (n c : Nat) (l : List ByteArray) (x : ByteArray) (w : World) (hl : Reads w w.heap.size 1 A n (vS l)) (hn : n ≤ maxLen) :
    Calls Try.prog 42 #[.slice A n c, .string x] w fun e w' => ∃ b : Bool, e = .returned (.bool b) ∧ (b = true ↔ x ∈ l) ∧ w = w' := by
  have IX := Lib.hid (idxS_any A n c l x w hl hn)
  clear hl hn
  go_enter Try.func42, Try.ntmps42
  go_wp2_with fail
  refine IX.out.mono ?_
  rintro e w1 ⟨z, rfl, hz, rfl⟩
  go_wp2
  go_ret
  exact ⟨_, rfl, (by first | (simp; done) | (simp; exact hz)), rfl⟩
set_option maxHeartbeats 1000000 in
theorem differS_any (A : Option Addr) (n c : Nat) (l : List ByteArray) (w : World) (hl : Reads w w.heap.size 1 A n (vS l)) (hn : n ≤ maxLen) (hnc : n ≤ c) :
    Calls Try.prog 21 #[.slice A n c] w (RetM w (Apart l n)) := by
  have hln : l.length = n := by have := hl.1; rw [vS_len] at this; omega
  have hn2 := hn
  unfold maxLen at hn
  have nI : (n : Int) ≤ 9223372036854775807 := by omega
  have ncI : (n : Int) ≤ (c : Int) := by omega
  have HC := Lib.hid (And.intro hl (And.intro hln (And.intro hnc hn2)))
  clear hl hln hn hnc hn2
  go_enter Try.func21, Try.ntmps21
  go_wp2
  go_loopw [7] (fun v wr => ∃ i : Nat, i ≤ n ∧ v = .int .i64 i ∧ Below w.heap.size w wr ∧ Apart l i) (fun v _ => n - (intOf v).toNat)
  case atStart => exact ⟨0, by omega, rfl, Below.refl _ _, fun i hi => by omega⟩
  case round =>
    obtain ⟨i, hi, rfl, hb, hg⟩ := hrel
    have q0 : (0 : Int) ≤ (i : Int) := by omega
    by_cases hlt : i < n
    · have q1 : (i : Int) < (n : Int) := by omega
      have q2 : (i : Int) ≤ (c : Int) := by omega
      obtain ⟨ad, x, hA, hab, hx, f0⟩ := (HC.out.1.below hb).str_ hlt
      subst hA
      have CT := Lib.hid (hasS_any (some ad) i c (l.take i) x _ (by
        have h := ((HC.out.1.below hb).more hb.size).takec i (by omega)
        rwa [Nat.mul_one, show (vS l).take i = vS (l.take i) from by unfold vS; rw [List.map_take]] at h) (by have := HC.out.2.2.2; omega))
      have HG := Lib.hid (And.intro hx (And.intro hb hg))
      clear hx hb hg
      go_wp2_with fail
      refine CT.out.mono ?_
      rintro e w1 ⟨b, rfl, hbi, rfl⟩
      have HBI := Lib.hid hbi
      clear hbi
      cases b with
      | true =>
        go_wp2
        go_ret
        exact ⟨false, rfl, ⟨fun h => (by cases h), fun h => (by
          obtain ⟨k, hk, he⟩ := mem_take.1 (HBI.out.1 (by first | rfl | trivial))
          exact absurd rfl (h i hlt x HG.out.1 k hk x he))⟩, HG.out.2.1⟩
      | false =>
        go_wp2
        exact ⟨⟨i + 1, by omega, by go_num, HG.out.2.1, fun j hj a ha k hk b hbk => by
          by_cases hji : j < i
          · exact HG.out.2.2 j hji a ha k hk b hbk
          · obtain rfl : j = i := by omega
            rw [HG.out.1] at ha
            cases ha
            intro hba
            subst hba
            have := HBI.out.2 (mem_take.2 ⟨k, hk, hbk⟩)
            cases this⟩, by simp [intOf]; omega⟩
    · obtain rfl : i = n := by omega
      have HG := Lib.hid hg
      clear hg
      go_wp2
      go_ret
      exact ⟨true, rfl, ⟨fun _ => HG.out, fun _ => rfl⟩, hb⟩
set_option maxHeartbeats 1000000 in
theorem idxI_any (A : Option Addr) (n c : Nat) (l : List Int) (x : Int) (w : World) (hl : Reads w w.heap.size 1 A n (vI64 l)) (hn : n ≤ maxLen) :
    Calls Try.prog 58 #[.slice A n c, .int .i64 x] w fun e w' => ∃ z : Int, e = .returned (.int .i64 z) ∧ (0 ≤ z ↔ x ∈ l) ∧ w = w' := by
  have hln : l.length = n := by have := hl.1; rw [vI64_len] at this; omega
  unfold maxLen at hn
  have nI : (n : Int) ≤ 9223372036854775807 := by omega
  have HC := Lib.hid (And.intro hl hln)
  clear hl hln hn
  go_enter Try.func58, Try.ntmps58
  go_wp2
  go_loop [8] (fun v => ∃ i : Nat, i ≤ n ∧ v = .int .i64 i ∧ x ∉ l.take i) (fun v => n - (intOf v).toNat)
  case atStart => exact ⟨0, by omega, rfl, by simp⟩
  case round =>
    obtain ⟨i, hi, rfl, hg⟩ := hrel
    have q0 : (0 : Int) ≤ (i : Int) := by omega
    by_cases hlt : i < n
    · have q1 : (i : Int) < (n : Int) := by omega
      obtain ⟨ad, y, hA, hab, hy, f0⟩ := HC.out.1.i64_ hlt
      subst hA
      obtain ⟨b, he, hbe⟩ : ∃ b : Bool, (x == y) = b ∧ (b = true ↔ x = y) := by
        exact ⟨_, rfl, by simp⟩
      have HG := Lib.hid (And.intro hy (And.intro hg hbe))
      clear hy hg hbe
      cases b with
      | true =>
        go_wp2
        go_ret
        exact ⟨i, rfl, ⟨fun _ => by rw [HG.out.2.2.1 (by first | rfl | trivial)]; exact List.mem_of_getElem? HG.out.1, fun _ => by omega⟩, rfl⟩
      | false =>
        go_wp2
        go_round
        case rel => exact ⟨i + 1, by omega, by go_num, fun h => by
          rw [List.take_add_one, HG.out.1] at h
          rcases List.mem_append.1 h with h1 | h1
          · exact HG.out.2.1 h1
          · simp at h1
            have := HG.out.2.2.2 h1
            cases this⟩
        case measure => simp [intOf]; omega
    · obtain rfl : i = n := by omega
      have HL : Hid (x ∉ l) := Lib.hid fun hx => hg (by rw [List.take_of_length_le (by have := HC.out.2; omega)]; exact hx)
      clear hg
      go_wp2
      go_ret
      exact ⟨-1, rfl, ⟨fun h => by omega, fun h => absurd h HL.out⟩, rfl⟩
theorem hasI_any (A : Option Addr) (n c : Nat) (l : List Int) (x : Int) (w : World) (hl : Reads w w.heap.size 1 A n (vI64 l)) (hn : n ≤ maxLen) :
    Calls Try.prog 57 #[.slice A n c, .int .i64 x] w fun e w' => ∃ b : Bool, e = .returned (.bool b) ∧ (b = true ↔ x ∈ l) ∧ w = w' := by
  have IX := Lib.hid (idxI_any A n c l x w hl hn)
  clear hl hn
  go_enter Try.func57, Try.ntmps57
  go_wp2_with fail
  refine IX.out.mono ?_
  rintro e w1 ⟨z, rfl, hz, rfl⟩
  go_wp2
  go_ret
  exact ⟨_, rfl, (by first | (simp; done) | (simp; exact hz)), rfl⟩
set_option maxHeartbeats 1000000 in
theorem differI_any (A : Option Addr) (n c : Nat) (l : List Int) (w : World) (hl : Reads w w.heap.size 1 A n (vI64 l)) (hn : n ≤ maxLen) (hnc : n ≤ c) :
    Calls Try.prog 44 #[.slice A n c] w (RetM w (Apart l n)) := by
  have hln : l.length = n := by have := hl.1; rw [vI64_len] at this; omega
  have hn2 := hn
  unfold maxLen at hn
  have nI : (n : Int) ≤ 9223372036854775807 := by omega
  have ncI : (n : Int) ≤ (c : Int) := by omega
  have HC := Lib.hid (And.intro hl (And.intro hln (And.intro hnc hn2)))
  clear hl hln hn hnc hn2
  go_enter Try.func44, Try.ntmps44
  go_wp2
  go_loopw [7] (fun v wr => ∃ i : Nat, i ≤ n ∧ v = .int .i64 i ∧ Below w.heap.size w wr ∧ Apart l i) (fun v _ => n - (intOf v).toNat)
  case atStart => exact ⟨0, by omega, rfl, Below.refl _ _, fun i hi => by omega⟩
  case round =>
    obtain ⟨i, hi, rfl, hb, hg⟩ := hrel
    have q0 : (0 : Int) ≤ (i : Int) := by omega
    by_cases hlt : i < n
    · have q1 : (i : Int) < (n : Int) := by omega
      have q2 : (i : Int) ≤ (c : Int) := by omega
      obtain ⟨ad, x, hA, hab, hx, f0⟩ := (HC.out.1.below hb).i64_ hlt
      subst hA
      have CT := Lib.hid (hasI_any (some ad) i c (l.take i) x _ (by
        have h := ((HC.out.1.below hb).more hb.size).takec i (by omega)
        rwa [Nat.mul_one, show (vI64 l).take i = vI64 (l.take i) from by unfold vI64; rw [List.map_take]] at h) (by have := HC.out.2.2.2; omega))
      have HG := Lib.hid (And.intro hx (And.intro hb hg))
      clear hx hb hg
      go_wp2_with fail
      refine CT.out.mono ?_
      rintro e w1 ⟨b, rfl, hbi, rfl⟩
      have HBI := Lib.hid hbi
      clear hbi
      cases b with
      | true =>
        go_wp2
        go_ret
        exact ⟨false, rfl, ⟨fun h => (by cases h), fun h => (by
          obtain ⟨k, hk, he⟩ := mem_take.1 (HBI.out.1 (by first | rfl | trivial))
          exact absurd rfl (h i hlt x HG.out.1 k hk x he))⟩, HG.out.2.1⟩
      | false =>
        go_wp2
        exact ⟨⟨i + 1, by omega, by go_num, HG.out.2.1, fun j hj a ha k hk b hbk => by
          by_cases hji : j < i
          · exact HG.out.2.2 j hji a ha k hk b hbk
          · obtain rfl : j = i := by omega
            rw [HG.out.1] at ha
            cases ha
            intro hba
            subst hba
            have := HBI.out.2 (mem_take.2 ⟨k, hk, hbk⟩)
            cases this⟩, by simp [intOf]; omega⟩
    · obtain rfl : i = n := by omega
      have HG := Lib.hid hg
      clear hg
      go_wp2
      go_ret
      exact ⟨true, rfl, ⟨fun _ => HG.out, fun _ => rfl⟩, hb⟩
end
end Go.Proofs.Ytflolnilagogpaa
