/-
  Are two lists of numbers, of ranges the same?
-/
import Derived.Test.YtoamnnonkhgpoaaGreatDoorP1
import Derived.Test.YtoamnnonkhgpoaaGreatDoorP2
import Derived.BigQuiet
set_option linter.unusedSimpArgs false
set_option linter.unusedVariables false
namespace Go.Proofs.YtoamnnonkhgpoaaGreatDoor
open Go.RowKit

/-- A truth. -/
def RetM (w : World) (P : Prop) (e : Ending) (w' : World) : Prop := ∃ b : Bool, e = .returned (.bool b) ∧ (b = true ↔ P) ∧ Below w.heap.size w w'
theorem nm_bytes (a b : ByteArray) (h : a.toList = b.toList) : a = b := by
  rw [ByteArray.toList_eq, ByteArray.toList_eq] at h
  obtain ⟨⟨a⟩⟩ := a
  obtain ⟨⟨b⟩⟩ := b
  simp at h
  rw [h]
theorem nm_cases2 (a b : ByteArray) : (a.data.toList = b.data.toList ∧ (a.toList == b.toList) = true) ∨ (a.data.toList ≠ b.data.toList ∧ (a.toList == b.toList) = false) := by
  by_cases h : a = b
  · exact .inl ⟨by rw [h], by rw [h]; simp⟩
  · have h1 : a.toList ≠ b.toList := fun e => h (nm_bytes a b e)
    refine .inr ⟨fun e => h1 (by rw [ByteArray.toList_eq, ByteArray.toList_eq]; exact e), ?_⟩
    simpa using h1
theorem Reads.i64_ {w : World} {B n k : Nat} {A : Option Addr} {l : List Int} (h : Reads w B 1 A n (vI64 l)) (hk : k < n) : ∃ ad x, A = some ad ∧ ad.block < B ∧ l[k]? = some x ∧ w.cell? (ad.add k) = some (.int .i64 x) := by
  obtain ⟨ad, u, hA, hb, hu, hc⟩ := h.at_ hk
  obtain ⟨x, hx, rfl⟩ := vI64_at hu
  exact ⟨ad, x, hA, hb, hx, hc⟩
theorem list_eq {α : Type} {l r : List α} (hl : l.length = r.length) (h : ∀ j, j < l.length → ∀ a b, l[j]? = some a → r[j]? = some b → a = b) : l = r := by
  apply List.ext_getElem? 
  intro j
  by_cases hj : j < l.length
  · have h1 := List.getElem?_eq_getElem hj
    have h2 := List.getElem?_eq_getElem (show j < r.length by omega)
    rw [h1, h2, h j hj _ _ h1 h2]
  · rw [List.getElem?_eq_none (by omega), List.getElem?_eq_none (by omega)]
set_option maxHeartbeats 1000000 in
theorem eqi_any (A : Option Addr) (n c : Nat) (l : List Int) (B : Option Addr) (m d : Nat) (r : List Int) (w : World) (hl : Reads w w.heap.size 1 A n (vI64 l)) (hr : Reads w w.heap.size 1 B m (vI64 r)) (hn : n ≤ maxLen) (hm : m ≤ maxLen) :
    Calls Tryz.prog 15 #[.slice A n c, .slice B m d] w (RetM w (l = r)) := by
  have hln : l.length = n := by have := hl.1; rw [vI64_len] at this; omega
  have hrn : r.length = m := by have := hr.1; rw [vI64_len] at this; omega
  unfold maxLen at hn hm
  have nI : (n : Int) ≤ 9223372036854775807 := by omega
  have mI : (m : Int) ≤ 9223372036854775807 := by omega
  have HC := Lib.hid (And.intro hl (And.intro hr (And.intro hln hrn)))
  clear hl hr hln hrn hn hm
  by_cases hnm : n = m
  · subst hnm
    have e1 : ((n : Int) != (n : Int)) = false := by simp
    go_enter Tryz.func15, Tryz.ntmps15
    go_wp2
    go_loopw [13] (fun v wr => ∃ i : Nat, i ≤ n ∧ v = .int .i64 i ∧ Below w.heap.size w wr ∧ ∀ j, j < i → ∀ a b, l[j]? = some a → r[j]? = some b → a = b) (fun v _ => n - (intOf v).toNat)
    case atStart => exact ⟨0, by omega, rfl, Below.refl _ _, fun j hj => by omega⟩
    case round =>
      obtain ⟨i, hi, rfl, hb, hg⟩ := hrel
      have q0 : (0 : Int) ≤ (i : Int) := by omega
      by_cases hlt : i < n
      · have q1 : (i : Int) < (n : Int) := by omega
        obtain ⟨ad, x, hA, hab, hx, f0⟩ := (HC.out.1.below hb).i64_ hlt
        obtain ⟨ad2, y, hB, hab2, hy, f1⟩ := (HC.out.2.1.below hb).i64_ hlt
        subst hA hB
        have HG := Lib.hid (And.intro hx (And.intro hy (And.intro hb hg)))
        clear hx hy hb hg
        by_cases hxy : x = y
        · have e2 : (x != y) = false := by simpa using hxy
          have HX := Lib.hid hxy
          clear hxy
          go_wp2
          go_quiet (fail)
          go_wp2
          exact ⟨⟨i + 1, by omega, by go_num, bdr HG.out.2.2.1 _, fun j hj a b ha hb => by
            by_cases hji : j < i
            · exact HG.out.2.2.2 j hji a b ha hb
            · obtain rfl : j = i := by omega
              rw [HG.out.1] at ha
              rw [HG.out.2.1] at hb
              cases ha
              cases hb
              exact HX.out⟩, by simp [intOf]; omega⟩
        · have e2 : (x != y) = true := by simpa using hxy
          have HX := Lib.hid hxy
          clear hxy
          go_wp2
          go_quiet (fail)
          go_wp2
          go_ret
          exact ⟨false, rfl, ⟨fun h => (by cases h), fun h => absurd (by have h1 := HG.out.1; rw [h, HG.out.2.1] at h1; exact (Option.some.inj h1).symm) HX.out⟩, bdr HG.out.2.2.1 _⟩
      · obtain rfl : i = n := by omega
        have HL := Lib.hid (list_eq (HC.out.2.2.1.trans HC.out.2.2.2.symm) fun j hj => hg j (by rw [← HC.out.2.2.1]; exact hj))
        clear hg
        go_wp2
        go_ret
        exact ⟨true, rfl, ⟨fun _ => HL.out, fun _ => rfl⟩, hb⟩
  · have e1 : ((n : Int) != (m : Int)) = true := by simp; omega
    have HX : Hid (l ≠ r) := Lib.hid fun h => hnm (by rw [← HC.out.2.2.1, ← HC.out.2.2.2, h])
    go_enter Tryz.func15, Tryz.ntmps15
    go_wp2
    go_ret
    exact ⟨false, rfl, ⟨fun h => (by cases h), fun h => absurd h HX.out⟩, Below.refl _ _⟩
set_option maxHeartbeats 1000000 in
theorem eqs_any (A : Option Addr) (n c : Nat) (l : List Int) (B : Option Addr) (m d : Nat) (r : List Int) (w : World) (hl : Reads w w.heap.size 1 A n (vI64 l)) (hr : Reads w w.heap.size 1 B m (vI64 r)) (hn : n ≤ maxLen) (hm : m ≤ maxLen) :
    Calls Tryz.prog 10 #[.slice A n c, .slice B m d] w (RetM w (l = r)) := by
  have hln : l.length = n := by have := hl.1; rw [vI64_len] at this; omega
  have hrn : r.length = m := by have := hr.1; rw [vI64_len] at this; omega
  unfold maxLen at hn hm
  have nI : (n : Int) ≤ 9223372036854775807 := by omega
  have mI : (m : Int) ≤ 9223372036854775807 := by omega
  have HC := Lib.hid (And.intro hl (And.intro hr (And.intro hln hrn)))
  clear hl hr hln hrn hn hm
  by_cases hnm : n = m
  · subst hnm
    have e1 : ((n : Int) != (n : Int)) = false := by simp
    go_enter Tryz.func10, Tryz.ntmps10
    go_wp2
    go_loopw [13] (fun v wr => ∃ i : Nat, i ≤ n ∧ v = .int .i64 i ∧ Below w.heap.size w wr ∧ ∀ j, j < i → ∀ a b, l[j]? = some a → r[j]? = some b → a = b) (fun v _ => n - (intOf v).toNat)
    case atStart => exact ⟨0, by omega, rfl, Below.refl _ _, fun j hj => by omega⟩
    case round =>
      obtain ⟨i, hi, rfl, hb, hg⟩ := hrel
      have q0 : (0 : Int) ≤ (i : Int) := by omega
      by_cases hlt : i < n
      · have q1 : (i : Int) < (n : Int) := by omega
        obtain ⟨ad, x, hA, hab, hx, f0⟩ := (HC.out.1.below hb).i64_ hlt
        obtain ⟨ad2, y, hB, hab2, hy, f1⟩ := (HC.out.2.1.below hb).i64_ hlt
        subst hA hB
        have HG := Lib.hid (And.intro hx (And.intro hy (And.intro hb hg)))
        clear hx hy hb hg
        by_cases hxy : x = y
        · have e2 : (x != y) = false := by simpa using hxy
          have HX := Lib.hid hxy
          clear hxy
          go_wp2
          go_quiet (fail)
          go_wp2
          exact ⟨⟨i + 1, by omega, by go_num, bdr HG.out.2.2.1 _, fun j hj a b ha hb => by
            by_cases hji : j < i
            · exact HG.out.2.2.2 j hji a b ha hb
            · obtain rfl : j = i := by omega
              rw [HG.out.1] at ha
              rw [HG.out.2.1] at hb
              cases ha
              cases hb
              exact HX.out⟩, by simp [intOf]; omega⟩
        · have e2 : (x != y) = true := by simpa using hxy
          have HX := Lib.hid hxy
          clear hxy
          go_wp2
          go_quiet (fail)
          go_wp2
          go_ret
          exact ⟨false, rfl, ⟨fun h => (by cases h), fun h => absurd (by have h1 := HG.out.1; rw [h, HG.out.2.1] at h1; exact (Option.some.inj h1).symm) HX.out⟩, bdr HG.out.2.2.1 _⟩
      · obtain rfl : i = n := by omega
        have HL := Lib.hid (list_eq (HC.out.2.2.1.trans HC.out.2.2.2.symm) fun j hj => hg j (by rw [← HC.out.2.2.1]; exact hj))
        clear hg
        go_wp2
        go_ret
        exact ⟨true, rfl, ⟨fun _ => HL.out, fun _ => rfl⟩, hb⟩
  · have e1 : ((n : Int) != (m : Int)) = true := by simp; omega
    have HX : Hid (l ≠ r) := Lib.hid fun h => hnm (by rw [← HC.out.2.2.1, ← HC.out.2.2.2, h])
    go_enter Tryz.func10, Tryz.ntmps10
    go_wp2
    go_ret
    exact ⟨false, rfl, ⟨fun h => (by cases h), fun h => absurd h HX.out⟩, Below.refl _ _⟩
set_option maxHeartbeats 1000000 in
theorem eqr_any (A : Option Addr) (n c : Nat) (l : List Rg) (B : Option Addr) (m d : Nat) (r : List Rg) (w : World) (hl : Reads w w.heap.size 3 A n (vRg l)) (hr : Reads w w.heap.size 3 B m (vRg r)) (hn : n ≤ maxLen) (hm : m ≤ maxLen) :
    Calls Tryz.prog 14 #[.slice A n c, .slice B m d] w (RetM w (l = r)) := by
  have hln : l.length = n := by have := hl.1; rw [vRg_len] at this; omega
  have hrn : r.length = m := by have := hr.1; rw [vRg_len] at this; omega
  unfold maxLen at hn hm
  have nI : (n : Int) ≤ 9223372036854775807 := by omega
  have mI : (m : Int) ≤ 9223372036854775807 := by omega
  have HC := Lib.hid (And.intro hl (And.intro hr (And.intro hln hrn)))
  clear hl hr hln hrn hn hm
  by_cases hnm : n = m
  · subst hnm
    have e1 : ((n : Int) != (n : Int)) = false := by simp
    go_enter Tryz.func14, Tryz.ntmps14
    go_wp2
    go_loopw [13] (fun v wr => ∃ i : Nat, i ≤ n ∧ v = .int .i64 i ∧ Below w.heap.size w wr ∧ ∀ j, j < i → ∀ a b, l[j]? = some a → r[j]? = some b → a = b) (fun v _ => n - (intOf v).toNat)
    case atStart => exact ⟨0, by omega, rfl, Below.refl _ _, fun j hj => by omega⟩
    case round =>
      obtain ⟨i, hi, rfl, hb, hg⟩ := hrel
      have q0 : (0 : Int) ≤ (i : Int) := by omega
      by_cases hlt : i < n
      · have q1 : (i : Int) < (n : Int) := by omega
        obtain ⟨ad, x, hA, hab, hx, f0, f1, f2⟩ := (HC.out.1.below hb).rg_ hlt
        obtain ⟨ad2, y, hB, hab2, hy, g0, g1, g2⟩ := (HC.out.2.1.below hb).rg_ hlt
        subst hA hB
        have HG := Lib.hid (And.intro hx (And.intro hy (And.intro hb hg)))
        clear hx hy hb hg
        obtain ⟨xn, xk, xd⟩ := x
        obtain ⟨yn, yk, yd⟩ := y
        simp only at f0 f1 f2 g0 g1 g2
        by_cases hall : (xn.data.toList = yn.data.toList ∧ xk.data.toList = yk.data.toList) ∧ xd = yd
        · obtain ⟨⟨h1, h2⟩, rfl⟩ := hall
          obtain rfl : xn = yn := nm_bytes _ _ (by rw [ByteArray.toList_eq, ByteArray.toList_eq]; exact h1)
          obtain rfl : xk = yk := nm_bytes _ _ (by rw [ByteArray.toList_eq, ByteArray.toList_eq]; exact h2)
          clear h1 h2
          go_wp2
          go_quiet (fail)
          go_wp2
          exact ⟨⟨i + 1, by omega, by go_num, bdr HG.out.2.2.1 _, fun j hj a b ha hb => by
            by_cases hji : j < i
            · exact HG.out.2.2.2 j hji a b ha hb
            · obtain rfl : j = i := by omega
              rw [HG.out.1] at ha
              rw [HG.out.2.1] at hb
              cases ha
              cases hb
              rfl⟩, by simp [intOf]; omega⟩
        · have HX : Hid (l ≠ r) := Lib.hid fun h => hall (by
            have h1 := HG.out.1
            rw [h, HG.out.2.1] at h1
            have h2 := Option.some.inj h1
            simp only [Rg.mk.injEq] at h2
            exact ⟨⟨by rw [h2.1], by rw [h2.2.1]⟩, h2.2.2.symm⟩)
          have B1 : ∃ b : Bool, (xn.toList == yn.toList) = b ∧ (b = true → xn.data.toList = yn.data.toList) := by
            rcases nm_cases2 xn yn with ⟨h1, h2⟩ | ⟨h1, h2⟩
            · exact ⟨true, h2, fun _ => h1⟩
            · exact ⟨false, h2, fun h => by cases h⟩
          obtain ⟨b1, e1', c1⟩ := B1
          have B2 : ∃ b : Bool, (xk.toList == yk.toList) = b ∧ (b = true → xk.data.toList = yk.data.toList) := by
            rcases nm_cases2 xk yk with ⟨h1, h2⟩ | ⟨h1, h2⟩
            · exact ⟨true, h2, fun _ => h1⟩
            · exact ⟨false, h2, fun h => by cases h⟩
          obtain ⟨b2, e2, c2⟩ := B2
          obtain ⟨b3, e3, c3⟩ : ∃ b : Bool, (xd == yd) = b ∧ (b = true → xd = yd) := ⟨_, rfl, fun h => by simpa using h⟩
          have hno : (b1 && b2 && b3) = false := by
            cases hq : (b1 && b2 && b3) with
            | false => rfl
            | true =>
              simp only [Bool.and_eq_true] at hq
              exact absurd ⟨⟨c1 hq.1.1, c2 hq.1.2⟩, c3 hq.2⟩ hall
          clear hall c1 c2 c3
          cases b1 <;> cases b2 <;> cases b3
          all_goals first
            | (exfalso; revert hno; decide)
            | (clear hno
               go_wp2
               go_quiet (fail)
               go_wp2
               go_ret
               exact ⟨false, rfl, ⟨fun h => (by cases h), fun h => absurd h HX.out⟩, bdr HG.out.2.2.1 _⟩)
      · obtain rfl : i = n := by omega
        have HL := Lib.hid (list_eq (by exact HC.out.2.2.1.trans HC.out.2.2.2.symm) fun j hj => hg j (by rw [← HC.out.2.2.1]; exact hj))
        clear hg
        go_wp2
        go_ret
        exact ⟨true, rfl, ⟨fun _ => HL.out, fun _ => rfl⟩, hb⟩
  · have e1 : ((n : Int) != (m : Int)) = true := by simp; omega
    have HX : Hid (l ≠ r) := Lib.hid fun h => hnm (by have h1 := congrArg List.length h; rw [← HC.out.2.2.1, ← HC.out.2.2.2]; exact h1)
    go_enter Tryz.func14, Tryz.ntmps14
    go_wp2
    go_ret
    exact ⟨false, rfl, ⟨fun h => (by cases h), fun h => absurd h HX.out⟩, Below.refl _ _⟩
end Go.Proofs.YtoamnnonkhgpoaaGreatDoor
