/-
  Several texts in one: Ib Ic.
-/
import Derived.Test.YtflolnilagogpaaMgc
import Derived.Test.YtflolnilagogpaaMgd
/-
  Books, plain: whether one may be, what is written; tables and indexes without the places where they lie.
-/
namespace Go.Proofs.Ytflolnilagogpaa
section
set_option linter.unusedSimpArgs false
set_option linter.unusedVariables false
open Go.RowKit

/-- A number of a book. -/
def num31 (z : Int) : Bool := decide (0 ≤ z) && decide (z < 2147483648)
theorem num31_iff {z : Int} : num31 z = true ↔ 0 ≤ z ∧ z < 2147483648 := by simp [num31]
structure PC where
  nm : List UInt8
  k : Int
  d : Int
  u : Int
structure PT where
  nm : List UInt8
  cols : List PC
  f : Int
  r : Int
  p : Int
structure PX where
  nm : List UInt8
  tb : Int
  cs : List Int
  root : Int
  lv : Int
  hi : Int
  ds : List Int
structure PB where
  ts : List PT
  xs : List PX
def Cl.pc (c : Cl) : PC := ⟨c.nm.data.toList, c.k, c.d, c.u⟩
def Tb.pt (t : Tb) : PT := ⟨t.nm.data.toList, t.cols.map Cl.pc, t.f, t.r, t.p⟩
def Ix.px (x : Ix) : PX := ⟨x.nm.data.toList, x.tb, x.cs, x.root, x.lv, x.hi, x.ds⟩
def pbk (l : List Tb) (r : List Ix) : PB := ⟨l.map Tb.pt, r.map Ix.px⟩
def OkC (c : PC) : Prop := nameB c.nm = true ∧ (1 ≤ c.k ∧ c.k ≤ 3) ∧ num31 c.d = true ∧ num31 c.u = true
/-- Of a list each one is good, and none has the name of one ahead of it. -/
def Good {α : Type} (ok : α → Prop) (nm : α → List UInt8) (l : List α) (n : Nat) : Prop := ∀ i, i < n → ∀ c, l[i]? = some c → ok c ∧ ∀ k, k < i → ∀ c', l[k]? = some c' → nm c' ≠ nm c
def MayT (t : PT) : Prop := nameB t.nm = true ∧ 1 ≤ t.cols.length ∧ t.cols.length ≤ 8 ∧ num31 t.f = true ∧ num31 t.r = true ∧ num31 t.p = true ∧ Good OkC PC.nm t.cols t.cols.length
def MayX (ts : List PT) (x : PX) : Prop := nameB x.nm = true ∧ 0 ≤ x.tb ∧ x.tb < ts.length ∧ 1 ≤ x.cs.length ∧ x.cs.length ≤ 2 ∧ x.ds.length = x.cs.length ∧
  (∀ t, ts[x.tb.toNat]? = some t → ∀ (i : Nat) (c d : Int), x.cs[i]? = some c → x.ds[i]? = some d → (0 ≤ c ∧ c < t.cols.length) ∧ num31 d = true) ∧ (∀ c d, x.cs = [c, d] → c ≠ d) ∧ num31 x.root = true ∧ num31 x.lv = true ∧ num31 x.hi = true
def MayB (b : PB) : Prop := b.ts.length ≤ 16 ∧ b.xs.length ≤ 16 ∧ Good MayT PT.nm b.ts b.ts.length ∧ Good (MayX b.ts) PX.nm b.xs b.xs.length
theorem Good.zero {α : Type} {ok : α → Prop} {nm : α → List UInt8} {l : List α} : Good ok nm l 0 := fun i h => by omega
theorem Good.succ {α : Type} {ok : α → Prop} {nm : α → List UInt8} {l : List α} {n : Nat} (h : Good ok nm l n) {c : α} (hc : l[n]? = some c) (ho : ok c) (hd : ∀ k, k < n → ∀ c', l[k]? = some c' → nm c' ≠ nm c) : Good ok nm l (n + 1) := by
  intro i hi c' hc'
  by_cases hin : i < n
  · exact h i hin c' hc'
  · obtain rfl : i = n := by omega
    rw [hc] at hc'
    cases hc'
    exact ⟨ho, hd⟩
/-- What is written of it. -/
def txtB (s : List UInt8) : List UInt8 := UInt8.ofNat s.length :: s
def fourB (z : Int) : List UInt8 := be 4 z.toNat
def oneB (z : Int) : List UInt8 := [UInt8.ofNat z.toNat]
def colB (c : PC) : List UInt8 := txtB c.nm ++ oneB c.k ++ fourB c.d ++ fourB c.u
def tabB (t : PT) : List UInt8 := txtB t.nm ++ oneB t.cols.length ++ t.cols.flatMap colB ++ fourB t.f ++ fourB t.r ++ fourB t.p
def idxB (x : PX) : List UInt8 := txtB x.nm ++ oneB x.tb ++ oneB x.cs.length ++ x.cs.flatMap oneB ++ fourB x.root ++ fourB x.lv ++ fourB x.hi ++ x.ds.flatMap fourB
def bookB (b : PB) : List UInt8 := oneB b.ts.length ++ b.ts.flatMap tabB ++ oneB b.xs.length ++ b.xs.flatMap idxB
/-- A truth. -/
def RetM (w : World) (P : Prop) (e : Ending) (w' : World) : Prop := ∃ b : Bool, e = .returned (.bool b) ∧ (b = true ↔ P) ∧ Below w.heap.size w w'
theorem nm_bytes (a b : ByteArray) (h : a.toList = b.toList) : a = b := by
  rw [ByteArray.toList_eq, ByteArray.toList_eq] at h
  obtain ⟨⟨a⟩⟩ := a
  obtain ⟨⟨b⟩⟩ := b
  simp at h
  rw [h]
theorem nm_cases2 (a b : ByteArray) : (a.data.toList = b.data.toList ∧ (a.toList == b.toList) = true) ∨ (a.data.toList ≠ b.data.toList ∧ (a.toList == b.toList) = false) := by
  by_cases h : a = b
  · exact .inl ⟨by rw [h], by rw [h]; simp⟩
  · have h1 : a.toList ≠ b.toList := fun e => h (nm_bytes a b e)
    refine .inr ⟨fun e => h1 (by rw [ByteArray.toList_eq, ByteArray.toList_eq]; exact e), ?_⟩
    simpa using h1
theorem newAtI {w : World} {t : TypeId} {cs : Array Value} {g : Nat} (h : g = w.heap.size) : Blk (w.alloc (.cells cs t)) g t cs := by subst h; exact Blk.new _ _ _
theorem nb_facts {l : List UInt8} (h : nameB l = true) : 1 ≤ l.length ∧ l.length ≤ 24 := by
  cases l with
  | nil => simp [nameB] at h
  | cons c l => simp [nameB] at h; simp only [List.length_cons]; omega
theorem number_any (z : Int) (w : World) : Calls Try.prog 45 #[.int .i64 z] w fun e w' => e = .returned (.bool (num31 z)) ∧ w = w' := by
  unfold num31
  by_cases h0 : 0 ≤ z
  · by_cases h1 : z < 2147483648
    · rw [decide_eq_true h0, decide_eq_true h1]
      go_enter Try.func45, Try.ntmps45
      go_wp2
      go_ret
      exact ⟨by simp [h1], rfl⟩
    · rw [decide_eq_true h0, decide_eq_false h1]
      go_enter Try.func45, Try.ntmps45
      go_wp2
      go_ret
      exact ⟨by first | (simp; done) | (simp; omega), rfl⟩
  · rw [decide_eq_false h0]
    go_enter Try.func45, Try.ntmps45
    go_wp2
    go_ret
    exact ⟨by simp, rfl⟩
end
end Go.Proofs.Ytflolnilagogpaa
/-
  The reference's Name.
-/
namespace Go.Proofs.Ytflolnilagogpaa
section
set_option linter.unusedSimpArgs false
set_option linter.unusedVariables false
open Go.RowKit

theorem class_c (c : UInt8) : ∃ a1 a2 d1 d2 b : Bool, (decide ((97 : Int) ≤ (c.toNat : Int)) = a1 ∧ decide ((c.toNat : Int) ≤ 122) = a2 ∧ decide ((48 : Int) ≤ (c.toNat : Int)) = d1 ∧ decide ((c.toNat : Int) ≤ 57) = d2 ∧ ((c.toNat : Int) == 95) = b) ∧ letB c = (a1 && a2) ∧ nmB c = ((a1 && a2) || ((d1 && d2) || b)) ∧
    ((a1 = false ∧ a2 = true ∧ d1 = false ∧ d2 = true ∧ b = false) ∨ (a1 = false ∧ a2 = true ∧ d1 = true ∧ d2 = true ∧ b = false) ∨ (a1 = false ∧ a2 = true ∧ d1 = true ∧ d2 = false ∧ b = false) ∨ (a1 = false ∧ a2 = true ∧ d1 = true ∧ d2 = false ∧ b = true) ∨ (a1 = true ∧ a2 = true ∧ d1 = true ∧ d2 = false ∧ b = false) ∨ (a1 = true ∧ a2 = false ∧ d1 = true ∧ d2 = false ∧ b = false)) := by
  refine ⟨_, _, _, _, _, ⟨rfl, rfl, rfl, rfl, rfl⟩, ?_, ?_, ?_⟩
  · unfold letB
    have h1 : decide ((97 : Int) ≤ (c.toNat : Int)) = decide (97 ≤ c.toNat) := decide_eq_decide.2 (by omega)
    have h2 : decide ((c.toNat : Int) ≤ 122) = decide (c.toNat ≤ 122) := decide_eq_decide.2 (by omega)
    rw [h1, h2]
  · unfold nmB letB digB
    rw [beq95]
    have h1 : decide ((97 : Int) ≤ (c.toNat : Int)) = decide (97 ≤ c.toNat) := decide_eq_decide.2 (by omega)
    have h2 : decide ((c.toNat : Int) ≤ 122) = decide (c.toNat ≤ 122) := decide_eq_decide.2 (by omega)
    have h3 : decide ((48 : Int) ≤ (c.toNat : Int)) = decide (48 ≤ c.toNat) := decide_eq_decide.2 (by omega)
    have h4 : decide ((c.toNat : Int) ≤ 57) = decide (c.toNat ≤ 57) := decide_eq_decide.2 (by omega)
    rw [h1, h2, h3, h4]
  · simp only [decide_eq_true_iff, decide_eq_false_iff_not, beq_iff_eq, beq_eq_false_iff_ne]
    omega
theorem nameB_cons (s : ByteArray) (h0 : 0 < s.size) (h24 : s.size ≤ 24) (h : letB s[0] = true) : nameB s.data.toList = (s.data.toList.drop 1).all nmB := by
  rw [nameB_all s h0 h24 h]
  have hd := drop_atL s 0 h0
  rw [List.drop_zero] at hd
  have : nmB s[0] = true := by unfold nmB; rw [h]; rfl
  rw [hd, List.all_cons, this, Bool.true_and]
  rfl
set_option maxHeartbeats 2000000 in
theorem rname_any (s : ByteArray) (hs : s.size ≤ maxLen) (w : World) : Calls Try.prog 10 #[.string s] w fun e w' => e = .returned (.bool (nameB s.data.toList)) ∧ w = w' := by
  unfold maxLen at hs
  have hsI : (s.size : Int) ≤ 9223372036854775807 := by omega
  clear hs
  by_cases h0 : 0 < s.size
  · have g0 : (0 : Int) < (s.size : Int) := by omega
    have g1 : (1 : Int) ≤ (s.size : Int) := by omega
    by_cases h24 : s.size ≤ 24
    · have g24 : (s.size : Int) ≤ 24 := by omega
      have H24 := Lib.hid h24
      clear h24
      go_enter Try.func10, Try.ntmps10
      go_wp2
      go_loop [3] (fun v => ∃ i : Nat, i ≤ s.size ∧ v = .int .i64 i ∧ (i = 0 ∨ (1 ≤ i ∧ nameB s.data.toList = (s.data.toList.drop i).all nmB))) (fun v => s.size - (intOf v).toNat)
      case atStart => exact ⟨0, by omega, rfl, .inl rfl⟩
      case round =>
        obtain ⟨i, hi, rfl, he⟩ := hrel
        have q0 : (0 : Int) ≤ (i : Int) := by omega
        by_cases hlt : i < s.size
        · have q1 : (i : Int) < (s.size : Int) := by omega
          have HD := Lib.hid (And.intro (drop_atL s i hlt) he)
          obtain ⟨a1, a2, d1, d2, b, ⟨f1, f2, f3, f4, f5⟩, hl, hn, hcase⟩ := class_c s[i]
          clear he
          have key : ((a1 && a2) = true → i = 0 → nameB s.data.toList = (s.data.toList.drop (i + 1)).all nmB) ∧ ((a1 && a2) = false → i = 0 → nameB s.data.toList = false) ∧ (((a1 && a2) || ((d1 && d2) || b)) = true → 1 ≤ i → nameB s.data.toList = (s.data.toList.drop (i + 1)).all nmB) ∧ (((a1 && a2) || ((d1 && d2) || b)) = false → 1 ≤ i → nameB s.data.toList = false) := by
            refine ⟨fun h h' => ?_, fun h h' => ?_, fun h h' => ?_, fun h h' => ?_⟩
            · subst h'; exact nameB_cons s h0 H24.out (hl.trans h)
            · subst h'; exact nameB_first s h0 (hl.trans h)
            · rcases HD.out.2 with h2 | ⟨_, h2⟩
              · omega
              · rw [h2, HD.out.1, List.all_cons, hn, h, Bool.true_and]
            · rcases HD.out.2 with h2 | ⟨_, h2⟩
              · omega
              · rw [h2, HD.out.1, List.all_cons, hn, h, Bool.false_and]
          have HK := Lib.hid (And.intro key trivial)
          clear key hl hn
          by_cases hi0 : i = 0
          · subst hi0
            rcases hcase with ⟨rfl, rfl, rfl, rfl, rfl⟩ | ⟨rfl, rfl, rfl, rfl, rfl⟩ | ⟨rfl, rfl, rfl, rfl, rfl⟩ | ⟨rfl, rfl, rfl, rfl, rfl⟩ | ⟨rfl, rfl, rfl, rfl, rfl⟩ | ⟨rfl, rfl, rfl, rfl, rfl⟩
            all_goals
              go_wp2
              first
                | (go_round
                   case rel => exact ⟨0 + 1, by omega, by go_num, .inr ⟨by omega, HK.out.1.1 (by first | rfl | trivial) (by first | rfl | trivial)⟩⟩
                   case measure => simp [intOf]; omega)
                | (go_ret
                   exact ⟨by rw [HK.out.1.2.1 (by first | rfl | trivial) (by first | rfl | trivial)]; rfl, rfl⟩)
          · have q3 : (1 : Int) ≤ (i : Int) := by omega
            have q4 : ((i : Int) == 0) = false := by simp; omega
            rcases hcase with ⟨rfl, rfl, rfl, rfl, rfl⟩ | ⟨rfl, rfl, rfl, rfl, rfl⟩ | ⟨rfl, rfl, rfl, rfl, rfl⟩ | ⟨rfl, rfl, rfl, rfl, rfl⟩ | ⟨rfl, rfl, rfl, rfl, rfl⟩ | ⟨rfl, rfl, rfl, rfl, rfl⟩
            all_goals
              go_wp2
              first
                | (go_round
                   case rel => exact ⟨i + 1, by omega, by go_num, .inr ⟨by omega, HK.out.1.2.2.1 (by first | rfl | trivial) (by omega)⟩⟩
                   case measure => simp [intOf]; omega)
                | (go_ret
                   exact ⟨by rw [HK.out.1.2.2.2 (by first | rfl | trivial) (by omega)]; rfl, rfl⟩)
        · obtain rfl : i = s.size := by omega
          have hF : Hid (nameB s.data.toList = true) := Lib.hid (by
            rcases he with h2 | ⟨_, h2⟩
            · omega
            · rw [h2, List.drop_eq_nil_of_le (by rw [szL]; exact Nat.le_refl _)]; rfl)
          clear he
          go_wp2
          go_ret
          exact ⟨by rw [hF.out]; rfl, rfl⟩
    · have g24 : (24 : Int) < (s.size : Int) := by omega
      have hN : Hid (nameB s.data.toList = false) := Lib.hid (nameB_long _ (by rw [szL]; omega))
      go_enter Try.func10, Try.ntmps10
      go_wp2
      go_ret
      exact ⟨by rw [hN.out]; rfl, rfl⟩
  · have g0 : (s.size : Int) = 0 := by omega
    have hN : Hid (nameB s.data.toList = false) := Lib.hid (by rw [show s.data.toList = [] from List.eq_nil_of_length_eq_zero (by rw [szL]; omega)]; rfl)
    go_enter Try.func10, Try.ntmps10
    go_wp2
    go_ret
    exact ⟨by rw [hN.out]; rfl, rfl⟩
end
end Go.Proofs.Ytflolnilagogpaa
