/-
  Books, plain: whether one may be, what is written; tables and indexes without the places where they lie.
-/
import Derived.Test.YtflolnilagogpaaFa
import Derived.Test.YtflolnilagogpaaFb
import Derived.Test.YtflolnilagogpaaBe
set_option linter.unusedSimpArgs false
set_option linter.unusedVariables false
namespace Go.Proofs.Ytflolnilagogpaa
open Go.RowKit

/-- A number of a book. -/
def num31 (z : Int) : Bool := decide (0 ≤ z) && decide (z < 2147483648)
theorem num31_iff {z : Int} : num31 z = true ↔ 0 ≤ z ∧ z < 2147483648 := by simp [num31]
structure PC where
  nm : List UInt8
  k : Int
  d : Int
  u : Int
structure PT where
  nm : List UInt8
  cols : List PC
  f : Int
  r : Int
  p : Int
structure PX where
  nm : List UInt8
  tb : Int
  cs : List Int
  root : Int
  lv : Int
  hi : Int
  ds : List Int
structure PB where
  ts : List PT
  xs : List PX
def Cl.pc (c : Cl) : PC := ⟨c.nm.data.toList, c.k, c.d, c.u⟩
def Tb.pt (t : Tb) : PT := ⟨t.nm.data.toList, t.cols.map Cl.pc, t.f, t.r, t.p⟩
def Ix.px (x : Ix) : PX := ⟨x.nm.data.toList, x.tb, x.cs, x.root, x.lv, x.hi, x.ds⟩
def pbk (l : List Tb) (r : List Ix) : PB := ⟨l.map Tb.pt, r.map Ix.px⟩
def OkC (c : PC) : Prop := nameB c.nm = true ∧ (1 ≤ c.k ∧ c.k ≤ 3) ∧ num31 c.d = true ∧ num31 c.u = true
/-- Of a list each one is good, and none has the name of one ahead of it. -/
def Good {α : Type} (ok : α → Prop) (nm : α → List UInt8) (l : List α) (n : Nat) : Prop := ∀ i, i < n → ∀ c, l[i]? = some c → ok c ∧ ∀ k, k < i → ∀ c', l[k]? = some c' → nm c' ≠ nm c
def MayT (t : PT) : Prop := nameB t.nm = true ∧ 1 ≤ t.cols.length ∧ t.cols.length ≤ 8 ∧ num31 t.f = true ∧ num31 t.r = true ∧ num31 t.p = true ∧ Good OkC PC.nm t.cols t.cols.length
def MayX (ts : List PT) (x : PX) : Prop := nameB x.nm = true ∧ 0 ≤ x.tb ∧ x.tb < ts.length ∧ 1 ≤ x.cs.length ∧ x.cs.length ≤ 2 ∧ x.ds.length = x.cs.length ∧
  (∀ t, ts[x.tb.toNat]? = some t → ∀ (i : Nat) (c d : Int), x.cs[i]? = some c → x.ds[i]? = some d → (0 ≤ c ∧ c < t.cols.length) ∧ num31 d = true) ∧ (∀ c d, x.cs = [c, d] → c ≠ d) ∧ num31 x.root = true ∧ num31 x.lv = true ∧ num31 x.hi = true
def MayB (b : PB) : Prop := b.ts.length ≤ 16 ∧ b.xs.length ≤ 16 ∧ Good MayT PT.nm b.ts b.ts.length ∧ Good (MayX b.ts) PX.nm b.xs b.xs.length
theorem Good.zero {α : Type} {ok : α → Prop} {nm : α → List UInt8} {l : List α} : Good ok nm l 0 := fun i h => by omega
theorem Good.succ {α : Type} {ok : α → Prop} {nm : α → List UInt8} {l : List α} {n : Nat} (h : Good ok nm l n) {c : α} (hc : l[n]? = some c) (ho : ok c) (hd : ∀ k, k < n → ∀ c', l[k]? = some c' → nm c' ≠ nm c) : Good ok nm l (n + 1) := by
  intro i hi c' hc'
  by_cases hin : i < n
  · exact h i hin c' hc'
  · obtain rfl : i = n := by omega
    rw [hc] at hc'
    cases hc'
    exact ⟨ho, hd⟩
/-- What is written of it. -/
def txtB (s : List UInt8) : List UInt8 := UInt8.ofNat s.length :: s
def fourB (z : Int) : List UInt8 := be 4 z.toNat
def oneB (z : Int) : List UInt8 := [UInt8.ofNat z.toNat]
def colB (c : PC) : List UInt8 := txtB c.nm ++ oneB c.k ++ fourB c.d ++ fourB c.u
def tabB (t : PT) : List UInt8 := txtB t.nm ++ oneB t.cols.length ++ t.cols.flatMap colB ++ fourB t.f ++ fourB t.r ++ fourB t.p
def idxB (x : PX) : List UInt8 := txtB x.nm ++ oneB x.tb ++ oneB x.cs.length ++ x.cs.flatMap oneB ++ fourB x.root ++ fourB x.lv ++ fourB x.hi ++ x.ds.flatMap fourB
def bookB (b : PB) : List UInt8 := oneB b.ts.length ++ b.ts.flatMap tabB ++ oneB b.xs.length ++ b.xs.flatMap idxB
/-- A truth. -/
def RetM (w : World) (P : Prop) (e : Ending) (w' : World) : Prop := ∃ b : Bool, e = .returned (.bool b) ∧ (b = true ↔ P) ∧ Below w.heap.size w w'
theorem nm_bytes (a b : ByteArray) (h : a.toList = b.toList) : a = b := by
  rw [ByteArray.toList_eq, ByteArray.toList_eq] at h
  obtain ⟨⟨a⟩⟩ := a
  obtain ⟨⟨b⟩⟩ := b
  simp at h
  rw [h]
theorem nm_cases2 (a b : ByteArray) : (a.data.toList = b.data.toList ∧ (a.toList == b.toList) = true) ∨ (a.data.toList ≠ b.data.toList ∧ (a.toList == b.toList) = false) := by
  by_cases h : a = b
  · exact .inl ⟨by rw [h], by rw [h]; simp⟩
  · have h1 : a.toList ≠ b.toList := fun e => h (nm_bytes a b e)
    refine .inr ⟨fun e => h1 (by rw [ByteArray.toList_eq, ByteArray.toList_eq]; exact e), ?_⟩
    simpa using h1
theorem newAtI {w : World} {t : TypeId} {cs : Array Value} {g : Nat} (h : g = w.heap.size) : Blk (w.alloc (.cells cs t)) g t cs := by subst h; exact Blk.new _ _ _
theorem nb_facts {l : List UInt8} (h : nameB l = true) : 1 ≤ l.length ∧ l.length ≤ 24 := by
  cases l with
  | nil => simp [nameB] at h
  | cons c l => simp [nameB] at h; simp only [List.length_cons]; omega
theorem number_any (z : Int) (w : World) : Calls Try.prog 45 #[.int .i64 z] w fun e w' => e = .returned (.bool (num31 z)) ∧ w = w' := by
  unfold num31
  by_cases h0 : 0 ≤ z
  · by_cases h1 : z < 2147483648
    · rw [decide_eq_true h0, decide_eq_true h1]
      go_enter Try.func45, Try.ntmps45
      go_wp2
      go_ret
      exact ⟨by simp [h1], rfl⟩
    · rw [decide_eq_true h0, decide_eq_false h1]
      go_enter Try.func45, Try.ntmps45
      go_wp2
      go_ret
      exact ⟨by first | (simp; done) | (simp; omega), rfl⟩
  · rw [decide_eq_false h0]
    go_enter Try.func45, Try.ntmps45
    go_wp2
    go_ret
    exact ⟨by simp, rfl⟩
end Go.Proofs.Ytflolnilagogpaa
