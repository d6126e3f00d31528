/-
  Several texts in one: Ib Ic Id Is Il Jf.
-/
import Derived.Test.YtjlpfhioacphkaaMsac
import Derived.Test.YtjlpfhioacphkaaMsai
import Derived.Test.YtjlpfhioacphkaaMsam
import Derived.Test.YtjlpfhioacphkaaMsal
/-
  Books, plain: whether one may be, what is written; tables and indexes without the places where they lie.
-/
namespace Go.Proofs.Ytjlpfhioacphkaa
section
set_option linter.unusedSimpArgs false
set_option linter.unusedVariables false
open Go.RowKit

/-- A number of a book. -/
def num31 (z : Int) : Bool := decide (0 ≤ z) && decide (z < 2147483648)
theorem num31_iff {z : Int} : num31 z = true ↔ 0 ≤ z ∧ z < 2147483648 := by simp [num31]
structure PC where
  nm : List UInt8
  k : Int
  d : Int
  u : Int
structure PT where
  nm : List UInt8
  cols : List PC
  f : Int
  r : Int
  p : Int
structure PX where
  nm : List UInt8
  tb : Int
  cs : List Int
  root : Int
  lv : Int
  hi : Int
  ds : List Int
structure PB12 where
  ts : List PT
  xs : List PX
def Cl.pc (c : Cl) : PC := ⟨c.nm.data.toList, c.k, c.d, c.u⟩
def Tb.pt (t : Tb) : PT := ⟨t.nm.data.toList, t.cols.map Cl.pc, t.f, t.r, t.p⟩
def Ix.px (x : Ix) : PX := ⟨x.nm.data.toList, x.tb, x.cs, x.root, x.lv, x.hi, x.ds⟩
def pbk (l : List Tb) (r : List Ix) : PB12 := ⟨l.map Tb.pt, r.map Ix.px⟩
def OkC (c : PC) : Prop := nameB c.nm = true ∧ (1 ≤ c.k ∧ c.k ≤ 3) ∧ num31 c.d = true ∧ num31 c.u = true
/-- Of a list each one is good, and none has the name of one ahead of it. -/
def Good {α : Type} (ok : α → Prop) (nm : α → List UInt8) (l : List α) (n : Nat) : Prop := ∀ i, i < n → ∀ c, l[i]? = some c → ok c ∧ ∀ k, k < i → ∀ c', l[k]? = some c' → nm c' ≠ nm c
def MayT (t : PT) : Prop := nameB t.nm = true ∧ 1 ≤ t.cols.length ∧ t.cols.length ≤ 8 ∧ num31 t.f = true ∧ num31 t.r = true ∧ num31 t.p = true ∧ Good OkC PC.nm t.cols t.cols.length
def MayX (ts : List PT) (x : PX) : Prop := nameB x.nm = true ∧ 0 ≤ x.tb ∧ x.tb < ts.length ∧ 1 ≤ x.cs.length ∧ x.cs.length ≤ 2 ∧ x.ds.length = x.cs.length ∧
  (∀ t, ts[x.tb.toNat]? = some t → ∀ (i : Nat) (c d : Int), x.cs[i]? = some c → x.ds[i]? = some d → (0 ≤ c ∧ c < t.cols.length) ∧ num31 d = true) ∧ (∀ c d, x.cs = [c, d] → c ≠ d) ∧ num31 x.root = true ∧ num31 x.lv = true ∧ num31 x.hi = true
def MayB (b : PB12) : Prop := b.ts.length ≤ 16 ∧ b.xs.length ≤ 16 ∧ Good MayT PT.nm b.ts b.ts.length ∧ Good (MayX b.ts) PX.nm b.xs b.xs.length
theorem Good.zero {α : Type} {ok : α → Prop} {nm : α → List UInt8} {l : List α} : Good ok nm l 0 := fun i h => by omega
theorem Good.succ {α : Type} {ok : α → Prop} {nm : α → List UInt8} {l : List α} {n : Nat} (h : Good ok nm l n) {c : α} (hc : l[n]? = some c) (ho : ok c) (hd : ∀ k, k < n → ∀ c', l[k]? = some c' → nm c' ≠ nm c) : Good ok nm l (n + 1) := by
  intro i hi c' hc'
  by_cases hin : i < n
  · exact h i hin c' hc'
  · obtain rfl : i = n := by omega
    rw [hc] at hc'
    cases hc'
    exact ⟨ho, hd⟩
/-- What is written of it. -/
def txtB (s : List UInt8) : List UInt8 := UInt8.ofNat s.length :: s
def fourB (z : Int) : List UInt8 := be 4 z.toNat
def oneB (z : Int) : List UInt8 := [UInt8.ofNat z.toNat]
def colB (c : PC) : List UInt8 := txtB c.nm ++ oneB c.k ++ fourB c.d ++ fourB c.u
def tabB (t : PT) : List UInt8 := txtB t.nm ++ oneB t.cols.length ++ t.cols.flatMap colB ++ fourB t.f ++ fourB t.r ++ fourB t.p
def idxB (x : PX) : List UInt8 := txtB x.nm ++ oneB x.tb ++ oneB x.cs.length ++ x.cs.flatMap oneB ++ fourB x.root ++ fourB x.lv ++ fourB x.hi ++ x.ds.flatMap fourB
def bookB (b : PB12) : List UInt8 := oneB b.ts.length ++ b.ts.flatMap tabB ++ oneB b.xs.length ++ b.xs.flatMap idxB
/-- A truth. -/
def RetM (w : World) (P : Prop) (e : Ending) (w' : World) : Prop := ∃ b : Bool, e = .returned (.bool b) ∧ (b = true ↔ P) ∧ Below w.heap.size w w'
theorem nm_bytes (a b : ByteArray) (h : a.toList = b.toList) : a = b := by
  rw [ByteArray.toList_eq, ByteArray.toList_eq] at h
  obtain ⟨⟨a⟩⟩ := a
  obtain ⟨⟨b⟩⟩ := b
  simp at h
  rw [h]
theorem nm_cases2 (a b : ByteArray) : (a.data.toList = b.data.toList ∧ (a.toList == b.toList) = true) ∨ (a.data.toList ≠ b.data.toList ∧ (a.toList == b.toList) = false) := by
  by_cases h : a = b
  · exact .inl ⟨by rw [h], by rw [h]; simp⟩
  · have h1 : a.toList ≠ b.toList := fun e => h (nm_bytes a b e)
    refine .inr ⟨fun e => h1 (by rw [ByteArray.toList_eq, ByteArray.toList_eq]; exact e), ?_⟩
    simpa using h1
theorem newAtI {w : World} {t : TypeId} {cs : Array Value} {g : Nat} (h : g = w.heap.size) : Blk (w.alloc (.cells cs t)) g t cs := by subst h; exact Blk.new _ _ _
theorem nb_facts {l : List UInt8} (h : nameB l = true) : 1 ≤ l.length ∧ l.length ≤ 24 := by
  cases l with
  | nil => simp [nameB] at h
  | cons c l => simp [nameB] at h; simp only [List.length_cons]; omega
theorem number_any (z : Int) (w : World) : Calls Try.prog 57 #[.int .i64 z] w fun e w' => e = .returned (.bool (num31 z)) ∧ w = w' := by
  unfold num31
  by_cases h0 : 0 ≤ z
  · by_cases h1 : z < 2147483648
    · rw [decide_eq_true h0, decide_eq_true h1]
      go_enter Try.func57, Try.ntmps57
      go_wp2
      go_ret
      exact ⟨by simp [h1], rfl⟩
    · rw [decide_eq_true h0, decide_eq_false h1]
      go_enter Try.func57, Try.ntmps57
      go_wp2
      go_ret
      exact ⟨by first | (simp; done) | (simp; omega), rfl⟩
  · rw [decide_eq_false h0]
    go_enter Try.func57, Try.ntmps57
    go_wp2
    go_ret
    exact ⟨by simp, rfl⟩
end
end Go.Proofs.Ytjlpfhioacphkaa
/-
  The reference's Name.
-/
namespace Go.Proofs.Ytjlpfhioacphkaa
section
set_option linter.unusedSimpArgs false
set_option linter.unusedVariables false
open Go.RowKit

theorem class_c (c : UInt8) : ∃ a1 a2 d1 d2 b : Bool, (decide ((97 : Int) ≤ (c.toNat : Int)) = a1 ∧ decide ((c.toNat : Int) ≤ 122) = a2 ∧ decide ((48 : Int) ≤ (c.toNat : Int)) = d1 ∧ decide ((c.toNat : Int) ≤ 57) = d2 ∧ ((c.toNat : Int) == 95) = b) ∧ letB c = (a1 && a2) ∧ nmB c = ((a1 && a2) || ((d1 && d2) || b)) ∧
    ((a1 = false ∧ a2 = true ∧ d1 = false ∧ d2 = true ∧ b = false) ∨ (a1 = false ∧ a2 = true ∧ d1 = true ∧ d2 = true ∧ b = false) ∨ (a1 = false ∧ a2 = true ∧ d1 = true ∧ d2 = false ∧ b = false) ∨ (a1 = false ∧ a2 = true ∧ d1 = true ∧ d2 = false ∧ b = true) ∨ (a1 = true ∧ a2 = true ∧ d1 = true ∧ d2 = false ∧ b = false) ∨ (a1 = true ∧ a2 = false ∧ d1 = true ∧ d2 = false ∧ b = false)) := by
  refine ⟨_, _, _, _, _, ⟨rfl, rfl, rfl, rfl, rfl⟩, ?_, ?_, ?_⟩
  · unfold letB
    have h1 : decide ((97 : Int) ≤ (c.toNat : Int)) = decide (97 ≤ c.toNat) := decide_eq_decide.2 (by omega)
    have h2 : decide ((c.toNat : Int) ≤ 122) = decide (c.toNat ≤ 122) := decide_eq_decide.2 (by omega)
    rw [h1, h2]
  · unfold nmB letB digB
    rw [beq95]
    have h1 : decide ((97 : Int) ≤ (c.toNat : Int)) = decide (97 ≤ c.toNat) := decide_eq_decide.2 (by omega)
    have h2 : decide ((c.toNat : Int) ≤ 122) = decide (c.toNat ≤ 122) := decide_eq_decide.2 (by omega)
    have h3 : decide ((48 : Int) ≤ (c.toNat : Int)) = decide (48 ≤ c.toNat) := decide_eq_decide.2 (by omega)
    have h4 : decide ((c.toNat : Int) ≤ 57) = decide (c.toNat ≤ 57) := decide_eq_decide.2 (by omega)
    rw [h1, h2, h3, h4]
  · simp only [decide_eq_true_iff, decide_eq_false_iff_not, beq_iff_eq, beq_eq_false_iff_ne]
    omega
theorem nameB_cons (s : ByteArray) (h0 : 0 < s.size) (h24 : s.size ≤ 24) (h : letB s[0] = true) : nameB s.data.toList = (s.data.toList.drop 1).all nmB := by
  rw [nameB_all s h0 h24 h]
  have hd := drop_atL s 0 h0
  rw [List.drop_zero] at hd
  have : nmB s[0] = true := by unfold nmB; rw [h]; rfl
  rw [hd, List.all_cons, this, Bool.true_and]
  rfl
set_option maxHeartbeats 2000000 in
theorem rname_any (s : ByteArray) (hs : s.size ≤ maxLen) (w : World) : Calls Try.prog 56 #[.string s] w fun e w' => e = .returned (.bool (nameB s.data.toList)) ∧ w = w' := by
  unfold maxLen at hs
  have hsI : (s.size : Int) ≤ 9223372036854775807 := by omega
  clear hs
  by_cases h0 : 0 < s.size
  · have g0 : (0 : Int) < (s.size : Int) := by omega
    have g1 : (1 : Int) ≤ (s.size : Int) := by omega
    by_cases h24 : s.size ≤ 24
    · have g24 : (s.size : Int) ≤ 24 := by omega
      have H24 := Lib.hid h24
      clear h24
      go_enter Try.func56, Try.ntmps56
      go_wp2
      go_loop [3] (fun v => ∃ i : Nat, i ≤ s.size ∧ v = .int .i64 i ∧ (i = 0 ∨ (1 ≤ i ∧ nameB s.data.toList = (s.data.toList.drop i).all nmB))) (fun v => s.size - (intOf v).toNat)
      case atStart => exact ⟨0, by omega, rfl, .inl rfl⟩
      case round =>
        obtain ⟨i, hi, rfl, he⟩ := hrel
        have q0 : (0 : Int) ≤ (i : Int) := by omega
        by_cases hlt : i < s.size
        · have q1 : (i : Int) < (s.size : Int) := by omega
          have HD := Lib.hid (And.intro (drop_atL s i hlt) he)
          obtain ⟨a1, a2, d1, d2, b, ⟨f1, f2, f3, f4, f5⟩, hl, hn, hcase⟩ := class_c s[i]
          clear he
          have key : ((a1 && a2) = true → i = 0 → nameB s.data.toList = (s.data.toList.drop (i + 1)).all nmB) ∧ ((a1 && a2) = false → i = 0 → nameB s.data.toList = false) ∧ (((a1 && a2) || ((d1 && d2) || b)) = true → 1 ≤ i → nameB s.data.toList = (s.data.toList.drop (i + 1)).all nmB) ∧ (((a1 && a2) || ((d1 && d2) || b)) = false → 1 ≤ i → nameB s.data.toList = false) := by
            refine ⟨fun h h' => ?_, fun h h' => ?_, fun h h' => ?_, fun h h' => ?_⟩
            · subst h'; exact nameB_cons s h0 H24.out (hl.trans h)
            · subst h'; exact nameB_first s h0 (hl.trans h)
            · rcases HD.out.2 with h2 | ⟨_, h2⟩
              · omega
              · rw [h2, HD.out.1, List.all_cons, hn, h, Bool.true_and]
            · rcases HD.out.2 with h2 | ⟨_, h2⟩
              · omega
              · rw [h2, HD.out.1, List.all_cons, hn, h, Bool.false_and]
          have HK := Lib.hid (And.intro key trivial)
          clear key hl hn
          by_cases hi0 : i = 0
          · subst hi0
            rcases hcase with ⟨rfl, rfl, rfl, rfl, rfl⟩ | ⟨rfl, rfl, rfl, rfl, rfl⟩ | ⟨rfl, rfl, rfl, rfl, rfl⟩ | ⟨rfl, rfl, rfl, rfl, rfl⟩ | ⟨rfl, rfl, rfl, rfl, rfl⟩ | ⟨rfl, rfl, rfl, rfl, rfl⟩
            all_goals
              go_wp2
              first
                | (go_round
                   case rel => exact ⟨0 + 1, by omega, by go_num, .inr ⟨by omega, HK.out.1.1 (by first | rfl | trivial) (by first | rfl | trivial)⟩⟩
                   case measure => simp [intOf]; omega)
                | (go_ret
                   exact ⟨by rw [HK.out.1.2.1 (by first | rfl | trivial) (by first | rfl | trivial)]; rfl, rfl⟩)
          · have q3 : (1 : Int) ≤ (i : Int) := by omega
            have q4 : ((i : Int) == 0) = false := by simp; omega
            rcases hcase with ⟨rfl, rfl, rfl, rfl, rfl⟩ | ⟨rfl, rfl, rfl, rfl, rfl⟩ | ⟨rfl, rfl, rfl, rfl, rfl⟩ | ⟨rfl, rfl, rfl, rfl, rfl⟩ | ⟨rfl, rfl, rfl, rfl, rfl⟩ | ⟨rfl, rfl, rfl, rfl, rfl⟩
            all_goals
              go_wp2
              first
                | (go_round
                   case rel => exact ⟨i + 1, by omega, by go_num, .inr ⟨by omega, HK.out.1.2.2.1 (by first | rfl | trivial) (by omega)⟩⟩
                   case measure => simp [intOf]; omega)
                | (go_ret
                   exact ⟨by rw [HK.out.1.2.2.2 (by first | rfl | trivial) (by omega)]; rfl, rfl⟩)
        · obtain rfl : i = s.size := by omega
          have hF : Hid (nameB s.data.toList = true) := Lib.hid (by
            rcases he with h2 | ⟨_, h2⟩
            · omega
            · rw [h2, List.drop_eq_nil_of_le (by rw [szL]; exact Nat.le_refl _)]; rfl)
          clear he
          go_wp2
          go_ret
          exact ⟨by rw [hF.out]; rfl, rfl⟩
    · have g24 : (24 : Int) < (s.size : Int) := by omega
      have hN : Hid (nameB s.data.toList = false) := Lib.hid (nameB_long _ (by rw [szL]; omega))
      go_enter Try.func56, Try.ntmps56
      go_wp2
      go_ret
      exact ⟨by rw [hN.out]; rfl, rfl⟩
  · have g0 : (s.size : Int) = 0 := by omega
    have hN : Hid (nameB s.data.toList = false) := Lib.hid (by rw [show s.data.toList = [] from List.eq_nil_of_length_eq_zero (by rw [szL]; omega)]; rfl)
    go_enter Try.func56, Try.ntmps56
    go_wp2
    go_ret
    exact ⟨by rw [hN.out]; rfl, rfl⟩
end
end Go.Proofs.Ytjlpfhioacphkaa
/-
  The reference's table: may one be?
-/
namespace Go.Proofs.Ytjlpfhioacphkaa
section
set_option linter.unusedSimpArgs false
set_option linter.unusedVariables false
open Go.RowKit

@[reducible] def Tb.agg (t : Tb) : Value := .agg #[.string t.nm, .slice t.A t.n t.c, .int .u32 t.f, .int .i64 t.r, .int .i64 t.p]
theorem pc_at {l : List Cl} {k : Nat} {c : PC} (h : (l.map Cl.pc)[k]? = some c) : ∃ q, l[k]? = some q ∧ c = q.pc := by
  rw [List.getElem?_map] at h
  cases hq : l[k]? with
  | none => rw [hq] at h; cases h
  | some q => rw [hq] at h; exact ⟨q, rfl, (Option.some.inj h).symm⟩
set_option maxRecDepth 100000 in
set_option maxHeartbeats 4000000 in
theorem rtable_any (t : Tb) (w : World) (ht : TbOk w w.heap.size t) : Calls Try.prog 32 #[t.agg] w (RetM w (MayT t.pt)) := by
  obtain ⟨⟨hz0, hz1, hcr, hcs⟩, hf0, hf1⟩ := ht
  have hln : t.cols.length = t.n := by have := hcr.1; rw [vC_len] at this; omega
  obtain ⟨nm, A, n, c, f, rr, p, cols⟩ := t
  simp only at hcr hcs hln hf0 hf1 hz0 hz1
  have hlp : (cols.map Cl.pc).length = n := by rw [List.length_map]; exact hln
  unfold maxLen at hz1
  have nI : (n : Int) ≤ 9223372036854775807 := by omega
  have HZ := Lib.hid hz0
  have HC := Lib.hid (And.intro hcr (And.intro hcs (And.intro hln hlp)))
  clear hz0 hz1 hcr hcs hln hlp
  by_cases cN : nameB nm.data.toList = true
  · skip
    by_cases c1 : 1 ≤ n
    · skip
      have c1I : (1 : Int) ≤ (n : Int) := by omega
      by_cases c8 : n ≤ 8
      · skip
        have c8I : (n : Int) ≤ 8 := by omega
        by_cases cf : num31 f = true
        · skip
          by_cases cr : num31 rr = true
          · skip
            by_cases cp : num31 p = true
            · skip
              have NM : Hid (∀ W : World, Calls Try.prog 56 #[.string nm] W fun e w' => e = .returned (.bool true) ∧ W = w') := Lib.hid fun W => by have h := rname_any nm HZ.out W; rwa [cN] at h
              have NF : Hid (∀ W : World, Calls Try.prog 57 #[.int .i64 f] W fun e w' => e = .returned (.bool true) ∧ W = w') := Lib.hid fun W => by have h := number_any f W; rwa [cf] at h
              have NR : Hid (∀ W : World, Calls Try.prog 57 #[.int .i64 rr] W fun e w' => e = .returned (.bool true) ∧ W = w') := Lib.hid fun W => by have h := number_any rr W; rwa [cr] at h
              have NP : Hid (∀ W : World, Calls Try.prog 57 #[.int .i64 p] W fun e w' => e = .returned (.bool true) ∧ W = w') := Lib.hid fun W => by have h := number_any p W; rwa [cp] at h
              have MT := Lib.hid (fun (g : Good OkC PC.nm (cols.map Cl.pc) n) => (show MayT ⟨nm.data.toList, cols.map Cl.pc, f, rr, p⟩ from ⟨cN, by rw [HC.out.2.2.2]; exact c1, by rw [HC.out.2.2.2]; exact c8, cf, cr, cp, by rw [HC.out.2.2.2]; exact g⟩))
              have MN := Lib.hid (fun (h : MayT ⟨nm.data.toList, cols.map Cl.pc, f, rr, p⟩) (k : Nat) (hk : k < n) => h.2.2.2.2.2.2 k (by rw [HC.out.2.2.2]; exact hk))
              clear cN cf cr cp c1 c8
              go_enter Try.func32, Try.ntmps32
              go_wp2_with (first
                              | (go_at_call 56; (with_reducible refine (NM.out _).mono ?_); rintro e w' ⟨rfl, rfl⟩)
                              | (go_at_call 57; (with_reducible refine (NF.out _).mono ?_); rintro e w' ⟨rfl, rfl⟩)
                              | (go_at_call 57; (with_reducible refine (NR.out _).mono ?_); rintro e w' ⟨rfl, rfl⟩)
                              | (go_at_call 57; (with_reducible refine (NP.out _).mono ?_); rintro e w' ⟨rfl, rfl⟩))
              clear NM NF NR NP
              go_loopw [44] (fun v wr => ∃ i : Nat, i ≤ n ∧ v = .int .i64 i ∧ Below w.heap.size w wr ∧ Blk wr w.heap.size 62 #[.string nm, .slice A n c, .int .u32 f, .int .i64 rr, .int .i64 p] ∧ Good OkC PC.nm (cols.map Cl.pc) i) (fun v _ => n - (intOf v).toNat)
              case atStart => exact ⟨0, by omega, rfl, ball (Below.refl _ _) _, Blk.new _ _ _, Good.zero⟩
              case round =>
                obtain ⟨wo, rfl⟩ : ∃ wo : World, wo = wr := ⟨_, rfl⟩
                obtain ⟨i, hi, rfl, hb, hbk, hg⟩ := hrel
                have q0 : (0 : Int) ≤ (i : Int) := by omega
                have b0 : wo.cell? ⟨w.heap.size, 0, none⟩ = some (.string nm) := hbk.cell 0
                have b1 : wo.cell? ⟨w.heap.size, 1, none⟩ = some (.slice A n c) := hbk.cell 1
                have blt := hbk.lt
                by_cases hlt : i < n
                · have q1 : (i : Int) < (n : Int) := by omega
                  obtain ⟨ad, q, rfl, hab, hq, d0, d1, d2, d3⟩ := (HC.out.1.below hb).cl_ hlt
                  have hqok := HC.out.2.1 q (List.mem_of_getElem? hq)
                  have hpq : (cols.map Cl.pc)[i]? = some q.pc := by rw [List.getElem?_map, hq]; rfl
                  obtain ⟨qn, qk, qd, qu⟩ := q
                  have hadlt : (ad.add (i * 4)).block < wo.heap.size := by rw [block_of_add]; have := hb.size; omega
                  have HQ := Lib.hid (And.intro hqok (And.intro hpq (And.intro hb (And.intro hbk hg))))
                  have k0 : (0 : Int) ≤ qk := hqok.2.1
                  have HQN : Hid (qn.size ≤ maxLen) := Lib.hid hqok.1
                  clear hqok hpq hq hb hbk hg
                  by_cases eN : nameB qn.data.toList = true
                  · skip
                    by_cases e1 : 1 ≤ qk
                    · skip
                      by_cases e3 : qk ≤ 3
                      · skip
                        by_cases ed : num31 qd = true
                        · skip
                          by_cases eu : num31 qu = true
                          · skip
                            have CN : Hid (∀ W : World, Calls Try.prog 56 #[.string qn] W fun e w' => e = .returned (.bool true) ∧ W = w') := Lib.hid fun W => by have h := rname_any qn HQN.out W; rwa [eN] at h
                            have CD : Hid (∀ W : World, Calls Try.prog 57 #[.int .i64 qd] W fun e w' => e = .returned (.bool true) ∧ W = w') := Lib.hid fun W => by have h := number_any qd W; rwa [ed] at h
                            have CU : Hid (∀ W : World, Calls Try.prog 57 #[.int .i64 qu] W fun e w' => e = .returned (.bool true) ∧ W = w') := Lib.hid fun W => by have h := number_any qu W; rwa [eu] at h
                            have eb : (qk == 0) = false := by simp; omega
                            have OKC := Lib.hid (show OkC ⟨qn.data.toList, qk, qd, qu⟩ from ⟨eN, ⟨e1, e3⟩, ed, eu⟩)
                            clear eN ed eu
                            go_wp2_with (first
                                                          | (go_at_call 56; (with_reducible refine (CN.out _).mono ?_); rintro e w' ⟨rfl, rfl⟩)
                                                          | (go_at_call 57; (with_reducible refine (CD.out _).mono ?_); rintro e w' ⟨rfl, rfl⟩)
                                                          | (go_at_call 57; (with_reducible refine (CU.out _).mono ?_); rintro e w' ⟨rfl, rfl⟩))
                            go_loopw [5] (fun v wr => ∃ k : Nat, k ≤ i ∧ v = .int .i64 k ∧ Below w.heap.size w wr ∧ Blk wr w.heap.size 62 #[.string nm, .slice (some ad) n c, .int .u32 f, .int .i64 rr, .int .i64 p] ∧ Blk wr wo.heap.size 64 #[.string qn, .int .u8 qk, .int .i64 qd, .int .i64 qu] ∧ ∀ j, j < k → ∀ c', (cols.map Cl.pc)[j]? = some c' → c'.nm ≠ qn.data.toList) (fun v _ => i - (intOf v).toNat)
                            case atStart => exact ⟨0, by omega, rfl, ball HQ.out.2.2.1 _, HQ.out.2.2.2.1.alloc _, Blk.new _ _ _, fun j hj => by omega⟩
                            case round =>
                              obtain ⟨k, hk, rfl, hb, hbk, hbq, hdf⟩ := hrel
                              have r0 : (0 : Int) ≤ (k : Int) := by omega
                              by_cases hki : k < i
                              · have r1 : (k : Int) < (i : Int) := by omega
                                have r2 : (k : Int) < (n : Int) := by omega
                                obtain ⟨ad2, q2, hA2, hab2, hq2, f0, f1, f2, f3⟩ := (HC.out.1.below hb).cl_ (show k < n by omega)
                                cases hA2
                                have hpq2 : (cols.map Cl.pc)[k]? = some q2.pc := by rw [List.getElem?_map, hq2]; rfl
                                have g1 : wr.cell? ⟨w.heap.size, 1, none⟩ = some (.slice (some ad) n c) := hbk.cell 1
                                have g2 : wr.cell? ⟨wo.heap.size, 0, none⟩ = some (.string qn) := hbq.cell 0
                                have HK := Lib.hid (And.intro hpq2 (And.intro hb (And.intro hbk (And.intro hbq hdf))))
                                clear hpq2 hb hbk hbq hdf hq2 f1 f2 f3 b0 b1
                                rcases nm_cases2 q2.nm qn with ⟨h1, h2⟩ | ⟨h1, h2⟩
                                · have HN := Lib.hid h1
                                  clear h1
                                  go_wp2
                                  go_quiet (fail)
                                  go_wp2
                                  go_ret
                                  exact ⟨false, rfl, ⟨fun h => (by cases h), fun h => absurd HN.out ((MN.out h i hlt _ HQ.out.2.1).2 k hki _ HK.out.1)⟩, bdr HK.out.2.1 _⟩
                                · have HN := Lib.hid h1
                                  clear h1
                                  go_wp2
                                  go_quiet (fail)
                                  go_wp2
                                  exact ⟨⟨k + 1, by omega, by go_num, bdr HK.out.2.1 _, HK.out.2.2.1.drewN _, HK.out.2.2.2.1.drewN _, fun j hj c' hc' => by
                                    by_cases hjk : j < k
                                    · exact HK.out.2.2.2.2 j hjk c' hc'
                                    · obtain rfl : j = k := by omega
                                      rw [HK.out.1] at hc'
                                      cases hc'
                                      exact HN.out⟩, by simp [intOf]; omega⟩
                              · obtain rfl : k = i := by omega
                                have HG := Lib.hid (HQ.out.2.2.2.2.succ HQ.out.2.1 OKC.out hdf)
                                clear hdf
                                go_wp2
                                exact ⟨⟨k + 1, by omega, by go_num, hb, hbk, HG.out⟩, by simp [intOf]; omega⟩
                          · skip
                            have CN : Hid (∀ W : World, Calls Try.prog 56 #[.string qn] W fun e w' => e = .returned (.bool true) ∧ W = w') := Lib.hid fun W => by have h := rname_any qn HQN.out W; rwa [eN] at h
                            have CD : Hid (∀ W : World, Calls Try.prog 57 #[.int .i64 qd] W fun e w' => e = .returned (.bool true) ∧ W = w') := Lib.hid fun W => by have h := number_any qd W; rwa [ed] at h
                            have CU : Hid (∀ W : World, Calls Try.prog 57 #[.int .i64 qu] W fun e w' => e = .returned (.bool false) ∧ W = w') := Lib.hid fun W => by have h := number_any qu W; rwa [(by simpa using eu : num31 qu = false)] at h
                            have eb : (qk == 0) = false := by simp; omega
                            have HX := Lib.hid (fun (h : OkC ⟨qn.data.toList, qk, qd, qu⟩) => eu h.2.2.2)
                            clear eN ed eu
                            go_wp2_with (first
                                                          | (go_at_call 56; (with_reducible refine (CN.out _).mono ?_); rintro e w' ⟨rfl, rfl⟩)
                                                          | (go_at_call 57; (with_reducible refine (CD.out _).mono ?_); rintro e w' ⟨rfl, rfl⟩)
                                                          | (go_at_call 57; (with_reducible refine (CU.out _).mono ?_); rintro e w' ⟨rfl, rfl⟩))
                            go_ret
                            exact ⟨false, rfl, ⟨fun h => (by cases h), fun h => (HX.out (MN.out h i hlt _ HQ.out.2.1).1).elim⟩, ball HQ.out.2.2.1 _⟩
                        · skip
                          have CN : Hid (∀ W : World, Calls Try.prog 56 #[.string qn] W fun e w' => e = .returned (.bool true) ∧ W = w') := Lib.hid fun W => by have h := rname_any qn HQN.out W; rwa [eN] at h
                          have CD : Hid (∀ W : World, Calls Try.prog 57 #[.int .i64 qd] W fun e w' => e = .returned (.bool false) ∧ W = w') := Lib.hid fun W => by have h := number_any qd W; rwa [(by simpa using ed : num31 qd = false)] at h
                          have eb : (qk == 0) = false := by simp; omega
                          have HX := Lib.hid (fun (h : OkC ⟨qn.data.toList, qk, qd, qu⟩) => ed h.2.2.1)
                          clear eN ed
                          go_wp2_with (first
                                                      | (go_at_call 56; (with_reducible refine (CN.out _).mono ?_); rintro e w' ⟨rfl, rfl⟩)
                                                      | (go_at_call 57; (with_reducible refine (CD.out _).mono ?_); rintro e w' ⟨rfl, rfl⟩))
                          go_ret
                          exact ⟨false, rfl, ⟨fun h => (by cases h), fun h => (HX.out (MN.out h i hlt _ HQ.out.2.1).1).elim⟩, ball HQ.out.2.2.1 _⟩
                      · skip
                        have CN : Hid (∀ W : World, Calls Try.prog 56 #[.string qn] W fun e w' => e = .returned (.bool true) ∧ W = w') := Lib.hid fun W => by have h := rname_any qn HQN.out W; rwa [eN] at h
                        have eb : (qk == 0) = false := by simp; omega
                        have e4 : (3 : Int) < qk := by omega
                        have HX := Lib.hid (fun (h : OkC ⟨qn.data.toList, qk, qd, qu⟩) => e3 h.2.1.2)
                        clear eN e3
                        go_wp2_with (first
                                                  | (go_at_call 56; (with_reducible refine (CN.out _).mono ?_); rintro e w' ⟨rfl, rfl⟩))
                        go_ret
                        exact ⟨false, rfl, ⟨fun h => (by cases h), fun h => (HX.out (MN.out h i hlt _ HQ.out.2.1).1).elim⟩, ball HQ.out.2.2.1 _⟩
                    · skip
                      have CN : Hid (∀ W : World, Calls Try.prog 56 #[.string qn] W fun e w' => e = .returned (.bool true) ∧ W = w') := Lib.hid fun W => by have h := rname_any qn HQN.out W; rwa [eN] at h
                      obtain rfl : qk = 0 := by omega
                      have HX := Lib.hid (fun (h : OkC ⟨qn.data.toList, 0, qd, qu⟩) => e1 h.2.1.1)
                      clear eN e1
                      go_wp2_with (first
                                              | (go_at_call 56; (with_reducible refine (CN.out _).mono ?_); rintro e w' ⟨rfl, rfl⟩))
                      go_ret
                      exact ⟨false, rfl, ⟨fun h => (by cases h), fun h => (HX.out (MN.out h i hlt _ HQ.out.2.1).1).elim⟩, ball HQ.out.2.2.1 _⟩
                  · skip
                    have CN : Hid (∀ W : World, Calls Try.prog 56 #[.string qn] W fun e w' => e = .returned (.bool false) ∧ W = w') := Lib.hid fun W => by have h := rname_any qn HQN.out W; rwa [(by simpa using eN : nameB qn.data.toList = false)] at h
                    have HX := Lib.hid (fun (h : OkC ⟨qn.data.toList, qk, qd, qu⟩) => eN h.1)
                    clear eN
                    go_wp2_with (first
                                          | (go_at_call 56; (with_reducible refine (CN.out _).mono ?_); rintro e w' ⟨rfl, rfl⟩))
                    go_ret
                    exact ⟨false, rfl, ⟨fun h => (by cases h), fun h => (HX.out (MN.out h i hlt _ HQ.out.2.1).1).elim⟩, ball HQ.out.2.2.1 _⟩
                · obtain rfl : i = n := by omega
                  have HG := Lib.hid (MT.out hg)
                  clear hg
                  go_wp2
                  go_ret
                  exact ⟨true, rfl, ⟨fun _ => HG.out, fun _ => rfl⟩, hb⟩
            · skip
              have NM : Hid (∀ W : World, Calls Try.prog 56 #[.string nm] W fun e w' => e = .returned (.bool true) ∧ W = w') := Lib.hid fun W => by have h := rname_any nm HZ.out W; rwa [cN] at h
              have NF : Hid (∀ W : World, Calls Try.prog 57 #[.int .i64 f] W fun e w' => e = .returned (.bool true) ∧ W = w') := Lib.hid fun W => by have h := number_any f W; rwa [cf] at h
              have NR : Hid (∀ W : World, Calls Try.prog 57 #[.int .i64 rr] W fun e w' => e = .returned (.bool true) ∧ W = w') := Lib.hid fun W => by have h := number_any rr W; rwa [cr] at h
              have NP : Hid (∀ W : World, Calls Try.prog 57 #[.int .i64 p] W fun e w' => e = .returned (.bool false) ∧ W = w') := Lib.hid fun W => by have h := number_any p W; rwa [(by simpa using cp : num31 p = false)] at h
              have HX := Lib.hid (fun (h : MayT ⟨nm.data.toList, cols.map Cl.pc, f, rr, p⟩) => cp h.2.2.2.2.2.1)
              clear cN cf cr cp
              go_enter Try.func32, Try.ntmps32
              go_wp2_with (first
                              | (go_at_call 56; (with_reducible refine (NM.out _).mono ?_); rintro e w' ⟨rfl, rfl⟩)
                              | (go_at_call 57; (with_reducible refine (NF.out _).mono ?_); rintro e w' ⟨rfl, rfl⟩)
                              | (go_at_call 57; (with_reducible refine (NR.out _).mono ?_); rintro e w' ⟨rfl, rfl⟩)
                              | (go_at_call 57; (with_reducible refine (NP.out _).mono ?_); rintro e w' ⟨rfl, rfl⟩))
              go_ret
              exact ⟨false, rfl, ⟨fun h => (by cases h), fun h => (HX.out h).elim⟩, ball (Below.refl _ _) _⟩
          · skip
            have NM : Hid (∀ W : World, Calls Try.prog 56 #[.string nm] W fun e w' => e = .returned (.bool true) ∧ W = w') := Lib.hid fun W => by have h := rname_any nm HZ.out W; rwa [cN] at h
            have NF : Hid (∀ W : World, Calls Try.prog 57 #[.int .i64 f] W fun e w' => e = .returned (.bool true) ∧ W = w') := Lib.hid fun W => by have h := number_any f W; rwa [cf] at h
            have NR : Hid (∀ W : World, Calls Try.prog 57 #[.int .i64 rr] W fun e w' => e = .returned (.bool false) ∧ W = w') := Lib.hid fun W => by have h := number_any rr W; rwa [(by simpa using cr : num31 rr = false)] at h
            have HX := Lib.hid (fun (h : MayT ⟨nm.data.toList, cols.map Cl.pc, f, rr, p⟩) => cr h.2.2.2.2.1)
            clear cN cf cr
            go_enter Try.func32, Try.ntmps32
            go_wp2_with (first
                          | (go_at_call 56; (with_reducible refine (NM.out _).mono ?_); rintro e w' ⟨rfl, rfl⟩)
                          | (go_at_call 57; (with_reducible refine (NF.out _).mono ?_); rintro e w' ⟨rfl, rfl⟩)
                          | (go_at_call 57; (with_reducible refine (NR.out _).mono ?_); rintro e w' ⟨rfl, rfl⟩))
            go_ret
            exact ⟨false, rfl, ⟨fun h => (by cases h), fun h => (HX.out h).elim⟩, ball (Below.refl _ _) _⟩
        · skip
          have NM : Hid (∀ W : World, Calls Try.prog 56 #[.string nm] W fun e w' => e = .returned (.bool true) ∧ W = w') := Lib.hid fun W => by have h := rname_any nm HZ.out W; rwa [cN] at h
          have NF : Hid (∀ W : World, Calls Try.prog 57 #[.int .i64 f] W fun e w' => e = .returned (.bool false) ∧ W = w') := Lib.hid fun W => by have h := number_any f W; rwa [(by simpa using cf : num31 f = false)] at h
          have HX := Lib.hid (fun (h : MayT ⟨nm.data.toList, cols.map Cl.pc, f, rr, p⟩) => cf h.2.2.2.1)
          clear cN cf
          go_enter Try.func32, Try.ntmps32
          go_wp2_with (first
                      | (go_at_call 56; (with_reducible refine (NM.out _).mono ?_); rintro e w' ⟨rfl, rfl⟩)
                      | (go_at_call 57; (with_reducible refine (NF.out _).mono ?_); rintro e w' ⟨rfl, rfl⟩))
          go_ret
          exact ⟨false, rfl, ⟨fun h => (by cases h), fun h => (HX.out h).elim⟩, ball (Below.refl _ _) _⟩
      · skip
        have NM : Hid (∀ W : World, Calls Try.prog 56 #[.string nm] W fun e w' => e = .returned (.bool true) ∧ W = w') := Lib.hid fun W => by have h := rname_any nm HZ.out W; rwa [cN] at h
        have c9 : (8 : Int) < (n : Int) := by omega
        have HX := Lib.hid (fun (h : MayT ⟨nm.data.toList, cols.map Cl.pc, f, rr, p⟩) => c8 (HC.out.2.2.2 ▸ h.2.2.1))
        clear cN c8
        go_enter Try.func32, Try.ntmps32
        go_wp2_with (first
                  | (go_at_call 56; (with_reducible refine (NM.out _).mono ?_); rintro e w' ⟨rfl, rfl⟩))
        go_ret
        exact ⟨false, rfl, ⟨fun h => (by cases h), fun h => (HX.out h).elim⟩, ball (Below.refl _ _) _⟩
    · skip
      have NM : Hid (∀ W : World, Calls Try.prog 56 #[.string nm] W fun e w' => e = .returned (.bool true) ∧ W = w') := Lib.hid fun W => by have h := rname_any nm HZ.out W; rwa [cN] at h
      obtain rfl : n = 0 := by omega
      have HX := Lib.hid (fun (h : MayT ⟨nm.data.toList, cols.map Cl.pc, f, rr, p⟩) => c1 (HC.out.2.2.2 ▸ h.2.1))
      clear cN c1
      go_enter Try.func32, Try.ntmps32
      go_wp2_with (first
              | (go_at_call 56; (with_reducible refine (NM.out _).mono ?_); rintro e w' ⟨rfl, rfl⟩))
      go_ret
      exact ⟨false, rfl, ⟨fun h => (by cases h), fun h => (HX.out h).elim⟩, ball (Below.refl _ _) _⟩
  · skip
    have NM : Hid (∀ W : World, Calls Try.prog 56 #[.string nm] W fun e w' => e = .returned (.bool false) ∧ W = w') := Lib.hid fun W => by have h := rname_any nm HZ.out W; rwa [(by simpa using cN : nameB nm.data.toList = false)] at h
    have HX := Lib.hid (fun (h : MayT ⟨nm.data.toList, cols.map Cl.pc, f, rr, p⟩) => cN h.1)
    clear cN
    go_enter Try.func32, Try.ntmps32
    go_wp2_with (first
          | (go_at_call 56; (with_reducible refine (NM.out _).mono ?_); rintro e w' ⟨rfl, rfl⟩))
    go_ret
    exact ⟨false, rfl, ⟨fun h => (by cases h), fun h => (HX.out h).elim⟩, ball (Below.refl _ _) _⟩
end
end Go.Proofs.Ytjlpfhioacphkaa
/-
  The program's writing: texts, numbers.
-/
namespace Go.Proofs.Ytjlpfhioacphkaa
section
set_option linter.unusedSimpArgs false
set_option linter.unusedVariables false
open Go.RowKit

def RetOwn (w : World) (base : Nat) (l : List UInt8) (e : Ending) (w' : World) : Prop := ∃ v', e = .returned v' ∧ Own w' base v' l ∧ Keeps base w w'
theorem reads_blk12 {w : World} {g n : Nat} {t : TypeId} {cs : Array Value} {xs : List Value} (h : Blk w g t cs) (hx : xs = cs.toList) (hn : xs.length = n) : Reads w w.heap.size 1 (some ⟨g, 0, none⟩) n xs := by
  refine ⟨by omega, fun _ => ⟨⟨g, 0, none⟩, rfl, h.lt, fun k u hu => ?_⟩⟩
  rw [add_head, h.cell k, ← Array.getElem?_toList, ← hx]
  exact hu
set_option maxHeartbeats 1000000 in
theorem putText_any (sv : Value) (l : List UInt8) (s : ByteArray) (w : World) (base : Nat) (hown : Own w base sv l) (hb : base ≤ w.heap.size) (hs : s.size ≤ 24) (hlen : l.length ≤ 100000000) :
    Calls Try.prog 62 #[sv, .string s] w (RetOwn w base (l ++ txtB s.data.toList)) := by
  have h0 : IntKind.u8.wrap (s.size : Int) = ((UInt8.ofNat s.size).toNat : Int) := by rw [u8_nat, IntKind.wrap_u8]
  have h0' : (s.size : Int) = ((UInt8.ofNat s.size).toNat : Int) := by rw [u8_nat]; omega
  have HL := Lib.hid (And.intro hlen (And.intro hs (And.intro h0 h0')))
  clear hlen h0 h0'
  have hsI : (s.size : Int) ≤ 24 := by omega
  have e1 : l ++ txtB s.data.toList = l ++ [UInt8.ofNat s.size] ++ s.data.toList := by unfold txtB; first | (simp; done) | (simp; rfl)
  have HE := Lib.hid e1
  clear e1
  go_enter Try.func62, Try.ntmps62
  go_wp2_with (first
    | (at_builtin; refine wpList_pushB rfl _ _ rfl base sv l (UInt8.ofNat s.size) _ rfl hown _ rfl rfl (by first | exact HL.out.2.2.1 | exact HL.out.2.2.2) (by have := HL.out.1; omega) hb ?_; intro v2 w2 own2 kp2)
    | (at_builtin; refine wpList_appS rfl _ _ rfl base v2 _ s rfl own2 rfl (by have := HL.out.1; have := HL.out.2.1; simp; omega) (Nat.le_trans hb kp2.size) ?_; intro v3 w3 own3 kp3))
  go_ret
  exact ⟨_, rfl, by rw [HE.out]; exact own3, kp2.trans kp3⟩
theorem four_flat : ∀ q : List Int, (q.flatMap fourB).length ≤ 4 * q.length
  | [] => by simp
  | a :: r => by
    have h1 : (fourB a).length = 4 := by unfold fourB; exact be_len 4 _
    have h2 := four_flat r
    rw [List.flatMap_cons, List.length_append, List.length_cons]
    omega
theorem bL_be4 {U : Nat} (h : U < 2147483648) : [Value.int .u8 ((U : Int) / 16777216), .int .u8 ((U : Int) / 65536 % 256), .int .u8 ((U : Int) / 256 % 256), .int .u8 ((U : Int) % 256)] = bL (be 4 U) := by
  have b0 : (U : Int) / 16777216 = ((UInt8.ofNat (U / 256 ^ 3)).toNat : Int) := by rw [u8_nat]; omega
  have b1 : (U : Int) / 65536 % 256 = ((UInt8.ofNat (U / 256 ^ 2)).toNat : Int) := by rw [u8_nat]; omega
  have b2 : (U : Int) / 256 % 256 = ((UInt8.ofNat (U / 256 ^ 1)).toNat : Int) := by rw [u8_nat]; omega
  have b3 : (U : Int) % 256 = ((UInt8.ofNat (U / 256 ^ 0)).toNat : Int) := by rw [u8_nat]; simp
  rw [b0, b1, b2, b3]
  rw [be_cons, be_cons, be_cons, be_cons]
  rfl
theorem shr_any {U d : Nat} : (U : Int) / 2 ^ (8 * d) % 256 = ((UInt8.ofNat (U / 256 ^ d)).toNat : Int) := by
  have h2 : (2 : Int) ^ (8 * d) = ((256 ^ d : Nat) : Int) := by
    rw [Int.pow_mul, Int.natCast_pow]
    rfl
  rw [h2, u8_nat, Int.natCast_ediv]
set_option maxRecDepth 100000 in
set_option maxHeartbeats 2000000 in
theorem putNumbers_any (sv : Value) (l : List UInt8) (A : Option Addr) (n c : Nat) (ns : List Int) (w : World) (base : Nat) (hown : Own w base sv l) (hb : base ≤ w.heap.size) (hlen : l.length ≤ 100000000) (hn : n ≤ 10)
    (hr : ∀ W, Keeps base w W → ∃ B, Reads W B 1 A n (vI64 ns)) (h31 : ∀ z ∈ ns, num31 z = true) :
    Calls Try.prog 63 #[sv, .slice A n c] w (RetOwn w base (l ++ ns.flatMap fourB)) := by
  have hln : ns.length = n := by obtain ⟨B, h⟩ := hr w (Keeps.refl _ _); have := h.1; rw [vI64_len] at this; omega
  have nI : (n : Int) ≤ 10 := by omega
  have HC := Lib.hid (And.intro hr (And.intro h31 (And.intro hln hlen)))
  clear hr h31 hln hlen
  go_enter Try.func63, Try.ntmps63
  go_wp2
  go_loopw [0, 9] (fun bv iv wr => ∃ j : Nat, j ≤ n ∧ iv = .int .i64 j ∧ Own wr base bv (l ++ (ns.take j).flatMap fourB) ∧ Keeps base w wr) (fun _ iv _ => n - (intOf iv).toNat)
  case atStart => exact ⟨0, by omega, rfl, by rw [List.take_zero, List.flatMap_nil, List.append_nil]; exact hown, Keeps.refl _ _⟩
  case round =>
    obtain ⟨j, hj, rfl, hown2, hkp⟩ := hrel
    have q0 : (0 : Int) ≤ (j : Int) := by omega
    have hbr := Nat.le_trans hb hkp.size
    by_cases hlt : j < n
    · have q1 : (j : Int) < (n : Int) := by omega
      obtain ⟨B, hrd⟩ := HC.out.1 _ hkp
      obtain ⟨ad, z, hA, hab, hz, f0⟩ : ∃ ad x, A = some ad ∧ ad.block < B ∧ ns[j]? = some x ∧ wr.cell? (ad.add j) = some (.int .i64 x) := by
        obtain ⟨ad, u, hA, hb, hu, hc⟩ := hrd.at_ hlt
        obtain ⟨x, hx, rfl⟩ := vI64_at hu
        exact ⟨ad, x, hA, hb, hx, hc⟩
      subst hA
      have hz31 := num31_iff.1 (HC.out.2.1 z (List.mem_of_getElem? hz))
      obtain ⟨U, rfl⟩ : ∃ U : Nat, z = U := ⟨z.toNat, by omega⟩
      have u0 : (0 : Int) ≤ (U : Int) := by omega
      have u1 : (U : Int) < 2147483648 := by omega
      have hft : (ns.take (j + 1)).flatMap fourB = (ns.take j).flatMap fourB ++ be 4 U := by
        rw [List.take_add_one, hz]
        simp [fourB]
      have hl2 : (l ++ (ns.take j).flatMap fourB).length ≤ 100000200 := by
        have h1 : ((ns.take j).flatMap fourB).length ≤ 4 * (ns.take j).length := by
          exact four_flat _
        have h2 : (ns.take j).length ≤ 10 := by rw [List.length_take]; omega
        have := HC.out.2.2.2
        rw [List.length_append]; omega
      have HN := Lib.hid (And.intro hft hl2)
      clear hz hz31 hft hl2 hrd hab
      have hU := u1
      go_wp2_with (at_builtin; refine wpList_appR (w := wr.alloc _) rfl _ _ rfl base _ (l ++ (ns.take j).flatMap fourB) (be 4 U) (some ⟨wr.heap.size, 0, none⟩) 4 4 (wr.heap.size + 1) (by first | rfl | (simp; done)) (hown2.alloc _) (by first | rfl | (simp; done)) (by rw [← bL_be4 (by omega)]; exact reads_new wr _ _ rfl rfl) (by have := HN.out.2; rw [be_len]; omega) (by simp; omega) ?_; intro v2 w2 own2 kp2)
      go_roundw
      case rel => exact ⟨j + 1, by omega, by go_num, by rw [HN.out.1, ← List.append_assoc]; exact own2, hkp.trans ((Keeps.alloc_ hbr _).trans kp2)⟩
      case measure => simp [intOf]; omega
    · obtain rfl : j = n := by omega
      have hT : ns.take j = ns := List.take_of_length_le (by have := HC.out.2.2.1; omega)
      rw [hT] at hown2
      clear hT
      go_wp2
      go_ret
      exact ⟨_, rfl, hown2, hkp⟩
end
end Go.Proofs.Ytjlpfhioacphkaa
/-
  Books out of bytes, plain: what is written is read.
-/
namespace Go.Proofs.Ytjlpfhioacphkaa
section
set_option linter.unusedSimpArgs false
set_option linter.unusedVariables false
open Go.RowKit

abbrev Got (α : Type) := Option (α × List UInt8)
def gOne (l : List UInt8) : Got Nat := match l with
  | [] => none
  | b :: r => some (b.toNat, r)
def gTake (n : Nat) (l : List UInt8) : Got (List UInt8) := if n ≤ l.length then some (l.take n, l.drop n) else none
def gFour (l : List UInt8) : Got Nat := match gTake 4 l with
  | none => none
  | some (a, r) => some (beVal a, r)
def gText (l : List UInt8) : Got (List UInt8) := match gOne l with
  | none => none
  | some (n, r) => gTake n r
def gMany {α : Type} (g : List UInt8 → Got α) : Nat → List UInt8 → Got (List α)
  | 0, l => some ([], l)
  | n + 1, l => match g l with
    | none => none
    | some (a, r) => match gMany g n r with
      | none => none
      | some (t, r) => some (a :: t, r)
def gInt (g : List UInt8 → Got Nat) (l : List UInt8) : Got Int := match g l with
  | none => none
  | some (n, r) => some ((n : Int), r)
def gCol (l : List UInt8) : Got PC := match gText l with
  | none => none
  | some (s, r) => match gInt gOne r with
    | none => none
    | some (k, r) => match gInt gFour r with
      | none => none
      | some (d, r) => match gInt gFour r with
        | none => none
        | some (u, r) => some (⟨s, k, d, u⟩, r)
def gNums3 (l : List UInt8) : Got (Int × Int × Int) := match gInt gFour l with
  | none => none
  | some (a, r) => match gInt gFour r with
    | none => none
    | some (b, r) => match gInt gFour r with
      | none => none
      | some (c, r) => some ((a, b, c), r)
def gTab (l : List UInt8) : Got PT := match gText l with
  | none => none
  | some (s, r) => match gOne r with
    | none => none
    | some (n, r) => match gMany gCol n r with
      | none => none
      | some (cs, r) => match gNums3 r with
        | none => none
        | some ((a, b, c), r) => some (⟨s, cs, a, b, c⟩, r)
def gIdx (l : List UInt8) : Got PX := match gText l with
  | none => none
  | some (s, r) => match gInt gOne r with
    | none => none
    | some (tb, r) => match gOne r with
      | none => none
      | some (n, r) => match gMany (gInt gOne) n r with
        | none => none
        | some (cs, r) => match gNums3 r with
          | none => none
          | some ((a, b, c), r) => match gMany (gInt gFour) n r with
            | none => none
            | some (ds, r) => some (⟨s, tb, cs, a, b, c, ds⟩, r)
def gBook (l : List UInt8) : Got PB12 := match gOne l with
  | none => none
  | some (n, r) => match gMany gTab n r with
    | none => none
    | some (ts, r) => match gOne r with
      | none => none
      | some (m, r) => match gMany gIdx m r with
        | none => none
        | some (xs, r) => some (⟨ts, xs⟩, r)
theorem gOne_put {z : Int} (h0 : 0 ≤ z) (h1 : z < 256) (r : List UInt8) : gOne (oneB z ++ r) = some (z.toNat, r) := by
  unfold oneB gOne
  simp only [List.cons_append, List.nil_append, Option.some.injEq, Prod.mk.injEq, and_true]
  rw [UInt8.toNat_ofNat']
  omega
theorem gInt_one {z : Int} (h0 : 0 ≤ z) (h1 : z < 256) (r : List UInt8) : gInt gOne (oneB z ++ r) = some (z, r) := by
  unfold gInt
  rw [gOne_put h0 h1]
  simp only [Option.some.injEq, Prod.mk.injEq, and_true]
  omega
theorem gTake_put (s r : List UInt8) : gTake s.length (s ++ r) = some (s, r) := by
  unfold gTake
  rw [if_pos (by rw [List.length_append]; omega), List.take_left' rfl, List.drop_left' rfl]
theorem gInt_four {z : Int} (h : num31 z = true) (r : List UInt8) : gInt gFour (fourB z ++ r) = some (z, r) := by
  obtain ⟨h0, h1⟩ := num31_iff.1 h
  unfold gInt gFour
  have h4 : (fourB z).length = 4 := by unfold fourB; exact be_len 4 _
  have ht := gTake_put (fourB z) r
  rw [h4] at ht
  rw [ht]
  have hv : beVal (fourB z) = z.toNat := by
    unfold fourB
    rw [beVal_be]
    omega
  simp only [hv, Option.some.injEq, Prod.mk.injEq, and_true]
  omega
theorem gText_put {s : List UInt8} (h : s.length ≤ 255) (r : List UInt8) : gText (txtB s ++ r) = some (s, r) := by
  unfold gText txtB gOne
  simp only [List.cons_append]
  rw [show (UInt8.ofNat s.length).toNat = s.length from by rw [UInt8.toNat_ofNat']; omega]
  exact gTake_put s r
theorem gMany_put {α : Type} {g : List UInt8 → Got α} {f : α → List UInt8} : ∀ (l : List α), (∀ a ∈ l, ∀ r, g (f a ++ r) = some (a, r)) → ∀ r, gMany g l.length (l.flatMap f ++ r) = some (l, r) := by
  intro l
  induction l with
  | nil => intro _ r; rfl
  | cons a t ih =>
    intro h r
    rw [List.length_cons, List.flatMap_cons, List.append_assoc]
    unfold gMany
    rw [h a (by simp)]
    simp only
    rw [ih (fun b hb => h b (by simp [hb])) r]
theorem gCol_put {c : PC} (h : OkC c) (r : List UInt8) : gCol (colB c ++ r) = some (c, r) := by
  have h1 := nb_facts h.1
  unfold gCol colB
  simp only [List.append_assoc]
  rw [gText_put (by omega)]
  simp only
  rw [gInt_one (by have := h.2.1; omega) (by have := h.2.1; omega)]
  simp only
  rw [gInt_four h.2.2.1]
  simp only
  rw [gInt_four h.2.2.2]
theorem gNums3_put {a b c : Int} (ha : num31 a = true) (hb : num31 b = true) (hc : num31 c = true) (r : List UInt8) : gNums3 (fourB a ++ (fourB b ++ (fourB c ++ r))) = some ((a, b, c), r) := by
  unfold gNums3
  rw [gInt_four ha]
  simp only
  rw [gInt_four hb]
  simp only
  rw [gInt_four hc]
theorem gTab_put {t : PT} (h : MayT t) (r : List UInt8) : gTab (tabB t ++ r) = some (t, r) := by
  have h1 := nb_facts h.1
  unfold gTab tabB
  simp only [List.append_assoc]
  rw [gText_put (by omega)]
  simp only
  rw [gOne_put (by omega) (by have := h.2.2.1; omega)]
  simp only [Int.toNat_natCast]
  rw [gMany_put t.cols (fun c hc r => by
    obtain ⟨i, hi, he⟩ := List.mem_iff_getElem.1 hc
    exact gCol_put (h.2.2.2.2.2.2 i hi c (by rw [List.getElem?_eq_getElem hi, he])).1 r)]
  simp only
  rw [gNums3_put h.2.2.2.1 h.2.2.2.2.1 h.2.2.2.2.2.1]
theorem MayX.row {ts : List PT} {x : PX} (h : MayX ts x) (h8 : ∀ t ∈ ts, t.cols.length ≤ 8) : (∀ c ∈ x.cs, 0 ≤ c ∧ c < 256) ∧ ∀ d ∈ x.ds, num31 d = true := by
  have hml : x.tb.toNat < ts.length := by have := h.2.1; have := h.2.2.1; omega
  have ht := List.getElem?_eq_getElem hml
  have h9 := h8 _ (List.getElem_mem hml)
  have hlen := h.2.2.2.2.2.1
  constructor
  · intro c hc
    obtain ⟨i, hi, he⟩ := List.mem_iff_getElem.1 hc
    have h3 := (h.2.2.2.2.2.2.1 _ ht i c _ (by rw [List.getElem?_eq_getElem hi, he]) (List.getElem?_eq_getElem (show i < x.ds.length by omega))).1
    omega
  · intro d hd
    obtain ⟨i, hi, he⟩ := List.mem_iff_getElem.1 hd
    exact (h.2.2.2.2.2.2.1 _ ht i _ d (List.getElem?_eq_getElem (show i < x.cs.length by omega)) (by rw [List.getElem?_eq_getElem hi, he])).2
theorem gIdx_put {ts : List PT} {x : PX} (h : MayX ts x) (hn : ts.length ≤ 16) (h8 : ∀ t ∈ ts, t.cols.length ≤ 8) (r : List UInt8) : gIdx (idxB x ++ r) = some (x, r) := by
  have h1 := nb_facts h.1
  obtain ⟨hc, hd⟩ := h.row h8
  unfold gIdx idxB
  simp only [List.append_assoc]
  rw [gText_put (by omega)]
  simp only
  rw [gInt_one h.2.1 (by have := h.2.2.1; omega)]
  simp only
  rw [gOne_put (by omega) (by have := h.2.2.2.2.1; omega)]
  simp only [Int.toNat_natCast]
  rw [gMany_put x.cs (fun c h r => gInt_one (hc c h).1 (hc c h).2 r)]
  simp only
  rw [gNums3_put h.2.2.2.2.2.2.2.2.1 h.2.2.2.2.2.2.2.2.2.1 h.2.2.2.2.2.2.2.2.2.2]
  simp only
  rw [← h.2.2.2.2.2.1, gMany_put x.ds (fun d h r => gInt_four (hd d h) r)]
theorem gBook_put {b : PB12} (h : MayB b) (r : List UInt8) : gBook (bookB b ++ r) = some (b, r) := by
  have h8 : ∀ t ∈ b.ts, t.cols.length ≤ 8 := fun t ht => by
    obtain ⟨i, hi, he⟩ := List.mem_iff_getElem.1 ht
    exact (h.2.2.1 i hi t (by rw [List.getElem?_eq_getElem hi, he])).1.2.2.1
  unfold gBook bookB
  simp only [List.append_assoc]
  rw [gOne_put (by omega) (by have := h.1; omega)]
  simp only [Int.toNat_natCast]
  rw [gMany_put b.ts (fun t ht r => by
    obtain ⟨i, hi, he⟩ := List.mem_iff_getElem.1 ht
    exact gTab_put (h.2.2.1 i hi t (by rw [List.getElem?_eq_getElem hi, he])).1 r)]
  simp only
  rw [gOne_put (by omega) (by have := h.2.1; omega)]
  simp only [Int.toNat_natCast]
  rw [gMany_put b.xs (fun x hx r => by
    obtain ⟨i, hi, he⟩ := List.mem_iff_getElem.1 hx
    exact gIdx_put (h.2.2.2 i hi x (by rw [List.getElem?_eq_getElem hi, he])).1 h.1 h8 r)]
theorem bookB_inj {a b : PB12} (ha : MayB a) (hb : MayB b) : bookB a = bookB b ↔ a = b := by
  refine ⟨fun h => ?_, fun h => by rw [h]⟩
  have h1 := gBook_put ha []
  rw [h, gBook_put hb []] at h1
  exact (Prod.mk.inj (Option.some.inj h1)).1.symm
end
end Go.Proofs.Ytjlpfhioacphkaa
/-
  The plain parser, turned round: what is read is written as it stood.
-/
namespace Go.Proofs.Ytjlpfhioacphkaa
section
set_option linter.unusedSimpArgs false
set_option linter.unusedVariables false
open Go.RowKit

theorem gOne_inv {l : List UInt8} {n : Nat} {r : List UInt8} (h : gOne l = some (n, r)) : oneB (n : Int) ++ r = l ∧ n < 256 := by
  cases l with
  | nil => cases h
  | cons b t =>
    have h1 := Prod.mk.inj (Option.some.inj h)
    obtain ⟨rfl, rfl⟩ := h1
    exact ⟨by simp [oneB], b.toNat_lt⟩
theorem gTake_inv {k : Nat} {l a r : List UInt8} (h : gTake k l = some (a, r)) : a ++ r = l ∧ a.length = k := by
  unfold gTake at h
  split at h
  · rename_i hk
    obtain ⟨rfl, rfl⟩ := Prod.mk.inj (Option.some.inj h)
    exact ⟨List.take_append_drop _ _, by rw [List.length_take]; omega⟩
  · cases h
theorem gFour_inv {l : List UInt8} {n : Nat} {r : List UInt8} (h : gFour l = some (n, r)) : fourB (n : Int) ++ r = l := by
  unfold gFour at h
  split at h
  · cases h
  · rename_i a r' ha
    obtain ⟨rfl, rfl⟩ := Prod.mk.inj (Option.some.inj h)
    obtain ⟨h1, h2⟩ := gTake_inv ha
    have h3 := be_beVal a
    rw [h2] at h3
    unfold fourB
    rw [Int.toNat_natCast, h3, h1]
theorem gInt_inv {g : List UInt8 → Got Nat} {l : List UInt8} {z : Int} {r : List UInt8} (h : gInt g l = some (z, r)) : ∃ n : Nat, z = n ∧ g l = some (n, r) := by
  unfold gInt at h
  split at h
  · cases h
  · rename_i n r' ha
    obtain ⟨rfl, rfl⟩ := Prod.mk.inj (Option.some.inj h)
    exact ⟨n, rfl, ha⟩
theorem gI1_inv {l : List UInt8} {z : Int} {r : List UInt8} (h : gInt gOne l = some (z, r)) : oneB z ++ r = l := by
  obtain ⟨n, rfl, h1⟩ := gInt_inv h
  exact (gOne_inv h1).1
theorem gI4_inv {l : List UInt8} {z : Int} {r : List UInt8} (h : gInt gFour l = some (z, r)) : fourB z ++ r = l := by
  obtain ⟨n, rfl, h1⟩ := gInt_inv h
  exact gFour_inv h1
theorem gText_inv {l s r : List UInt8} (h : gText l = some (s, r)) : txtB s ++ r = l := by
  unfold gText at h
  split at h
  · cases h
  · rename_i n r' ha
    obtain ⟨h1, h2⟩ := gTake_inv h
    obtain ⟨h3, h4⟩ := gOne_inv ha
    rw [← h3, ← h1]
    unfold txtB oneB
    rw [h2]
    simp
theorem gMany_inv {α : Type} {g : List UInt8 → Got α} {f : α → List UInt8} (hg : ∀ l a r, g l = some (a, r) → f a ++ r = l) : ∀ (n : Nat) (l : List UInt8) (t : List α) (r : List UInt8), gMany g n l = some (t, r) → t.flatMap f ++ r = l ∧ t.length = n := by
  intro n
  induction n with
  | zero =>
    intro l t r h
    obtain ⟨rfl, rfl⟩ := Prod.mk.inj (Option.some.inj h)
    exact ⟨rfl, rfl⟩
  | succ n ih =>
    intro l t r h
    unfold gMany at h
    split at h
    · cases h
    · rename_i a r' ha
      split at h
      · cases h
      · rename_i t' r'' hb
        obtain ⟨rfl, rfl⟩ := Prod.mk.inj (Option.some.inj h)
        obtain ⟨h1, h2⟩ := ih _ _ _ hb
        refine ⟨?_, by rw [List.length_cons, h2]⟩
        rw [List.flatMap_cons, List.append_assoc, h1]
        exact hg _ _ _ ha
theorem gCol_inv (l : List UInt8) (c : PC) (r : List UInt8) (h : gCol l = some (c, r)) : colB c ++ r = l := by
  unfold gCol at h
  split at h
  · cases h
  rename_i s r1 h1
  split at h
  · cases h
  rename_i k r2 h2
  split at h
  · cases h
  rename_i d r3 h3
  split at h
  · cases h
  rename_i u r4 h4
  obtain ⟨rfl, rfl⟩ := Prod.mk.inj (Option.some.inj h)
  rw [← gText_inv h1, ← gI1_inv h2, ← gI4_inv h3, ← gI4_inv h4]
  simp only [colB, List.append_assoc]
theorem gNums3_inv {l : List UInt8} {a b c : Int} {r : List UInt8} (h : gNums3 l = some ((a, b, c), r)) : fourB a ++ (fourB b ++ (fourB c ++ r)) = l := by
  unfold gNums3 at h
  split at h
  · cases h
  rename_i a' r1 h1
  split at h
  · cases h
  rename_i b' r2 h2
  split at h
  · cases h
  rename_i c' r3 h3
  obtain ⟨h4, rfl⟩ := Prod.mk.inj (Option.some.inj h)
  obtain ⟨rfl, h5⟩ := Prod.mk.inj h4
  obtain ⟨rfl, rfl⟩ := Prod.mk.inj h5
  rw [← gI4_inv h1, ← gI4_inv h2, ← gI4_inv h3]
theorem gTab_inv (l : List UInt8) (t : PT) (r : List UInt8) (h : gTab l = some (t, r)) : tabB t ++ r = l := by
  unfold gTab at h
  split at h
  · cases h
  rename_i s r1 h1
  split at h
  · cases h
  rename_i n r2 h2
  split at h
  · cases h
  rename_i cs r3 h3
  split at h
  · cases h
  rename_i a b c r4 h4
  obtain ⟨rfl, rfl⟩ := Prod.mk.inj (Option.some.inj h)
  obtain ⟨h5, h6⟩ := gMany_inv gCol_inv _ _ _ _ h3
  rw [← gText_inv h1, ← (gOne_inv h2).1, ← h5, ← gNums3_inv h4, ← h6]
  simp only [tabB, List.append_assoc]
theorem gIdx_inv (l : List UInt8) (x : PX) (r : List UInt8) (h : gIdx l = some (x, r)) : idxB x ++ r = l := by
  unfold gIdx at h
  split at h
  · cases h
  rename_i s r1 h1
  split at h
  · cases h
  rename_i tb r2 h2
  split at h
  · cases h
  rename_i n r3 h3
  split at h
  · cases h
  rename_i cs r4 h4
  split at h
  · cases h
  rename_i a b c r5 h5
  split at h
  · cases h
  rename_i ds r6 h6
  obtain ⟨rfl, rfl⟩ := Prod.mk.inj (Option.some.inj h)
  obtain ⟨h7, h8⟩ := gMany_inv (fun _ _ _ h => gI1_inv h) _ _ _ _ h4
  obtain ⟨h9, h10⟩ := gMany_inv (fun _ _ _ h => gI4_inv h) _ _ _ _ h6
  rw [← gText_inv h1, ← gI1_inv h2, ← (gOne_inv h3).1, ← h7, ← gNums3_inv h5, ← h9, ← h8]
  simp only [idxB, List.append_assoc]
/-- What is read as a book is written as it stood. -/
theorem gBook_inv {l : List UInt8} {b : PB12} {r : List UInt8} (h : gBook l = some (b, r)) : bookB b ++ r = l := by
  unfold gBook at h
  split at h
  · cases h
  rename_i n r1 h1
  split at h
  · cases h
  rename_i ts r2 h2
  split at h
  · cases h
  rename_i m r3 h3
  split at h
  · cases h
  rename_i xs r4 h4
  obtain ⟨rfl, rfl⟩ := Prod.mk.inj (Option.some.inj h)
  obtain ⟨h5, h6⟩ := gMany_inv gTab_inv _ _ _ _ h2
  obtain ⟨h7, h8⟩ := gMany_inv gIdx_inv _ _ _ _ h4
  rw [← (gOne_inv h1).1, ← h5, ← (gOne_inv h3).1, ← h7, ← h6, ← h8]
  simp only [bookB, List.append_assoc]
theorem bookB_of {l : List UInt8} {b : PB12} (h : gBook l = some (b, [])) : bookB b = l := by
  have := gBook_inv h
  rwa [List.append_nil] at this
end
end Go.Proofs.Ytjlpfhioacphkaa
